import PyProof.Rows.All
import Wide.All
import OpenK.AllK
import Wide.FinOn
import PyProof.EqAt
import PyProof.EqKinds
import PyProof.TupleCall
import Lean
import PySem.Challenge.RW_onceroad_k72_sets_forged
set_option Elab.async false
set_option linter.all false
set_option maxRecDepth 100000
local macro_rules | `(tactic| show $e)=>`(tactic| refine $e)
abbrev LQ:=List Int
abbrev LI:=List PySem.Addr
abbrev LN:=List Nat
abbrev LS:=List PySem.Str
abbrev LP:=List (PySem.Str×PySem.Str)
local macro_rules | `(tactic| room)=>`(tactic| decide +kernel)
local macro_rules | `(tactic| lk)=>`(tactic| first | lia | omega)
set_option hygiene false
local macro_rules | `(wqqe $a $b $c $d)=>`(DefOk P w K mg base CX0 $a $b $c $d)
local macro_rules | `(wqqf $a $b $c $d $e)=>`(MethOk P w K mg base CX0 $a $b $c $d $e)
local macro_rules | `(wqqg $a $b $c $d $e)=>`(FnOk P w K mg base CX0 $a $b $c $d $e)
local macro_rules | `(wqqh $a $b $c $d $e)=>`(MakeOk P w K mg base CX0 $a $b $c $d $e)
set_option hygiene true
noncomputable section
abbrev wa:LS:=["_law_names_here","_law_ties","_law_start","_law_thing","_law_places","_law_near_here"]
abbrev wh:LS:=["_law_names_here","_law_ties","_law_start","_law_thing","_law_places","_law_others"]
abbrev wqa:List String:=["NoneType","bool","int","str","list","tuple","dict"]
abbrev wqb:LS:=["thing"]
abbrev wqc:LS:=["_law_ties","_law_start"]
abbrev wqd:LS:=["_law_names_here","_law_ties","_law_start","_law_thing"]
abbrev wqe:LS:=["self","place"]
abbrev wqf:LS:=["web","start"]
abbrev wqg:LS:=["_law_cell","_law_apart","_law_box_here","_law_many","_law_names_here","_law_thick","_law_side","_law_ties","_law_i","_law_j","_law_there"]
abbrev wqh:LS:=["self","found"]
abbrev wqi:LS:=["web","start","near","others","picked","chosen"]
abbrev wqj:LS:=["_law_one","_law_names_here"]
abbrev wqk:LS:=["_law_ties","_law_here","_law_places"]
abbrev wql:LS:=["_law_names_here","_law_some","_law_found","_law_name"]
abbrev wqm:LS:=["_law_i","_law_j","_law_names_here"]
abbrev wqn:LS:=["_law_web_here","_law_names_here","_law_ties","_law_start","_law_thing"]
abbrev wqo:LS:=["_law_box_here","_law_many"]
abbrev wqp:LS:=["web","place"]
abbrev wqq:LS:=["numbers","thing"]
abbrev wqr:LS:=["_law_web_here","_law_names_here","_law_start","_law_way"]
abbrev wqs:LS:=["self"]
abbrev wqt:LS:=["_law_names_here","_law_ties","_law_start","_law_cell"]
abbrev wqu:LS:=["_law_ties","_law_start","_law_side"]
abbrev wqv:LS:=["names","numbers"]
abbrev wqw:LS:=["play","player","hand","many","most"]
abbrev wqx:LS:=["_law_ties","_law_here"]
abbrev wqy:LS:=["web","places"]
abbrev wqz:LS:=["_law_web_here","_law_names_here","_law_start"]
abbrev wqA:LS:=["web","start","thing"]
abbrev wqB:LS:=["bits","number"]
abbrev wqC:LS:=["_law_names_here","_law_ties","_law_handed"]
abbrev wqD:LS:=["web","ways","one","other","ones","others"]
abbrev wqE:LS:=["thing","low","high"]
abbrev wqF:LS:=["web","side","thing"]
abbrev wqG:LS:=["self","web","start"]
abbrev wqH:LS:=["self","thing"]
abbrev wqI:LS:=["self","names","ties"]
abbrev wqJ:LS:=["numbers","goal"]
abbrev wqK:LS:=["self","text"]
abbrev wqL:LS:=["_law_place","_law_side"]
abbrev wqM:LS:=["place","start","chosen"]
abbrev wqN:List String:=["ValueError","Exception","BaseException","object"]
abbrev wqO:LS:=["_law_script","_law_k"]
abbrev wqP:LS:=["self","names"]
abbrev wqQ:LS:=["road","player","hand"]
abbrev wqR:List String:=["NoneType","int","str","list"]
abbrev wqS:LS:=["_law_names_here","_law_ties"]
abbrev wqT:LS:=["_law_i","_law_j","_law_here"]
abbrev wqU:LS:=["_law_names_here","_law_some"]
abbrev wqV:LS:=["self","bits"]
abbrev wqW:LS:=["self","numbers"]
abbrev wqX:LS:=["_law_near_here","_law_ties","_law_places"]
abbrev wqY:LS:=["web","start","sides","own"]
abbrev wqZ:LS:=["_law_far_here","_law_ties","_law_places"]
abbrev wq0:LS:=["_law_cell","_law_apart"]
abbrev wq1:LS:=["web","start","numbers"]
abbrev wq2:LS:=["play","hand","leader","follower"]
abbrev wq3:LS:=["place","start"]
abbrev wq4:LS:=["web","start","ways"]
abbrev wq5:LS:=["numbers"]
abbrev wq6:LS:=["self","one","other"]
abbrev wq7:LS:=["one","other","self"]
abbrev wq8:LS:=["place","ways"]
abbrev wq9:LS:=["step","steps"]
abbrev wqqa:LS:=["place","own"]
abbrev wqqb:LS:=["_law_script"]
abbrev wqqc:LS:=["numbers","ties"]
abbrev wqqd:LS:=["_law_name"]
theorem wqqi:0<=PySem.sizeLine:=by decide
theorem wqqj:1<=PySem.sizeLine:=by decide
theorem wqqk:2<=PySem.sizeLine:=by decide
theorem wqql:3<=PySem.sizeLine:=by decide
theorem wqqm:4<=PySem.sizeLine:=by decide
theorem ya{a b:Type}{as:List a}(f:a→b):(as.map f).length=as.length:=List.length_map f
theorem yb{a:Type}{l:List a}{i:Nat}(h:i<l.length):l[i]?=some l[i]:=List.getElem?_eq_getElem h
theorem yc{b:Type}{l:List b}{i:Nat}{a:b}:l[i]?=some a↔∃h:i<l.length,l[i]=a:=List.getElem?_eq_some_iff
theorem yd{a b:Type}{f:a→b}{l:List a}{i:Nat}:(l.map f)[i]?=l[i]?.map f:=List.getElem?_map
theorem ye{b:Type}{l:List b}{i:Nat}{a:b}(h:l[i]?=some a):a∈l:=List.mem_of_getElem? h
abbrev yf:=PySem.W.Frag
theorem yg(n:Nat):n≤n:=Nat.le_refl n
theorem yh{a b c:Nat}(h:a≤b)(k:b≤c):a≤c:=Nat.le_trans h k
theorem yi{a b c:Nat}(h:a<b)(k:b≤c):a<c:=Nat.lt_of_lt_of_le h k
theorem yj{p:Prop}[Decidable p](h:decide p=true):p:=of_decide_eq_true h
theorem yk{p:Prop}[Decidable p](h:¬p):decide p=false:=decide_eq_false h
theorem yl{c:Type}{a b:c}(h:some a=some b):a=b:=Option.some.inj h
theorem ym{c d:Type}{f:c→d}{x:Option c}{b:d}:x.map f=some b↔∃a,x=some a∧f a=b:=Option.map_eq_some_iff
theorem yn{b:Type}{a:b}{l:List b}:(a::l).Nodup↔a∉l∧l.Nodup:=List.nodup_cons
theorem yo{a:Type}{p:a→Bool}{as:List a}{x:a}:x∈as.filter p↔x∈as∧p x=true:=List.mem_filter
theorem yp{A B:Prop}(h:B):if false=true then A else B:=h
def yq:=@PySem.wpAny_bind
def yr:=@List.mem_singleton
def yt:=@List.map_append
def yu:=@PySem.Heap.get?_push_of_some
def yv:=@decide_eq_true
def yw:=@List.mem_cons_of_mem
def yx:=@List.length_append
def yy:=@List.mem_cons
def yz:=@List.size_toArray
def yA:=@PySem.wpAny_pure
def yB:=@if_neg
def yC:=@List.mem_cons_self
def yD:=@List.take_length
def yE:=@List.mem_map
def yF:=@Or.inl
def yG:=@List.length_filter_le
def yH:=@if_pos
def yI:=@Nat.le_of_lt
def yJ:=@decide_eq_true_iff
def yK:=@List.mem_append
def yL:=@List.take_add_one
def yM:=@PySem.Heap.lt_size
def yN:=@List.length_take
def yO:=@PySem.F.plainAttrs_list
def yP:=@List.getElem?_append_left
def yQ:=@List.mem_append_right
def yR:=@List.not_mem_nil
def yS:=@PySem.Heap.get?_push_size
def yT:=@PySem.F.slot_list_append
def yU:=@PySem.F.type_list_append
def yV:=@PyProof.Rows.boot_isinstance
def yW:=@PySem.PassesOwn.never
def yX:=@List.getElem?_append_right
def yY:=@List.getD_eq_getElem?_getD
def yZ:=@List.filter_cons
def y6:=@List.append_nil
def Yb:=@List.length_cons
def Yc:=@decide_eq_decide
def Yd:=@List.filter_append
def Ye:=@Bool.eq_iff_iff
def Yg:=@Nat.testBit_xor
def Yh:=@List.length_range
def Yi:=@Nat.zero_le
def Yj:=@List.idxOf_lt_length_of_mem
def Yk:=@Nat.ne_of_lt
def Ym:=@Int.toNat_natCast
def Yn:=@Bool.and_eq_true
def Yp:=@List.all_eq_true
def Yq:=@beq_iff_eq
def Yr:=@beq_eq_false_iff_ne
def Ys:=@List.map_cons
def Yt:=@PyProof.Rows.callWith_type1
def Yu:=@List.mem_range
def Yv:=@Ne.symm
def Yw:=@Nat.lt_irrefl
def Yx:=@List.contains_cons
def Yy:=@List.getElem_idxOf
def Yz:=@List.mem_append_left
def YA:=@PySem.Heap.get?_update_other
def YB:=@PySem.W.mg_none_of
def YC:=@Bool.false_ne_true
def YD:=@PySem.wpAny_mono
def YE:=@Nat.zero_testBit
def YF:=@PySem.wpAny_holding
def YG:=@List.append_assoc
def YH:=@PySem.wpAny_loadPart_at
def YI:=@List.nodup_append
def YJ:=@or_false
def YK:=@True.intro
def YL:=@List.map_map
def YM:=@PySem.boot_len
def YN:=@PySem.W.looks_findIn
def YO:=@Nat.le_succ
def YQ:=@Nat.eq_of_testBit_eq
def YR:=@Nat.pow_le_pow_right
def YS:=@Bool.xor_false
def YT:=@List.length_nil
def YU:=@Nat.testBit_lt_two_pow
def YV:=@List.length_replicate
def YW:=@PySem.F.slot_NoneType_eq
def YX:=@Int.emod_nonneg
def YY:=@PySem.W.callWith_K
def YZ:=@PySem.wpAny_truthy_bool
def Y6:=@PySem.F.excBase_ValueError
def Y7:=@List.pairwise_map
def Y8:=@Array.length_toList
def Y9:=@Nat.testBit_two_pow
def xi:=@PySem.sizeLine_eq
def xj:=@PySem.wpAny_of_eq
def xk:=@List.length_singleton
def xl:=@List.getElem?_eq_none
def xm:=@PySem.wpAny_Call_Name_kw
def xn:=@List.any_eq_true
def xo:=@Int.emod_lt_of_pos
def xp:=@List.getElem?_set_ne
def xq:=@PySem.Heap.size_push
def xr:=@PyProof.Rows.boot_list
def xt:=@List.find?_cons
def xu:=@Bool.or_eq_true
def xv:=@List.replicate_succ
def xx:=@PySem.W.looks_mroIn
def xy:=@PySem.wpAny_isSubtype_exc
def xz:=@List.length_reverse
def xA:=@List.all_map
def xB:=@List.take_of_length_le
def xC:=@Nat.zero_xor
def xD:=@beq_self_eq_true
def xE:=@List.lookup_append
def xF:=@Array.getElem?_eq_some_iff
def xG:=@Nat.mod_two_eq_zero_or_one
def xH:=@PySem.W.methodCall_KW
def xI:=@PySem.Heap.get?_update_self
def xJ:=@Array.getElem?_toList
def xK:=@PySem.W.mg_of
def xL:=@Classical.byContradiction
def xM:=@PySem.wpAny_passesOwn
def xN:=@List.range_succ
def xO:=@Nat.ne_of_gt
def xP:=@PySem.wpAny_newObj_type
def xQ:=@Bool.not_eq_true'
def xR:=@PySem.codeAny_call_builtin
def xS:=@Nat.zero_add
def xT:=@PySem.wpAny_call
def xU:=@List.all_cons
def xV:=@PyProof.Rows.slot_tuple_getitem
def xW:=@PySem.mem_of_lookup
def xX:=@List.map_congr_left
def xY:=@PySem.W.any_some
def xZ:=@List.lookup_cons
def Xa:=@PySem.wpAny_getItem_str_slice
def Xb:=@List.getElem_mem
def Xc:=@Nat.le_add_right
def Xd:=@decide_eq_false_iff_not
def Xe:=@Nat.testBit_or
def Xf:=@List.getElem?_set_self
def Xg:=@PySem.codeAny_mono
def Xh:=@Nat.lt_of_le_of_lt
def Xi:=@Nat.xor_zero
def Xj:=@List.pairwise_cons
def Xk:=@List.filter_eq_nil_iff
def Xl:=@Or.inr
def Xm:=@List.flatten_cons
def Xn:=@Bool.false_and
def Xo:=@Nat.pow_lt_pow_right
def Xp:=@List.perm_ext_iff_of_nodup
def Xq:=@if_true
def Xr:=@List.pairwise_iff_getElem
def Xs:=@Nat.lt_pow_two_of_testBit
def Xu:=@List.filterMap_cons
def Xv:=@List.getElem?_range
def Xw:=@PySem.wpAny_standAt
def Xx:=@Option.isSome_iff_exists
def Xy:=@PySem.Value.ref.inj
def Xz:=@Bool.xor_true
def XA:=@Int.natCast_pow
def XB:=@List.filter_nil
def XC:=@PySem.tupleKind_room_in1
def XD:=@List.getElem?_replicate
def XE:=@PySem.wpAny_field
def XF:=@PySem.F.slot_list_index
def XG:=@PySem.Calls.callWith_builtin
def XH:=@PySem.wpAny_pyIter_list
def XI:=@Array.getElem?_eq_none
def XJ:=@List.filter_congr
def XM:=@Nat.lt_succ_self
def XR:=@Nat.min_le_right
def XS:=@List.length_drop
def XT:=@PySem.call_meets
def XU:=@Nat.le_of_not_lt
def XV:=@PyProof.Rows.boot_tuple
def XW:=@List.any_cons
def XY:=@List.cons.inj
def XZ:=@Prod.ext
def X6:=@List.mem_of_mem_take
def X7:=@List.pairwise_append
def X8:=@List.getElem?_of_mem
def X9:=@PySem.wpAny_execs_nil
def kc:=@List.length_set
def ke:=@PySem.SeqAt.EqAt.same
def kf:=@Option.map_some
def kg:=@PySem.post_val_or_str
def kh:=@PySem.W.plainGet_of
def ki:=@PySem.W.looks_clsIn
def kj:=@Array.toList_append
def kl:=@List.map_eq_nil_iff
def km:=@Bool.or_true
def kn:=@PySem.Calls.spliced_cons
def ko:=@Bool.false_eq_true
def kq:=@PySem.wpAny_tryCatch
def kr:=@Bool.and_false
def kt:=@Nat.xor_lt_two_pow
def ku:=@PySem.repr_of_reads'
def kx:=@PyProof.Rows.boot_all
def ky:=@List.mem_replicate
def kz:=@Sum.inr.inj
def kA:=@PySem.Calls.spliced_nil
def kB:=@List.take_sublist
def kC:=@PySem.slot_list_getitem
def kE:=@Option.isSome_map
def kF:=@Bool.eq_false_iff
def kG:=@PySem.Heap.get?_push_at
def kH:=@Nat.or_lt_two_pow
def kI:=@Nat.one_shiftLeft
def kJ:=@Bool.or_false
def kK:=@PySem.wpAny_attempt
def kL:=@PySem.W.mg_of
def kM:=@Bool.true_and
def kN:=@if_false
def kO:=@Nat.succ_le_succ
def kQ:=@List.cons_append
def kR:=@PySem.wpAny_askSetting
def kS:=@List.drop_length
def kT:=@Nat.testBit_log2
def kU:=@List.map_reverse
def kW:=@List.isEmpty_iff
def kX:=@List.map_nil
def kY:=@PySem.Txt.slice_le
def kZ:=@Int.zero_add
def k7:=@List.of_mem_zip
def k8:=@Nat.min_eq_left
def k9:=@Nat.div_add_mod
def Ka:=@Bool.false_xor
def Kb:=@Prod.mk.injEq
def Kc:=@List.map_drop
def Kd:=@Nat.le_of_eq
def Ke:=@decide_false
def Kg:=@Eq.symm
def Kh:=@not_or
def Ki:=@Iff.rfl
namespace L2
open PySem PySem.Spec PyProof.Rows
def jd(s:Stmt)(j:Nat):Stmt:=match s with
 | .ClassDef _ _ _ body _ _ _ _ _ _ _=>body.getD j (.Pass ⟨0,0,0,0⟩)
 | _=>.Pass ⟨0,0,0,0⟩
def qa7(s:Stmt):Arguments:=match s with
 | .FunctionDef _ a _ _ _ _ _ _ _ _=>a
 | _=>{ posonlyargs:=[],args:=[],vararg:=none,kwonlyargs:=[],kw_defaults:=[],kwarg:=none,defaults:=[] }
def zk(s:Stmt):List Stmt:=match s with
 | .FunctionDef _ _ b _ _ _ _ _ _ _=>b
 | _=>[]
def qf(s:Stmt):Scope:=match s with
 | .FunctionDef _ _ _ _ _ _ sc _ _ _=>sc
 | _=>{ kind:=.function,names:=[],isGenerator:=false,isCoroutine:=false }
end L2
namespace K72
open PySem L2 PyProof.Rows
def top(i:Nat):Stmt:=PySem.Challenge.pw_onceroad_k72_sets_forged.main.body.getD i (.Pass ⟨0,0,0,0⟩)
abbrev jR:Stmt:=jd (top 2) 0
abbrev zm:Stmt:=jd (top 5) 0
abbrev j9:Stmt:=jd (top 11) 0
abbrev jS:Stmt:=jd (top 12) 0
abbrev zG:Stmt:=top 25
abbrev qbo:Stmt:=top 30
abbrev qaf:Stmt:=top 31
abbrev jT:Stmt:=top 32
abbrev zQ:Stmt:=top 33
abbrev qaT:Stmt:=jd (top 29) 0
abbrev qbq:Stmt:=top 34
abbrev zR:Stmt:=jd (top 29) 1
abbrev jB:Stmt:=jd (top 29) 4
abbrev jC:Stmt:=jd (top 29) 6
abbrev zS:Stmt:=jd (top 29) 7
abbrev jG:Stmt:=jd (top 29) 8
abbrev jO:Stmt:=jd (top 29) 12
abbrev zT:Stmt:=jd (top 29) 10
abbrev zn:Stmt:=top 35
abbrev qaU:Stmt:=jd (top 29) 2
abbrev za:Stmt:=top 17
abbrev zB:Stmt:=top 19
abbrev qbt:Stmt:=top 18
abbrev zE:Stmt:=top 16
abbrev qai:Stmt:=top 23
abbrev zI:Stmt:=top 24
abbrev jr:Stmt:=top 41
abbrev qav:Stmt:=top 42
abbrev qaV:Stmt:=top 43
abbrev qaW:Stmt:=top 44
abbrev qct:Stmt:=top 40
abbrev qaw:Stmt:=top 82
abbrev qdb:Stmt:=top 83
abbrev qb6:Stmt:=top 84
abbrev jj:Stmt:=top 85
abbrev qaM:Stmt:=top 86
abbrev qbJ:Stmt:=top 87
abbrev qaj:Stmt:=top 88
abbrev qbu:Stmt:=top 89
abbrev qbv:Stmt:=top 90
abbrev qcw:Stmt:=top 91
abbrev qaP:Stmt:=top 92
abbrev zr:Stmt:=top 48
abbrev jX:Stmt:=top 46
abbrev qak:Stmt:=top 47
abbrev jc:Stmt:=top 51
abbrev qal:Stmt:=top 52
abbrev qb7:Stmt:=top 53
abbrev jH:Stmt:=top 50
abbrev qam:Stmt:=top 49
abbrev jo:Stmt:=top 14
abbrev qb8:Stmt:=top 39
abbrev zt:Stmt:=top 56
abbrev qby:Stmt:=top 54
abbrev qb9:Stmt:=top 55
abbrev jD:Stmt:=top 93
abbrev j0:Stmt:=top 94
abbrev qaY:Stmt:=top 95
abbrev qaZ:Stmt:=top 96
abbrev qT:Stmt:=top 97
abbrev qax:Stmt:=jd (top 66) 0
abbrev js:Stmt:=jd (top 74) 0
abbrev jw:Stmt:=jd (top 74) 3
abbrev jt:Stmt:=jd (top 74) 1
abbrev qbA:Stmt:=top 58
abbrev zL:Stmt:=top 78
abbrev ze:Stmt:=jd (top 62) 0
abbrev zf:Stmt:=top 64
abbrev jU:Stmt:=top 69
abbrev zC:Stmt:=jd (top 77) 0
abbrev zZ:Stmt:=jd (top 7) 0
abbrev qf8:Stmt:=top 70
abbrev jV:Stmt:=top 71
abbrev qcz:Stmt:=top 72
abbrev qbd:Stmt:=jd (top 74) 6
abbrev qa0:Stmt:=top 79
abbrev zo:Stmt:=top 80
abbrev jE:Stmt:=top 98
abbrev qQ:Stmt:=top 99
abbrev qel:Stmt:=top 100
end K72
namespace Hd
open PySem PySem.W PySem.Calls PyProof.Rows
variable{N:Nat}{p q:Program}{w:World}{α:Type}
def qhl(c:String->Option Builtin)(p:Program)(w:World)(a:Nat)(b:Option Value):Nat->SharedT->Thread->Option SharedT
 | 0,_,_=>none
 | n+1,s,t=>match through t with
  | true=>some s
  | false=>match stepOk a b t with
   | false=>none
   | true=>match stepT (denote c) p w s t with
    | some (s',t')=>qhl c p w a b n s' t'
    | none=>none
theorem qg5{d:String->Option Builtin}{a:Nat}{b:Option Value}:∀{n:Nat} {s s':SharedT} {t:Thread},qhl d p w a b n s t=some s'->topRun d p w a b n s.abs t=some s'.abs
 | 0,_,_,_,h=>by cases h
 | n+1,s,s',t,h=>by
  unfold qhl at h;unfold topRun
  cases e:through t with
  | true=>rw[e] at h;cases h;rfl
  | false =>
   rw[e] at h
   cases f:stepOk a b t with
   | false=>rw[f] at h;cases h
   | true =>
    rw[f] at h
    cases c:stepT (denote d) p w s t with
    | none=>rw[c] at h;cases h
    | some r=>obtain⟨g,i⟩:=r;rw[c] at h;rw[stepT_spec c];show qg5 h
def qen:List Obj->Nat->BT->BT
 | [],_,t=>t
 | o::r,n,t=>qen r (n+1) (t.ins n o)
def qga(P:Params)(a:OsState):SharedT:=⟨qen (boot_heap P).objs.toList 0 .nil,(boot_heap P).objs.size,(boot_heap P).life,Array.mk [],boot_drawn,boot_toks,a⟩
theorem boot_abs(P:Params):absHeap (qen (boot_heap P).objs.toList 0 .nil) (boot_heap P).objs.size (boot_heap P).life=boot_heap P:=by kernel_rfl
def qgr(p q:Program)(Xt:Shared->Bool){α:Type}(Yf:Shared->α)(N:Nat)(w:World)(a:OsState):=match (boot_heap w.params).isNs mainGlobals&&(Array.mk []:Array GenState).size==0 with
 | true=>(qhl treeTable p w (boot_heap w.params).objs.size ((boot_heap w.params).nsMap mainGlobals "__annotations__") N (qga w.params a) (topStub p)).bind λs=>match staticsOk (importedModules p.main.body) (boot_heap w.params) s.abs.heap&&namesBound p s.abs.heap&&gensDone s.abs&&laidKept (boot_heap w.params) s.abs.heap with
   | true=>some (openSeen q [] (importedModules p.main.body) Xt true s.abs,Yf s.abs)
   | false=>none
 | false=>none
def lookR(p:Program)(N:Nat)(w:World)(a:OsState):Option Shared:=match (boot_heap w.params).isNs mainGlobals&&(Array.mk []:Array GenState).size==0 with
 | true=>(qhl treeTable p w (boot_heap w.params).objs.size ((boot_heap w.params).nsMap mainGlobals "__annotations__") N (qga w.params a) (topStub p)).map λs=>s.abs
 | false=>none
theorem lookT_of{Xt:Shared->Bool}{Yf:Shared->α}{b:OsState}{y:α}
  (h1:(lookR p N w b).map (λs=>(staticsOk (importedModules p.main.body) (boot_heap w.params) s.heap&&namesBound p s.heap&&gensDone s&&laidKept (boot_heap w.params) s.heap,seen ((recsOf q).map (·.name)) (ownsOf q) [] { s with gens:=#[] }))=some (true,expectedOf q))
  (c:(lookR p N w b).map (λs=>(s.heap.bltView,s.heap.keysOk (looseW q []) ((recsOf q).map (·.name)) ((litsOf q).map (·.1)) ((clssOf q (looseW q [])).map (·.name))&&s.heap.accountedOkI (importedModules p.main.body)&&s.heap.isNs mainGlobals&&s.heap.isNs builtinsNs&&tablesOk q s.heap&&Xt s&&(if true then s.gens.size==0 else !leftWithCleanup s.gens),tabsOk q s))=some (bltViewBooted,true,true))
  (d:(lookR p N w b).map (λs=>(pinSeenD q (drecsOf q) s,plainSeenE q (looseW q []) s,plainSeenD q [] s,wideSeen q s,clsSeenW q [] s))=some (pinGoodD (drecsOf q),plainGoodE q (looseW q []),plainGoodD q [],wideGood q,clsGoodW q []))
  (a:(lookR p N w b).map Yf=some y):qgr p q Xt Yf N w b=some (openGood q [],y):=by
 unfold qgr;unfold lookR at h1 c d a
 cases hb:(boot_heap w.params).isNs mainGlobals&&(Array.mk []:Array GenState).size==0 with
 | false=>rw[hb] at a;cases a
 | true =>
  rw[hb] at h1 c d a;dsimp only at h1 c d a ⊢
  cases m:qhl treeTable p w (boot_heap w.params).objs.size ((boot_heap w.params).nsMap mainGlobals "__annotations__") N (qga w.params b) (topStub p) with
  | none=>rw[m] at a;cases a
  | some s =>
   rw[m] at h1 c d a;have l:=yl h1;have e:=yl c;have n:=yl d;have f:=congrArg (λz=>z.1) l;have g:=congrArg (λz=>z.2) l;have h:=congrArg (λz=>z.1) e;have i:=congrArg (λz=>z.2.1) e;have j:=congrArg (λz=>z.2.2) e;dsimp only at f g h i j;show(match staticsOk (importedModules p.main.body) (boot_heap w.params) s.abs.heap&&namesBound p s.abs.heap&&gensDone s.abs&&laidKept (boot_heap w.params) s.abs.heap with | true=>some (openSeen q [] (importedModules p.main.body) Xt true s.abs,Yf s.abs) | false=>none)=_;rw[f];show congrArg some (XZ (XZ g (XZ h (XZ i (XZ j n)))) (yl a))
theorem left_of{Xt:Shared->Bool}{Yf:Shared->α}{Ya:World->α}(e:opening p=plainProg p.main.scope.names)(m:Nat.ble 600 N=true)(f:∀ s,fenceModules? p s=some s)
  (h:∀ w a,qgr p q Xt Yf N w a=some (openGood q [],Ya w)):LeftO p q [] Xt Yf Ya N:=λw=>by
 obtain⟨⟨h0,l,d,k,a⟩,i,j⟩:=ym.mp (boot_open e m f w);obtain⟨rfl,rfl,rfl,rfl⟩:h0=boot_heap w.params/\l=Array.mk []/\d=boot_drawn/\k=boot_toks:=by simpa using j
 have b:=h w a;unfold qgr at b;unfold openEnds;rw[i];show(topFrom treeTable p w N _).map _=_;unfold topFrom;dsimp only;split at b
 .rename_i z
  rw[z];obtain⟨s,n,c⟩:=Option.bind_eq_some_iff.mp b;have r:=qg5 n
  have g:(qga w.params a).abs=⟨boot_heap w.params,Array.mk [],boot_drawn,boot_toks,a⟩:=by
   unfold qga SharedT.abs;dsimp only;rw[boot_abs]
  rw[g] at r;dsimp only;rw[r];split at c
  .rename_i z2
   show((match staticsOk (importedModules p.main.body) (boot_heap w.params) s.abs.heap&&namesBound p s.abs.heap&&gensDone s.abs&&laidKept (boot_heap w.params) s.abs.heap with | true=>some s.abs | false=>none):Option Shared).map _=_;rw[z2];show c
  .cases c
 .cases b
end Hd
namespace K72
open PySem L2 PyProof.Rows PySem.W
abbrev NN:Nat:=20000
def Q:Program:=view PySem.Challenge.pw_onceroad_k72_sets_forged [0,2,3,4,5,6,7,8,9,10,11,12,14,16,17,18,19,20,22,23,24,25,27,28,29,30,31,32,33,34,35,37,38,39,40,41,42,43,44,46,47,48,49,50,51,52,53,54,55,56,58,60,61,62,63,64,66,68,69,70,71,72,74,76,77,78,79,80,82,83,84,85,86,87,88,89,90,91,92,93,94,95,96,97,98,99,100]
noncomputable def en(P:Params)(t:Tok)(v:Value)(k:Str):DictEntry:=⟨PyData.keyHash P k,.str k t,v⟩
noncomputable def cO(t a b r:Nat)(x y z v:Value)(e u:Nat)(q n:Str):Obj:=⟨.type "code",none,.fields #[.str n t,.str q (t+1),.str "/claim/cut.py" (t+2),.int a 0,.int b 0,.int 0 0,.int 0 0,.int 3 0,.ref r,.bool true,.int 181 0,x,y,z,v,.ref e,.int u 0,.int a 0,.str "/claim/cut.py" (u+1)],#[]⟩
noncomputable def cE(t b a r:Nat)(x y z v:Value)(e u:Nat)(n:Str):Obj:=cO t b a r x y z v e u n n
noncomputable def fO(k c:Nat)(s:Stmt)(m q n:Str):Obj:=⟨.type "function",none,.func (fnOf n q (qa7 s) (zk s) (qf s) .none .none .none (.str m k) none (.ref c) .none),#[]⟩
noncomputable def fE(k c:Nat)(s:Stmt)(m n:Str):Obj:=fO k c s m n n
noncomputable def Kf(P:Params):Frag:=
 (nat_lit 1,(⟨(.type "dict"),none,.dict #[en P 162 (.ref 4) "builtins",en P 163 (.ref 5) "__main__"] 2,#[]⟩:Obj)) ::
 (nat_lit 2,(⟨.none,none,.dict #[] 0,#[]⟩:Obj)) ::
 (nat_lit 3,(⟨(.type "dict"),none,.dict #[en P 165 (.str "law_onceroad_k72_sets_forged" 1277) "__name__",en P 166 .none "__doc__",en P 167 .none "__package__",en P 168 (.builtin "__main__.__loader__#opaque") "__loader__",en P 169 .none "__spec__",en P 170 (.ref 6) "__annotations__",en P 171 (.ref 4) "__builtins__",en P 173 (.str "/claim/cut.py" 172) "__file__",en P 174 .none "__cached__",en P 193 (.ref 21) "_wall",en P 221 (.ref 38) "OnceError",en P 246 (.ref 58) "NoName",en P 271 (.ref 77) "Twice",en P 296 (.ref 96) "NoPlace",en P 321 (.ref 115) "NoTie",en P 346 (.ref 134) "TooMany",en P 371 (.ref 153) "Odd",en P 396 (.ref 172) "NoMove",en P 419 (.ref 191) "NoBack",en P 444 (.ref 210) "NoPlayer",en P 469 (.ref 229) "NoNumbers",en P 481 (.ref 238) "are_unlike_places",en P 489 (.ref 243) "sides_of",en P 496 (.ref 250) "on_first_side",en P 505 (.ref 257) "ways_in",en P 517 (.ref 264) "spread_from",en P 523 (.ref 269) "ring_of",en P 527 (.int 6 526) "LONGEST_NAME",en P 534 (.ref 276) "is_whole",en P 543 (.ref 283) "is_within",en P 549 (.ref 288) "is_name",en P 553 (.int 14 552) "MOST_PLACES",en P 555 (.int 30 554) "MOST_TIES",en P 718 (.ref 415) "Web",en P 726 (.ref 426) "has_bit",en P 734 (.ref 433) "is_place",en P 743 (.ref 440) "are_two_places",en P 752 (.ref 447) "numbers_of",en P 764 (.ref 454) "near_of",en P 776 (.ref 461) "piece_around",en P 780 (.int 40 779) "MOST_SUMMED",en P 782 (.int 1073741823 781) "HIGHEST_SUMMED",en P 791 (.ref 468) "sum_of",en P 797 (.ref 473) "picks",en P 803 (.ref 478) "must_be_summed",en P 810 (.ref 485) "is_summed",en P 821 (.ref 492) "steps_of",en P 830 (.ref 499) "lessened",en P 838 (.ref 504) "near_side",en P 844 (.ref 509) "far_side",en P 850 (.ref 514) "piece_with",en P 860 (.ref 521) "told_set",en P 866 (.ref 526) "even_set",en P 872 (.ref 531) "bits_beside_each",en P 878 (.ref 536) "names_at",en P 886 (.ref 543) "bit_of",en P 896 (.ref 550) "is_even",en P 906 (.ref 557) "is_odd",en P 912 (.ref 562) "sum_beside",en P 921 (.ref 569) "is_hand",en P 925 (.int 60 924) "MOST_NUMBERS",en P 953 (.ref 586) "Player",en P 989 (.ref 614) "Numbered",en P 996 (.ref 623) "first_of",en P 1002 (.ref 628) "are_numbers",en P 1099 (.ref 708) "Walk",en P 1112 (.ref 719) "match",en P 1119 (.ref 726) "must_be_player",en P 1129 (.ref 733) "lead",en P 1140 (.ref 740) "answers_within",en P 1146 (.ref 745) "ways_on",en P 1215 (.ref 798) "Road",en P 1219 (.int 10 1218) "MOST_TIES_LEFT",en P 1250 (.ref 822) "Evener",en P 1256 (.ref 829) "are_names",en P 1267 (.ref 836) "road_led",en P 1276 (.ref 843) "road_answers",en P 1286 (.ref 850) "_law_cell_at",en P 1296 (.ref 857) "_law_box",en P 1305 (.ref 864) "_law_take",en P 1321 (.ref 871) "_law_names",en P 1327 (.ref 876) "_law_drawn",en P 1333 (.ref 881) "_law_web",en P 1339 (.ref 886) "_law_beside",en P 1351 (.ref 893) "_law_sides",en P 1357 (.ref 898) "_law_near",en P 1363 (.ref 903) "_law_far",en P 1369 (.ref 908) "_law_often",en P 1375 (.ref 913) "_law_is_even",en P 1381 (.ref 918) "_law_is_odd",en P 1394 (.ref 925) "_law_judged",en P 1408 (.ref 932) "_law_chosen",en P 1414 (.ref 937) "_law_put_otherwise",en P 1426 (.ref 944) "_law_refused",en P 1439 (.ref 951) "_law_all_refused",en P 1455 (.ref 958) "law"] 96,#[]⟩:Obj)) ::
 (nat_lit 34,cO 208 7 2 29 (.ref 30) .none (.ref 31) (.ref 32) 33 213 "OnceError.__init__" "__init__") ::
 (nat_lit 35,fO 194 34 jR "onceroad.errors" "OnceError.__init__" "__init__") ::
 (nat_lit 37,(⟨(.type "dict"),none,.dict #[en P 203 (.str "onceroad.errors" 194) "__module__",en P 207 (.int 5 206) "__firstlineno__",en P 215 (.ref 35) "__init__",en P 216 (.ref 36) "__static_attributes__",en P 218 (.ref 39) "__weakref__",en P 219 .none "__doc__"] 3,#[]⟩:Obj)) ::
 (nat_lit 38,(⟨(.type "type"),none,.cls { name:="OnceError",bases:=[(.type "ValueError")],mro:=[(.ref 38),(.type "ValueError"),(.type "Exception"),(.type "BaseException"),(.type "object")],ns:=37,qualname:="OnceError",hasDict:=true,slotNames:=[],subclasses:=[(.ref 58),(.ref 77),(.ref 96),(.ref 115),(.ref 134),(.ref 153),(.ref 172),(.ref 191),(.ref 210),(.ref 229)],abstract:=false,collection:=none,hasDel:=false },#[(some (.ref 22)),none,(some (.str "OnceError" 196)),(some (.str "OnceError" 204)),(some (.builtin "ValueError.__new__")),(some (.bool true))]⟩:Obj)) ::
 (nat_lit 92,cO 284 21 2 87 (.ref 88) .none (.ref 89) (.ref 90) 91 289 "NoPlace.__init__" "__init__") ::
 (nat_lit 93,fO 194 92 zm "onceroad.errors" "NoPlace.__init__" "__init__") ::
 (nat_lit 95,(⟨(.type "dict"),none,.dict #[en P 279 (.str "onceroad.errors" 194) "__module__",en P 283 (.int 19 282) "__firstlineno__",en P 291 (.ref 93) "__init__",en P 293 (.ref 94) "__static_attributes__",en P 294 .none "__doc__"] 2,#[]⟩:Obj)) ::
 (nat_lit 96,(⟨(.type "type"),none,.cls { name:="NoPlace",bases:=[(.ref 38)],mro:=[(.ref 96),(.ref 38),(.type "ValueError"),(.type "Exception"),(.type "BaseException"),(.type "object")],ns:=95,qualname:="NoPlace",hasDict:=true,slotNames:=[],subclasses:=[],abstract:=false,collection:=none,hasDel:=false },#[(some (.ref 80)),none,(some (.str "NoPlace" 272)),(some (.str "NoPlace" 280)),(some (.builtin "ValueError.__new__")),(some (.bool true))]⟩:Obj)) ::
 (nat_lit 130,cO 334 31 2 125 (.ref 126) .none (.ref 127) (.ref 128) 129 339 "TooMany.__init__" "__init__") ::
 (nat_lit 131,fO 194 130 zZ "onceroad.errors" "TooMany.__init__" "__init__") ::
 (nat_lit 133,(⟨(.type "dict"),none,.dict #[en P 329 (.str "onceroad.errors" 194) "__module__",en P 333 (.int 29 332) "__firstlineno__",en P 341 (.ref 131) "__init__",en P 343 (.ref 132) "__static_attributes__",en P 344 .none "__doc__"] 2,#[]⟩:Obj)) ::
 (nat_lit 134,(⟨(.type "type"),none,.cls { name:="TooMany",bases:=[(.ref 38)],mro:=[(.ref 134),(.ref 38),(.type "ValueError"),(.type "Exception"),(.type "BaseException"),(.type "object")],ns:=133,qualname:="TooMany",hasDict:=true,slotNames:=[],subclasses:=[],abstract:=false,collection:=none,hasDel:=false },#[(some (.ref 118)),none,(some (.str "TooMany" 322)),(some (.str "TooMany" 330)),(some (.builtin "ValueError.__new__")),(some (.bool true))]⟩:Obj)) ::
 (nat_lit 171,(⟨(.type "dict"),none,.dict #[en P 379 (.str "onceroad.errors" 194) "__module__",en P 383 (.int 39 382) "__firstlineno__",en P 391 (.ref 169) "__init__",en P 393 (.ref 170) "__static_attributes__",en P 394 .none "__doc__"] 2,#[]⟩:Obj)) ::
 (nat_lit 172,(⟨(.type "type"),none,.cls { name:="NoMove",bases:=[(.ref 38)],mro:=[(.ref 172),(.ref 38),(.type "ValueError"),(.type "Exception"),(.type "BaseException"),(.type "object")],ns:=171,qualname:="NoMove",hasDict:=true,slotNames:=[],subclasses:=[],abstract:=false,collection:=none,hasDel:=false },#[(some (.ref 156)),none,(some (.str "NoMove" 372)),(some (.str "NoMove" 380)),(some (.builtin "ValueError.__new__")),(some (.bool true))]⟩:Obj)) ::
 (nat_lit 206,cO 432 50 2 201 (.ref 202) .none (.ref 203) (.ref 204) 205 437 "NoPlayer.__init__" "__init__") ::
 (nat_lit 207,fO 194 206 j9 "onceroad.errors" "NoPlayer.__init__" "__init__") ::
 (nat_lit 209,(⟨(.type "dict"),none,.dict #[en P 427 (.str "onceroad.errors" 194) "__module__",en P 431 (.int 48 430) "__firstlineno__",en P 439 (.ref 207) "__init__",en P 441 (.ref 208) "__static_attributes__",en P 442 .none "__doc__"] 2,#[]⟩:Obj)) ::
 (nat_lit 210,(⟨(.type "type"),none,.cls { name:="NoPlayer",bases:=[(.ref 38)],mro:=[(.ref 210),(.ref 38),(.type "ValueError"),(.type "Exception"),(.type "BaseException"),(.type "object")],ns:=209,qualname:="NoPlayer",hasDict:=true,slotNames:=[],subclasses:=[],abstract:=false,collection:=none,hasDel:=false },#[(some (.ref 194)),none,(some (.str "NoPlayer" 420)),(some (.str "NoPlayer" 428)),(some (.builtin "ValueError.__new__")),(some (.bool true))]⟩:Obj)) ::
 (nat_lit 225,cO 457 55 2 220 (.ref 221) .none (.ref 222) (.ref 223) 224 462 "NoNumbers.__init__" "__init__") ::
 (nat_lit 226,fO 194 225 jS "onceroad.errors" "NoNumbers.__init__" "__init__") ::
 (nat_lit 228,(⟨(.type "dict"),none,.dict #[en P 452 (.str "onceroad.errors" 194) "__module__",en P 456 (.int 53 455) "__firstlineno__",en P 464 (.ref 226) "__init__",en P 466 (.ref 227) "__static_attributes__",en P 467 .none "__doc__"] 2,#[]⟩:Obj)) ::
 (nat_lit 229,(⟨(.type "type"),none,.cls { name:="NoNumbers",bases:=[(.ref 38)],mro:=[(.ref 229),(.ref 38),(.type "ValueError"),(.type "Exception"),(.type "BaseException"),(.type "object")],ns:=228,qualname:="NoNumbers",hasDict:=true,slotNames:=[],subclasses:=[],abstract:=false,collection:=none,hasDel:=false },#[(some (.ref 213)),none,(some (.str "NoNumbers" 445)),(some (.str "NoNumbers" 453)),(some (.builtin "ValueError.__new__")),(some (.bool true))]⟩:Obj)) ::
 (nat_lit 237,cE 472 59 2 232 (.ref 233) .none (.ref 234) (.ref 235) 236 479 "are_unlike_places") ::
 (nat_lit 238,fE 470 237 jo "onceroad.rows" "are_unlike_places") ::
 (nat_lit 242,cE 484 69 1 239 (.ref 240) .none .none .none 241 487 "sides_of") ::
 (nat_lit 243,fE 482 242 zE "onceroad.sides" "sides_of") ::
 (nat_lit 249,cE 490 77 1 244 (.ref 245) .none (.ref 246) (.ref 247) 248 494 "on_first_side") ::
 (nat_lit 250,fE 482 249 za "onceroad.sides" "on_first_side") ::
 (nat_lit 256,cE 497 79 1 251 (.ref 252) .none (.ref 253) (.ref 254) 255 503 "ways_in") ::
 (nat_lit 257,fE 482 256 qbt "onceroad.sides" "ways_in") ::
 (nat_lit 263,cE 506 86 3 258 (.ref 259) .none (.ref 260) (.ref 261) 262 515 "spread_from") ::
 (nat_lit 264,fE 482 263 zB "onceroad.sides" "spread_from") ::
 (nat_lit 275,cE 528 99 1 270 (.ref 271) .none (.ref 272) (.ref 273) 274 532 "is_whole") ::
 (nat_lit 276,fE 524 275 qai "onceroad.names" "is_whole") ::
 (nat_lit 282,cE 535 101 3 277 (.ref 278) .none (.ref 279) (.ref 280) 281 541 "is_within") ::
 (nat_lit 283,fE 524 282 zI "onceroad.names" "is_within") ::
 (nat_lit 287,cE 544 103 1 284 (.ref 285) .none .none .none 286 547 "is_name") ::
 (nat_lit 288,fE 524 287 zG "onceroad.names" "is_name") ::
 (nat_lit 301,cO 568 112 3 296 (.ref 297) .none (.ref 298) (.ref 299) 300 574 "Web.__init__" "__init__") ::
 (nat_lit 302,fO 550 301 qaT "onceroad.webs" "Web.__init__" "__init__") ::
 (nat_lit 308,cO 577 117 1 303 (.ref 304) .none (.ref 305) (.ref 306) 307 581 "Web.places" "places") ::
 (nat_lit 309,fO 550 308 zR "onceroad.webs" "Web.places" "places") ::
 (nat_lit 315,cO 584 120 1 310 (.ref 311) .none (.ref 312) (.ref 313) 314 591 "Web.ties" "ties") ::
 (nat_lit 316,fO 550 315 qaU "onceroad.webs" "Web.ties" "ties") ::
 (nat_lit 329,cO 601 131 2 324 (.ref 325) .none (.ref 326) (.ref 327) 328 606 "Web.has_place" "has_place") ::
 (nat_lit 330,fO 550 329 jB "onceroad.webs" "Web.has_place" "has_place") ::
 (nat_lit 343,cO 617 137 2 338 (.ref 339) .none (.ref 340) (.ref 341) 342 622 "Web.number_of" "number_of") ::
 (nat_lit 344,fO 550 343 jC "onceroad.webs" "Web.number_of" "number_of") ::
 (nat_lit 350,cO 625 142 2 345 (.ref 346) .none (.ref 347) (.ref 348) 349 630 "Web.beside" "beside") ::
 (nat_lit 351,fO 550 350 zS "onceroad.webs" "Web.beside" "beside") ::
 (nat_lit 357,cO 633 145 2 352 (.ref 353) .none (.ref 354) (.ref 355) 356 638 "Web.bits_beside" "bits_beside") ::
 (nat_lit 358,fO 550 357 jG "onceroad.webs" "Web.bits_beside" "bits_beside") ::
 (nat_lit 371,cO 650 151 1 366 (.ref 367) .none (.ref 368) (.ref 369) 370 658 "Web.pieces" "pieces") ::
 (nat_lit 372,fO 550 371 zT "onceroad.webs" "Web.pieces" "pieces") ::
 (nat_lit 383,cO 668 164 2 380 (.ref 381) .none .none .none 382 671 "Web.names_in" "names_in") ::
 (nat_lit 384,fO 550 383 jO "onceroad.webs" "Web.names_in" "names_in") ::
 (nat_lit 414,(⟨(.type "dict"),none,.dict #[en P 563 (.str "onceroad.webs" 550) "__module__",en P 567 (.int 110 566) "__firstlineno__",en P 576 (.ref 302) "__init__",en P 583 (.ref 309) "places",en P 593 (.ref 316) "ties",en P 600 (.ref 323) "how_many",en P 608 (.ref 330) "has_place",en P 616 (.ref 337) "has_tie",en P 624 (.ref 344) "number_of",en P 632 (.ref 351) "beside",en P 640 (.ref 358) "bits_beside",en P 649 (.ref 365) "tied",en P 660 (.ref 372) "pieces",en P 667 (.ref 379) "told",en P 673 (.ref 384) "names_in",en P 681 (.ref 391) "without",en P 689 (.ref 398) "with_place",en P 698 (.ref 405) "with_tie",en P 707 (.ref 412) "without_tie",en P 711 (.ref 413) "__static_attributes__",en P 713 (.ref 416) "__dict__",en P 715 (.ref 417) "__weakref__",en P 716 .none "__doc__"] 4,#[]⟩:Obj)) ::
 (nat_lit 415,(⟨(.type "type"),none,.cls { name:="Web",bases:=[(.type "object")],mro:=[(.ref 415),(.type "object")],ns:=414,qualname:="Web",hasDict:=true,slotNames:=[],subclasses:=[],abstract:=false,collection:=none,hasDel:=false },#[none,none,(some (.str "Web" 556)),(some (.str "Web" 564)),(some (.builtin "object.__new__")),(some (.bool true))]⟩:Obj)) ::
 (nat_lit 425,cE 719 178 2 420 (.ref 421) .none (.ref 422) (.ref 423) 424 724 "has_bit") ::
 (nat_lit 426,fE 550 425 qbo "onceroad.webs" "has_bit") ::
 (nat_lit 432,cE 727 180 2 427 (.ref 428) .none (.ref 429) (.ref 430) 431 732 "is_place") ::
 (nat_lit 433,fE 550 432 qaf "onceroad.webs" "is_place") ::
 (nat_lit 439,cE 735 182 2 434 (.ref 435) .none (.ref 436) (.ref 437) 438 741 "are_two_places") ::
 (nat_lit 440,fE 550 439 jT "onceroad.webs" "are_two_places") ::
 (nat_lit 446,cE 744 187 1 441 (.ref 442) .none (.ref 443) (.ref 444) 445 750 "numbers_of") ::
 (nat_lit 447,fE 550 446 zQ "onceroad.webs" "numbers_of") ::
 (nat_lit 453,cE 753 200 2 448 (.ref 449) .none (.ref 450) (.ref 451) 452 762 "near_of") ::
 (nat_lit 454,fE 550 453 qbq "onceroad.webs" "near_of") ::
 (nat_lit 460,cE 765 216 2 455 (.ref 456) .none (.ref 457) (.ref 458) 459 774 "piece_around") ::
 (nat_lit 461,fE 550 460 zn "onceroad.webs" "piece_around") ::
 (nat_lit 467,cE 783 228 1 462 (.ref 463) .none (.ref 464) (.ref 465) 466 789 "sum_of") ::
 (nat_lit 468,fE 777 467 qb8 "onceroad.sums" "sum_of") ::
 (nat_lit 472,cE 792 233 2 469 (.ref 470) .none .none .none 471 795 "picks") ::
 (nat_lit 473,fE 777 472 qct "onceroad.sums" "picks") ::
 (nat_lit 477,cE 798 241 1 474 (.ref 475) .none .none .none 476 801 "must_be_summed") ::
 (nat_lit 478,fE 777 477 jr "onceroad.sums" "must_be_summed") ::
 (nat_lit 484,cE 804 244 1 479 (.ref 480) .none (.ref 481) (.ref 482) 483 808 "is_summed") ::
 (nat_lit 485,fE 777 484 qav "onceroad.sums" "is_summed") ::
 (nat_lit 491,cE 811 246 1 486 (.ref 487) .none (.ref 488) (.ref 489) 490 819 "steps_of") ::
 (nat_lit 492,fE 777 491 qaV "onceroad.sums" "steps_of") ::
 (nat_lit 498,cE 822 253 2 493 (.ref 494) .none (.ref 495) (.ref 496) 497 828 "lessened") ::
 (nat_lit 499,fE 777 498 qaW "onceroad.sums" "lessened") ::
 (nat_lit 503,cE 833 259 2 500 (.ref 501) .none .none .none 502 836 "near_side") ::
 (nat_lit 504,fE 831 503 jX "onceroad.evens" "near_side") ::
 (nat_lit 508,cE 839 264 2 505 (.ref 506) .none .none .none 507 842 "far_side") ::
 (nat_lit 509,fE 831 508 qak "onceroad.evens" "far_side") ::
 (nat_lit 513,cE 845 267 2 510 (.ref 511) .none .none .none 512 848 "piece_with") ::
 (nat_lit 514,fE 831 513 zr "onceroad.evens" "piece_with") ::
 (nat_lit 520,cE 851 269 2 515 (.ref 516) .none (.ref 517) (.ref 518) 519 858 "told_set") ::
 (nat_lit 521,fE 831 520 qam "onceroad.evens" "told_set") ::
 (nat_lit 525,cE 861 275 2 522 (.ref 523) .none .none .none 524 864 "even_set") ::
 (nat_lit 526,fE 831 525 jH "onceroad.evens" "even_set") ::
 (nat_lit 530,cE 867 283 2 527 (.ref 528) .none .none .none 529 870 "bits_beside_each") ::
 (nat_lit 531,fE 831 530 jc "onceroad.evens" "bits_beside_each") ::
 (nat_lit 535,cE 873 285 2 532 (.ref 533) .none .none .none 534 876 "names_at") ::
 (nat_lit 536,fE 831 535 qal "onceroad.evens" "names_at") ::
 (nat_lit 542,cE 879 287 2 537 (.ref 538) .none (.ref 539) (.ref 540) 541 884 "bit_of") ::
 (nat_lit 543,fE 831 542 qb7 "onceroad.evens" "bit_of") ::
 (nat_lit 549,cE 887 289 3 544 (.ref 545) .none (.ref 546) (.ref 547) 548 894 "is_even") ::
 (nat_lit 550,fE 831 549 qby "onceroad.evens" "is_even") ::
 (nat_lit 556,cE 897 292 3 551 (.ref 552) .none (.ref 553) (.ref 554) 555 904 "is_odd") ::
 (nat_lit 557,fE 831 556 qb9 "onceroad.evens" "is_odd") ::
 (nat_lit 561,cE 907 295 3 558 (.ref 559) .none .none .none 560 910 "sum_beside") ::
 (nat_lit 562,fE 831 561 zt "onceroad.evens" "sum_beside") ::
 (nat_lit 568,cE 915 300 1 563 (.ref 564) .none (.ref 565) (.ref 566) 567 919 "is_hand") ::
 (nat_lit 569,fE 913 568 qbA "onceroad.wins" "is_hand") ::
 (nat_lit 585,(⟨(.type "dict"),none,.dict #[en P 933 (.str "onceroad.players" 922) "__module__",en P 937 (.int 304 936) "__firstlineno__",en P 945 (.ref 583) "choose",en P 946 (.ref 584) "__static_attributes__",en P 948 (.ref 587) "__dict__",en P 950 (.ref 588) "__weakref__",en P 951 .none "__doc__"] 4,#[]⟩:Obj)) ::
 (nat_lit 586,(⟨(.type "type"),none,.cls { name:="Player",bases:=[(.type "object")],mro:=[(.ref 586),(.type "object")],ns:=585,qualname:="Player",hasDict:=true,slotNames:=[],subclasses:=[(.ref 614),(.ref 822)],abstract:=false,collection:=none,hasDel:=false },#[none,none,(some (.str "Player" 926)),(some (.str "Player" 934)),(some (.builtin "object.__new__")),(some (.bool true))]⟩:Obj)) ::
 (nat_lit 603,cO 966 310 2 598 (.ref 599) .none (.ref 600) (.ref 601) 602 971 "Numbered.__init__" "__init__") ::
 (nat_lit 604,fO 922 603 ze "onceroad.players" "Numbered.__init__" "__init__") ::
 (nat_lit 613,(⟨(.type "dict"),none,.dict #[en P 961 (.str "onceroad.players" 922) "__module__",en P 965 (.int 308 964) "__firstlineno__",en P 973 (.ref 604) "__init__",en P 984 (.ref 611) "choose",en P 986 (.ref 612) "__static_attributes__",en P 987 .none "__doc__"] 2,#[]⟩:Obj)) ::
 (nat_lit 614,(⟨(.type "type"),none,.cls { name:="Numbered",bases:=[(.ref 586)],mro:=[(.ref 614),(.ref 586),(.type "object")],ns:=613,qualname:="Numbered",hasDict:=true,slotNames:=[],subclasses:=[],abstract:=false,collection:=none,hasDel:=false },#[(some (.ref 591)),none,(some (.str "Numbered" 954)),(some (.str "Numbered" 962)),(some (.builtin "object.__new__")),(some (.bool true))]⟩:Obj)) ::
 (nat_lit 627,cE 997 324 1 624 (.ref 625) .none .none .none 626 1000 "are_numbers") ::
 (nat_lit 628,fE 922 627 zf "onceroad.players" "are_numbers") ::
 (nat_lit 641,cO 1017 331 3 636 (.ref 637) .none (.ref 638) (.ref 639) 640 1023 "Walk.__init__" "__init__") ::
 (nat_lit 642,fO 1003 641 qax "onceroad.walks" "Walk.__init__" "__init__") ::
 (nat_lit 707,(⟨(.type "dict"),none,.dict #[en P 1012 (.str "onceroad.walks" 1003) "__module__",en P 1016 (.int 329 1015) "__firstlineno__",en P 1025 (.ref 642) "__init__",en P 1032 (.ref 649) "web",en P 1039 (.ref 656) "stands_at",en P 1046 (.ref 663) "gone",en P 1053 (.ref 670) "moves",en P 1060 (.ref 677) "hand",en P 1067 (.ref 684) "ended",en P 1074 (.ref 691) "loser",en P 1082 (.ref 698) "move_to",en P 1089 (.ref 705) "back",en P 1092 (.ref 706) "__static_attributes__",en P 1094 (.ref 709) "__dict__",en P 1096 (.ref 710) "__weakref__",en P 1097 .none "__doc__"] 4,#[]⟩:Obj)) ::
 (nat_lit 708,(⟨(.type "type"),none,.cls { name:="Walk",bases:=[(.type "object")],mro:=[(.ref 708),(.type "object")],ns:=707,qualname:="Walk",hasDict:=true,slotNames:=[],subclasses:=[(.ref 798)],abstract:=false,collection:=none,hasDel:=false },#[none,none,(some (.str "Walk" 1005)),(some (.str "Walk" 1013)),(some (.builtin "object.__new__")),(some (.bool true))]⟩:Obj)) ::
 (nat_lit 725,cE 1113 376 1 720 (.ref 721) .none (.ref 722) (.ref 723) 724 1117 "must_be_player") ::
 (nat_lit 726,fE 1100 725 jU "onceroad.matches" "must_be_player") ::
 (nat_lit 732,cE 1120 379 4 727 (.ref 728) .none (.ref 729) (.ref 730) 731 1127 "lead") ::
 (nat_lit 733,fE 1100 732 qf8 "onceroad.matches" "lead") ::
 (nat_lit 739,cE 1130 384 5 734 (.ref 735) .none (.ref 736) (.ref 737) 738 1138 "answers_within") ::
 (nat_lit 740,fE 1100 739 jV "onceroad.matches" "answers_within") ::
 (nat_lit 744,cE 1141 391 3 741 (.ref 742) .none .none .none 743 1144 "ways_on") ::
 (nat_lit 745,fE 1100 744 qcz "onceroad.matches" "ways_on") ::
 (nat_lit 756,cO 1161 404 1 753 (.ref 754) .none .none .none 755 1164 "Road.ties_gone" "ties_gone") ::
 (nat_lit 757,fO 1147 756 js "onceroad.roads" "Road.ties_gone" "ties_gone") ::
 (nat_lit 761,cO 1167 407 1 758 (.ref 759) .none .none .none 760 1170 "Road.ties_left" "ties_left") ::
 (nat_lit 762,fO 1147 761 jt "onceroad.roads" "Road.ties_left" "ties_left") ::
 (nat_lit 773,cO 1179 416 3 768 (.ref 769) .none (.ref 770) (.ref 771) 772 1186 "Road.tie_between" "tie_between") ::
 (nat_lit 774,fO 1147 773 jw "onceroad.roads" "Road.tie_between" "tie_between") ::
 (nat_lit 794,cO 1204 426 1 789 (.ref 790) .none (.ref 791) (.ref 792) 793 1209 "Road.twin" "twin") ::
 (nat_lit 795,fO 1147 794 qbd "onceroad.roads" "Road.twin" "twin") ::
 (nat_lit 797,(⟨(.type "dict"),none,.dict #[en P 1156 (.str "onceroad.roads" 1147) "__module__",en P 1160 (.int 402 1159) "__firstlineno__",en P 1166 (.ref 757) "ties_gone",en P 1172 (.ref 762) "ties_left",en P 1178 (.ref 767) "moves",en P 1188 (.ref 774) "tie_between",en P 1196 (.ref 781) "go",en P 1203 (.ref 788) "web_left",en P 1211 (.ref 795) "twin",en P 1212 (.ref 796) "__static_attributes__",en P 1213 .none "__doc__"] 2,#[]⟩:Obj)) ::
 (nat_lit 798,(⟨(.type "type"),none,.cls { name:="Road",bases:=[(.ref 708)],mro:=[(.ref 798),(.ref 708),(.type "object")],ns:=797,qualname:="Road",hasDict:=true,slotNames:=[],subclasses:=[],abstract:=false,collection:=none,hasDel:=false },#[(some (.ref 746)),none,(some (.str "Road" 1149)),(some (.str "Road" 1157)),(some (.builtin "object.__new__")),(some (.bool true))]⟩:Obj)) ::
 (nat_lit 813,cO 1232 434 2 808 (.ref 809) .none (.ref 810) (.ref 811) 812 1237 "Evener.__init__" "__init__") ::
 (nat_lit 814,fO 1216 813 zC "onceroad.eveners" "Evener.__init__" "__init__") ::
 (nat_lit 821,(⟨(.type "dict"),none,.dict #[en P 1227 (.str "onceroad.eveners" 1216) "__module__",en P 1231 (.int 432 1230) "__firstlineno__",en P 1239 (.ref 814) "__init__",en P 1245 (.ref 819) "choose",en P 1247 (.ref 820) "__static_attributes__",en P 1248 .none "__doc__"] 2,#[]⟩:Obj)) ::
 (nat_lit 822,(⟨(.type "type"),none,.cls { name:="Evener",bases:=[(.ref 586)],mro:=[(.ref 822),(.ref 586),(.type "object")],ns:=821,qualname:="Evener",hasDict:=true,slotNames:=[],subclasses:=[],abstract:=false,collection:=none,hasDel:=false },#[(some (.ref 801)),none,(some (.str "Evener" 1220)),(some (.str "Evener" 1228)),(some (.builtin "object.__new__")),(some (.bool true))]⟩:Obj)) ::
 (nat_lit 828,cE 1251 442 1 825 (.ref 826) .none .none .none 827 1254 "are_names") ::
 (nat_lit 829,fE 1216 828 zL "onceroad.eveners" "are_names") ::
 (nat_lit 835,cE 1257 444 3 830 (.ref 831) .none (.ref 832) (.ref 833) 834 1265 "road_led") ::
 (nat_lit 836,fE 1216 835 qa0 "onceroad.eveners" "road_led") ::
 (nat_lit 842,cE 1268 449 3 837 (.ref 838) .none (.ref 839) (.ref 840) 841 1274 "road_answers") ::
 (nat_lit 843,fE 1216 842 zo "onceroad.eveners" "road_answers") ::
 (nat_lit 849,cE 1279 452 2 844 (.ref 845) .none (.ref 846) (.ref 847) 848 1284 "_law_cell_at") ::
 (nat_lit 850,fE 1277 849 qaw "law_onceroad_k72_sets_forged" "_law_cell_at") ::
 (nat_lit 856,cE 1287 456 1 851 (.ref 852) .none (.ref 853) (.ref 854) 855 1294 "_law_box") ::
 (nat_lit 857,fE 1277 856 qdb "law_onceroad_k72_sets_forged" "_law_box") ::
 (nat_lit 863,cE 1297 465 2 858 (.ref 859) .none (.ref 860) (.ref 861) 862 1303 "_law_take") ::
 (nat_lit 864,fE 1277 863 qb6 "law_onceroad_k72_sets_forged" "_law_take") ::
 (nat_lit 870,cE 1306 469 2 865 (.ref 866) .none (.ref 867) (.ref 868) 869 1319 "_law_names") ::
 (nat_lit 871,fE 1277 870 jj "law_onceroad_k72_sets_forged" "_law_names") ::
 (nat_lit 875,cE 1322 487 2 872 (.ref 873) .none .none .none 874 1325 "_law_drawn") ::
 (nat_lit 876,fE 1277 875 qaM "law_onceroad_k72_sets_forged" "_law_drawn") ::
 (nat_lit 880,cE 1328 502 2 877 (.ref 878) .none .none .none 879 1331 "_law_web") ::
 (nat_lit 881,fE 1277 880 qbJ "law_onceroad_k72_sets_forged" "_law_web") ::
 (nat_lit 885,cE 1334 508 2 882 (.ref 883) .none .none .none 884 1337 "_law_beside") ::
 (nat_lit 886,fE 1277 885 qaj "law_onceroad_k72_sets_forged" "_law_beside") ::
 (nat_lit 892,cE 1340 510 2 887 (.ref 888) .none (.ref 889) (.ref 890) 891 1349 "_law_sides") ::
 (nat_lit 893,fE 1277 892 qbu "law_onceroad_k72_sets_forged" "_law_sides") ::
 (nat_lit 897,cE 1352 520 2 894 (.ref 895) .none .none .none 896 1355 "_law_near") ::
 (nat_lit 898,fE 1277 897 qbv "law_onceroad_k72_sets_forged" "_law_near") ::
 (nat_lit 902,cE 1358 523 2 899 (.ref 900) .none .none .none 901 1361 "_law_far") ::
 (nat_lit 903,fE 1277 902 qcw "law_onceroad_k72_sets_forged" "_law_far") ::
 (nat_lit 907,cE 1364 526 3 904 (.ref 905) .none .none .none 906 1367 "_law_often") ::
 (nat_lit 908,fE 1277 907 qaP "law_onceroad_k72_sets_forged" "_law_often") ::
 (nat_lit 912,cE 1370 528 4 909 (.ref 910) .none .none .none 911 1373 "_law_is_even") ::
 (nat_lit 913,fE 1277 912 jD "law_onceroad_k72_sets_forged" "_law_is_even") ::
 (nat_lit 917,cE 1376 536 4 914 (.ref 915) .none .none .none 916 1379 "_law_is_odd") ::
 (nat_lit 918,fE 1277 917 j0 "law_onceroad_k72_sets_forged" "_law_is_odd") ::
 (nat_lit 924,cE 1382 544 5 919 (.ref 920) .none (.ref 921) (.ref 922) 923 1392 "_law_judged") ::
 (nat_lit 925,fE 1277 924 qaY "law_onceroad_k72_sets_forged" "_law_judged") ::
 (nat_lit 931,cE 1395 550 4 926 (.ref 927) .none (.ref 928) (.ref 929) 930 1406 "_law_chosen") ::
 (nat_lit 932,fE 1277 931 qaZ "law_onceroad_k72_sets_forged" "_law_chosen") ::
 (nat_lit 936,cE 1409 561 2 933 (.ref 934) .none .none .none 935 1412 "_law_put_otherwise") ::
 (nat_lit 937,fE 1277 936 qT "law_onceroad_k72_sets_forged" "_law_put_otherwise") ::
 (nat_lit 943,cE 1415 573 4 938 (.ref 939) .none (.ref 940) (.ref 941) 942 1424 "_law_refused") ::
 (nat_lit 944,fE 1277 943 jE "law_onceroad_k72_sets_forged" "_law_refused") ::
 (nat_lit 950,cE 1427 595 3 945 (.ref 946) .none (.ref 947) (.ref 948) 949 1437 "_law_all_refused") ::
 (nat_lit 951,fE 1277 950 qQ "law_onceroad_k72_sets_forged" "_law_all_refused") ::
 (nat_lit 957,cE 1440 603 1 952 (.ref 953) .none (.ref 954) (.ref 955) 956 1453 "law") ::
 (nat_lit 958,fE 1277 957 qel "law_onceroad_k72_sets_forged" "law") ::
 []
noncomputable def ks:LI:=[1,2,3,34,35,37,38,92,93,95,96,130,131,133,134,171,172,206,207,209,210,225,226,228,229,237,238,242,243,249,250,256,257,263,264,275,276,282,283,287,288,301,302,308,309,315,316,329,330,343,344,350,351,357,358,371,372,383,384,414,415,425,426,432,433,439,440,446,447,453,454,460,461,467,468,472,473,477,478,484,485,491,492,498,499,503,504,508,509,513,514,520,521,525,526,530,531,535,536,542,543,549,550,556,557,561,562,568,569,585,586,603,604,613,614,627,628,641,642,707,708,725,726,732,733,739,740,744,745,756,757,761,762,773,774,794,795,797,798,813,814,821,822,828,829,835,836,842,843,849,850,856,857,863,864,870,871,875,876,880,881,885,886,892,893,897,898,902,903,907,908,912,913,917,918,924,925,931,932,936,937,943,944,950,951,957,958]
theorem ks_eq:∀ P,ks=(Kf P).map (·.1):=λP=>by kernel_rfl
abbrev Hk:Hook:=kHook Kf ks ks_eq
abbrev Xt(s:Shared):Bool:=xlAt Q [] s&&recOk [] s
noncomputable def runA(w:World)(a:OsState):=(Hd.lookR PySem.Challenge.pw_onceroad_k72_sets_forged NN w a).map λs=>(staticsOk (importedModules PySem.Challenge.pw_onceroad_k72_sets_forged.main.body) (boot_heap w.params) s.heap&&namesBound PySem.Challenge.pw_onceroad_k72_sets_forged s.heap&&gensDone s&&laidKept (boot_heap w.params) s.heap,seen ((recsOf Q).map (·.name)) (ownsOf Q) [] { s with gens:=#[] })
noncomputable def runB(w:World)(a:OsState):=(Hd.lookR PySem.Challenge.pw_onceroad_k72_sets_forged NN w a).map λs=>(s.heap.bltView,s.heap.keysOk (looseW Q []) ((recsOf Q).map (·.name)) ((litsOf Q).map (·.1)) ((clssOf Q (looseW Q [])).map (·.name))&&s.heap.accountedOkI (importedModules PySem.Challenge.pw_onceroad_k72_sets_forged.main.body)&&s.heap.isNs mainGlobals&&s.heap.isNs builtinsNs&&tablesOk Q s.heap&&Xt s&&(if true then s.gens.size==0 else !leftWithCleanup s.gens),tabsOk Q s)
noncomputable def runD(w:World)(a:OsState):=(Hd.lookR PySem.Challenge.pw_onceroad_k72_sets_forged NN w a).map λs=>(pinSeenD Q (drecsOf Q) s,plainSeenE Q (looseW Q []) s,plainSeenD Q [] s,wideSeen Q s,clsSeenW Q [] s)
noncomputable def runC(w:World)(a:OsState):=(Hd.lookR PySem.Challenge.pw_onceroad_k72_sets_forged NN w a).map λs=>ks.map s.heap.get?
noncomputable def gdA(_:World)(_:OsState):=some (true,expectedOf Q)
noncomputable def gdB(_:World)(_:OsState):=some (bltViewBooted,true,true)
noncomputable def gdD(_:World)(_:OsState):=some (pinGoodD (drecsOf Q),plainGoodE Q (looseW Q []),plainGoodD Q [],wideGood Q,clsGoodW Q [])
noncomputable def gdC(w:World)(_:OsState):=some ((Kf w.params).map λp=>some p.2)
noncomputable def tag{a:Type}(f g:World->OsState->a):Bool:=true
theorem tag1:(tag runA gdA&&(tag runB runB&&(tag runD gdD&&tag runC runC)))=true:=by k_qdec
theorem hA1(w:World)(a:OsState):runA w a=gdA w a:=by
 rw[PySem.W.Fast.te15130509008295077517,PySem.W.Fast.te2379442014929708835]
 kernel_rfl
theorem hB1(w:World)(a:OsState):runB w a=gdB w a:=by
 rw[PySem.W.Fast.te15356887709129635870]
 kernel_rfl
theorem hC1(w:World)(a:OsState):runC w a=gdC w a:=by
 rw[PySem.W.Fast.te1491946460361451271]
 kernel_rfl
theorem hD1(w:World)(a:OsState):runD w a=gdD w a:=by
 rw[PySem.W.Fast.te14748257861358538478,PySem.W.Fast.te13928968454479290302]
 kernel_rfl
theorem hl:LeftO PySem.Challenge.pw_onceroad_k72_sets_forged Q [] Xt (Hook.obs Hk) (Hook.val Hk) NN:=Hd.left_of (by kernel_rfl) (by decide) (λs=>by kernel_rfl) λw a=>Hd.lookT_of (hA1 w a) (hB1 w a) (hD1 w a) (hC1 w a)
end K72
namespace L2
open PySem PySem.Spec PyProof.Rows
variable{A:Around}{C a b dx it:Addr}{CX:CXT}{D:Ends}{E:Value->Shared->Prop}{H:Hp}{M:Model}{N ps:LS}{P:Program}{X:Cx}{base h:Heap}{body:List Stmt}{c e tg:Expr}{ch fp:LI}{d':Drawn}{es:List Expr}{f:Value->Value->Sem Value}{fd:FuncData}{g:TG}{g':Array GenState}{i j n t':Nat}{kindOf:Str->Option NameKind}{kw:List (Str×Value)}{lo:Int}{mA mg:Str->Option Value}{o:HO}{op op':CmpOp}{outer:List Env}{p pos:Pos}{pins:List (Addr×Obj)}{pl:Sem Bool}{qual x:Str}{r r':R2}{s s':Shared}{sc scope:Scope}{sp:Sp}{t te:TE}{ta:TA}{tb:TS}{tc:TT}{u:Value}{us:List Value}{v y:V}{vs xs:List V}{w:World}{α:Type}{σ:St}
abbrev Key:=Sum Int Str
def qcA:Key->Value->Bool
 | .inl k,v=>Value.isInt k v
 | .inr x,v=>Value.isStrOf x v
def keyH(w:World):Key->Int
 | .inl k=>hashInt k
 | .inr x=>hashStr w x
theorem qX:∀{k:Key} {v:Value},qcA k v=true->(∃ i t,k=Sum.inl i/\v=Value.int i t)\/(∃ x t,k=Sum.inr x/\v=Value.str x t)
 | .inl i,v,h=>by
  obtain⟨t,e⟩:=Value.isInt_shape (k:=i) (v:=v) h;show .inl ⟨i,t,rfl,e⟩
 | .inr x,v,h=>by
  obtain⟨t,e⟩:=Value.isStrOf_shape (x:=x) (v:=v) h;show .inr ⟨x,t,rfl,e⟩
theorem qdp(i:Int)(t:Tok):qcA (.inl i) (.int i t)=true:=by simp[qcA,Value.isInt]
theorem qdq(x:Str)(t:Tok):qcA (.inr x) (.str x t)=true:=by simp[qcA,Value.isStrOf]
theorem key_ll(a b:Int):decide ((Sum.inl a:Key)=Sum.inl b)=(a==b):=by
 by_cases e:a=b
 .subst e;simp
 .have h:¬ (Sum.inl a:Key)=Sum.inl b:=λq=>e (Sum.inl.inj q);rw[yk h];show(Yr.mpr e).symm
theorem key_rr(a b:Str):decide ((Sum.inr a:Key)=Sum.inr b)=decide (a=b):=by
 by_cases e:a=b
 .subst e;simp
 .have h:¬ (Sum.inr a:Key)=Sum.inr b:=λq=>e (kz q);rw[yk h,yk e]
theorem key_lr(a:Int)(b:Str):decide ((Sum.inl a:Key)=Sum.inr b)=false:=yk (λq=>nomatch q)
theorem key_rl(a:Str)(b:Int):decide ((Sum.inr a:Key)=Sum.inl b)=false:=yk (λq=>nomatch q)
def qU(prog:Program)(w:World):PySem.KeyKind prog w Key where
 is:=qcA
 hash:=keyH w
 inj:=λv a b c hb=>by
  rcases qX c with⟨i,t,rfl,rfl⟩ | ⟨x,t,rfl,rfl⟩
  .rcases qX hb with⟨j,u,rfl,e⟩ | ⟨y,u,rfl,e⟩
   .injection e with e1 _;rw[e1]
   .show nomatch e
  .rcases qX hb with⟨j,u,rfl,e⟩ | ⟨y,u,rfl,e⟩
   .show nomatch e
   .injection e with e1 _;rw[e1]
 byValue:=λk v h=>by
  rcases qX h with⟨i,t,rfl,rfl⟩ | ⟨x,t,rfl,rfl⟩<;>rfl
 pyHash:=λhv h=>by
  rcases qX hv with⟨i,t,rfl,rfl⟩ | ⟨x,t,rfl,rfl⟩
  .show wpAny_pyHash_int h
  .show wpAny_pyHash_str h
 eqBool:=λd hv h=>by
  rcases qX d with⟨i,t,rfl,rfl⟩ | ⟨x,t,rfl,rfl⟩
  .rcases qX hv with⟨j,u,rfl,rfl⟩ | ⟨y,u,rfl,rfl⟩
   .rw [key_ll] at h;show wpAny_eqBool_int h
   .rw [key_lr] at h;show SeqAt.EqAt.int_str i t y u _ _ _ _ h
  .rcases qX hv with⟨j,u,rfl,rfl⟩ | ⟨y,u,rfl,rfl⟩
   .rw [key_rl] at h;show SeqAt.EqAt.str_int x t j u _ _ _ _ h
   .rw [key_rr] at h;show wpAny_eqBool_str h
 «strs»:=λk x t v h=>by
  rcases qX h with⟨i,u,rfl,e⟩ | ⟨y,u,rfl,e⟩
  .show nomatch e
  .injection e with e1 _
   subst e1;cases v<;>rfl
theorem mixKind_int(prog:Program)(w:World)(i:Int)(t:Tok):(qU prog w).is (.inl i) (.int i t)=true:=qdp i t
theorem mixKind_str(prog:Program)(w:World)(x:Str)(t:Tok):(qU prog w).is (.inr x) (.str x t)=true:=qdq x t
inductive V where
 | non | bl (b:Bool) | int (i:Int) | str (x:Str) | byt (b:Array UInt8) | flt (b:UInt64) | ref (a:Addr) | ty (n:String)
 deriving DecidableEq
def RelV:V->Value->Prop
 | .non,u=>u=Value.none
 | .bl b,u=>u=Value.bool b
 | .int i,u=>∃ t,u=Value.int i t
 | .str x,u=>∃ t,u=Value.str x t
 | .byt b,u=>∃ t,u=Value.bytes b t
 | .flt b,u=>∃ t,u=Value.float b t
 | .ref a,u=>u=Value.ref a
 | .ty n,u=>u=Value.type n
abbrev Vals:List V->List Value->Prop:=Paired RelV
theorem Vals.length(r:Vals xs us):xs.length=us.length:=Paired.length r
theorem Vals.get:∀{xs:List V} {us:List Value} {i:Nat} {x:V},Vals xs us->xs[i]?=some x->∃ u,us[i]?=some u/\RelV x u
 | _,_,_,_,.nil,e=>by simp at e
 | _,_,0,_,.cons r _,e=>by simp at e;subst e;show⟨_,rfl,r⟩
 | _,_,i+1,x,.cons _ t,e=>by
  obtain⟨u,h1,a⟩:=Vals.get (i:=i) (x:=x) t (by simpa using e);show⟨u,by simpa using h1,a⟩
theorem Vals.set{x:V}(r:RelV x u):∀{xs:List V} {us:List Value} (i:Nat),Vals xs us->Vals (xs.set i x) (us.set i u)
 | _,_,_,.nil=>.nil
 | _,_,0,.cons _ t=>.cons r t
 | _,_,i+1,.cons q t=>.cons q (Vals.set r i t)
theorem Vals.append:∀{xs ys:List V} {us a:List Value},Vals xs us->Vals ys a->Vals (xs++ys) (us++a)
 | _,_,_,_,.nil,s=>s
 | _,_,_,_,.cons r t,s=>.cons r (Vals.append t s)
theorem Vals.take:∀{xs:List V} {us:List Value} (n:Nat),Vals xs us->Vals (xs.take n) (us.take n)
 | _,_,0,_=>.nil
 | _,_,_+1,.nil=>.nil
 | _,_,n+1,.cons r t=>.cons r (Vals.take n t)
theorem Vals.drop:∀{xs:List V} {us:List Value} (n:Nat),Vals xs us->Vals (xs.drop n) (us.drop n)
 | _,_,0,r=>r
 | _,_,_+1,.nil=>.nil
 | _,_,n+1,.cons _ t=>Vals.drop n t
def RelO:Option V->Option Value->Prop
 | some v,some u=>RelV v u
 | none,none=>True
 | _,_=>False
def KV{a:Type}:List (a×V)->List (a×Value)->Prop:=Paired λ(p:a×V) (q:a×Value)=>p.1=q.1/\RelV p.2 q.2
def kV:Key->V
 | .inl i=>.int i
 | .inr x=>.str x
inductive HO where
 /-- a list -/
 | lst (xs:List V)
 /-- a tuple (never changes) -/
 | tup (xs:List V)
 /-- a dict whose keys are ints and texts;one whose keys are tuples of ints and texts (the empty one is both) -/
 | dK (kvs:List (Key×V)) | dT (kvs:List (List Key×V))
 /-- a set of ints: its members,its size -/
 | set (S:Int->Bool) (n:Nat)
 /-- an instance of the class at C,its dict at dx,its attributes -/
 | ins (C dx:Addr) (fs:List (Str×V))
 /-- the dict of the instance at x -/
 | own (x:Addr)
 /-- the dict of an exception -/
 | xd (fs:List (Str×V))
 /-- a bound method,f of x -/
 | met (f x:Addr)
 /-- a range object lo,lo+1,.. below hi -/
 | rng (lo hi:Int)
 /-- a thing that is known to the object (the script;a dict while a loop walks it): read,never written while it is so -/
 | frz (o:Obj) (u:HO)
 /-- a code object's table -/
 | tbl (ps:Array Value)
 /-- any other thing,by what is true of its one object (a def of one's own: SetO a S n:=HO.ext λh=>..) -/
 | ext (φ:Heap->Prop)
abbrev Hp:=Addr->Option HO
def upd(H:Hp)(a:Addr)(o:HO):Hp:=λb=>if b=a then some o else H b
theorem qb:upd H a o a=some o:=by unfold upd;rw[yH rfl]
theorem qk(h:b≠a):upd H a o b=H b:=by unfold upd;rw[yB h]
theorem qbB{u:HO}(h:H a=some o)(h':H b=some u)(d:o≠u):a≠b:=by
 intro e;subst e;rw[h] at h';show d (yl h')
theorem qM(h:H a=some o)(h':H b=none):a≠b:=by
 intro e;subst e;rw[h] at h';cases h'
section
variable(P:Program)(w:World)
def ObjOk(H:Hp)(h:Heap)(a:Addr):HO->Prop
 | .lst xs=>xs.length<=sizeLine/\∃(b:List Value) (n:Nat),Vals xs b/\h.get? a=some { cls:=.type "list",data:=.seq b.toArray n }
 | .tup xs=>xs.length<=sizeLine/\∃ b:List Value,Vals xs b/\IsTup h a b.toArray
 | .dK kvs=>kvs.length<=sizeLine/\(a==sysModules)=false/\∃ vs,KV kvs vs/\h.DictOf (qU P w) a vs
 | .dT kvs=>kvs.length<=sizeLine/\(a==sysModules)=false/\∃ xs:List (List Key×Addr×Value),
   Paired (λ(p:List Key×V) (q:List Key×Addr×Value)=>p.1=q.1/\H q.2.1=some (.tup (p.1.map kV))/\RelV p.2 q.2.2) kvs xs /\
   ∃ o es ep,h.get? a=some o/\o.ExactDict/\o.data=.dict es ep/\es.toList=xs.map (entryOfKey (tupleKind (qU P w)))/\(xs.map (·.1)).Nodup
 | .set S n=>h.SetOf (intKind P w) a S n
 | .ins C dx fs=>H dx=some (.own a)/\fs.length<=1000/\dx≠a/\h.get? a=some (PySem.W.instObj C dx) /\
   ∃ mA,h.Ns1 dx mA/\(∀ f,RelO (fs.lookup f) (mA f))/\PySem.Within mA (fs.map (·.1))
 | .own _=>∃ o,h.get? a=some o
 | .xd fs=>∃ mA,h.Ns1 a mA/\∀ f,RelO (fs.lookup f) (mA f)
 | .rng lo hi=>∃ t u v,h.get? a=some { cls:=.type "range",data:=.fields #[.int lo t,.int hi u,.int 1 v] }
 | .frz o u=>h.get? a=some o/\ObjOk H h a u
 | .tbl ps=>h.get? a=some { cls:=.none,data:=.fields ps }
 | .met f x=>h.get? a=some (PySem.W.methodObj (.ref f) (.ref x))
 | .ext φ=>φ h/\(∃ o,h.get? a=some o)/\∀ h1 c:Heap,φ h1->(∀ o,h1.get? a=some o->c.get? a=some o)->φ c
def HOk(H:Hp)(h:Heap):Prop:=∀ a o,H a=some o->ObjOk P w H h a o
end
section
variable{P:Program}{w:World}{H H':Hp}{h h':Heap}{a:Addr}{o:HO}
theorem ObjOk.lt(x:ObjOk P w H h a o):a<h.objs.size:=by
 cases o with
 | lst xs=>obtain⟨_,_,_,_,e⟩:=x;show yM e
 | tup xs=>obtain⟨_,_,_,p⟩:=x;show p.lt
 | dK kvs=>obtain⟨_,_,_,_,o,_,_,e,_⟩:=x;show yM e
 | dT kvs=>obtain⟨_,_,_,_,o,_,_,e,_⟩:=x;show yM e
 | set S n=>obtain⟨o,_,_,_,e,_⟩:=x;show yM e
 | ins C dx fs=>obtain⟨_,_,_,e,_⟩:=x;show yM e
 | own y=>obtain⟨_,e⟩:=x;show yM e
 | xd fs=>obtain⟨_,⟨_,_,_,e,_⟩,_⟩:=x;show yM e
 | rng lo hi=>obtain⟨_,_,_,e⟩:=x;show yM e
 | frz ob u=>obtain⟨e,_⟩:=x;show yM e
 | tbl ps=>show yM (show h.get? a=some _ from x)
 | met f y=>show yM (show h.get? a=some _ from x)
 | ext φ=>obtain⟨_,⟨_,e⟩,_⟩:=x;show yM e
theorem Paired.mapP{d:Type}{F G:α->d->Prop}:∀{c:List α} {l₂:List d},Paired F c l₂->(∀ a b,F a b->G a b)->Paired G c l₂
 | _,_,.nil,_=>.nil
 | _,_,.cons r t,f=>.cons (f _ _ r) (Paired.mapP t f)
theorem ObjOk.stay(x:ObjOk P w H h a o)(k:∀ b u,(b=a\/H b=some (.own a))->h.get? b=some u->h'.get? b=some u)
  (l:∀ b,H b=some (.own a)->H' b=some (.own a)) (m:∀ b xs,H b=some (.tup xs)->H' b=some (.tup xs)):ObjOk P w H' h' a o:=by
 induction o with
 | lst xs=>obtain⟨z,i,n,r,e⟩:=x;show⟨z,i,n,r,k _ _ (.inl rfl) e⟩
 | tup xs=>obtain⟨z,i,r,g,e,c⟩:=x;show⟨z,i,r,g,k _ _ (.inl rfl) e,c⟩
 | dK kvs=>obtain⟨z,y,vs,r,g,es,ep,e,c⟩:=x;show⟨z,y,vs,r,g,es,ep,k _ _ (.inl rfl) e,c⟩
 | dT kvs =>
  obtain⟨z,y,xs,r,g,es,ep,e,c⟩:=x;show⟨z,y,xs,Paired.mapP r λp q z=>⟨z.1,m _ _ z.2.1,z.2.2⟩,g,es,ep,k _ _ (.inl rfl) e,c⟩
 | set S n=>obtain⟨g,es,ep,t,e,c⟩:=x;show⟨g,es,ep,t,k _ _ (.inl rfl) e,c⟩
 | ins C dx fs =>
  obtain⟨d,z,ne,e,mA,⟨od,es,ep,j,c⟩,r⟩:=x;show⟨l _ d,z,ne,k _ _ (.inl rfl) e,mA,⟨od,es,ep,k _ _ (.inr d) j,c⟩,r⟩
 | own y=>obtain⟨g,e⟩:=x;show⟨g,k _ _ (.inl rfl) e⟩
 | xd fs=>obtain⟨mA,⟨od,es,ep,e,c⟩,r⟩:=x;show⟨mA,⟨od,es,ep,k _ _ (.inl rfl) e,c⟩,r⟩
 | rng lo hi=>obtain⟨t,u,v,e⟩:=x;show⟨t,u,v,k _ _ (.inl rfl) e⟩
 | frz g u ih=>obtain⟨e,q⟩:=x;show⟨k _ _ (.inl rfl) e,ih q⟩
 | tbl ps =>
  have e:h.get? a=some { cls:=.none,data:=.fields ps }:=x;show h'.get? a=some { cls:=.none,data:=.fields ps };show k a _ (.inl rfl) e
 | met f y =>
  have e:h.get? a=some (PySem.W.methodObj (.ref f) (.ref y)):=x;show h'.get? a=some (PySem.W.methodObj (.ref f) (.ref y));show k a _ (.inl rfl) e
 | ext φ=>obtain⟨p,⟨o,e⟩,st⟩:=x;show⟨st _ _ p λo q=>k _ _ (.inl rfl) q,⟨o,k _ _ (.inl rfl) e⟩,st⟩
theorem HOk.lt(x:HOk P w H h)(e:H a=some o):a<h.objs.size:=(x a o e).lt
theorem HOk.fresh(x:HOk P w H h)(e:h.objs.size<=a):H a=none:=by
 cases q:H a with
 | none=>rfl
 | some u=>show absurd (yi (x.lt q) e) (Yw _)
theorem HOk.kept(x:HOk P w H h)(k:∀ b u,h.get? b=some u->h'.get? b=some u):HOk P w H h':=λa o e =>
 (x a o e).stay (λb u _ q=>k b u q) (λ_ q=>q) λ_ _ q=>q
theorem HOk.laid(x:HOk P w H h)(k:∀ b u,h.get? b=some u->h'.get? b=some u)(d:h.objs.size<=a)(new:ObjOk P w (upd H a o) h' a o):HOk P w (upd H a o) h':=λb u e=>by
 have hn:=x.fresh d;by_cases hb:b=a
 .subst hb;rw[qb] at e;cases e;show new
 .rw [qk hb] at e;show(x b u e).stay (λc v _ q=>k c v q) (λc q=>by rw[qk (qM q hn)];show q) λc xs q=>by rw[qk (qM q hn)];show q
end
def Rd(H:Hp)(a:Addr)(u:HO):Prop:=H a=some u\/∃ o,H a=some (.frz o u)
theorem Rd.ok{u:HO}(r:Rd H a u)(x:HOk P w H h):ObjOk P w H h a u:=by
 rcases r with r | ⟨o,r⟩
 .show x a u r
 .obtain⟨_,q⟩:=x a _ r;show q
def Mut:Option HO->Prop
 | some (.lst _)=>True
 | some (.dK _)=>True
 | some (.dT _)=>True
 | some (.set _ _)=>True
 | some (.ins _ _ _)=>True
 | some (.ext _)=>True
 | _=>False
section
variable{P:Program}{w:World}{H:Hp}{h h':Heap}{x e:Addr}{o':HO}
theorem HOk.write(ok:HOk P w H h)(g:Mut (H x))(j:e=x\/H e=some (.own x))(k:∀ b u,b≠e->h.get? b=some u->h'.get? b=some u)(i:∃ u,h'.get? e=some u)
  (new:ObjOk P w (upd H x o') h' x o'):HOk P w (upd H x o') h':=λb u q=>by
 have d:∀ c y,H c=some (.own y)->c≠x:=λc y r z=>by subst z;rw[r] at g;show g
 have f:∀ c xs,H c=some (.tup xs)->c≠x:=λc xs r z=>by subst z;rw[r] at g;show g
 by_cases hb:b=x
 .subst hb;rw[qb] at q;cases q;show new
 .rw [qk hb] at q;by_cases a:b=e
  .have l:H b=some (.own x):=by
    rcases j with z | z
    .show absurd (a.trans z) hb
    .rw [a];show z
   rw[q] at l;cases l;obtain⟨v,hv⟩:=i;show⟨v,by rw[a];show hv⟩
  .show(ok b u q).stay (λc v hc r=>k c v ?_ r) (λc r=>by rw[qk (d c b r)];show r) λc xs r=>by rw[qk (f c xs r)];show r
   rcases hc with rfl | hc
   .show a
   .rintro rfl;rcases j with z | z
    .show d c b hc z
    .rw [hc] at z;cases z;show hb rfl
end
structure Un(fs ex:LI)(H H':Hp)(h h':Heap):Prop where
 keep:∀ b o,h.get? b=some o->H b=none->b∉fs->b∉ex->h'.get? b=some o
 slot:∀ b o,h.get? b=some o->H b=none->b∈fs->b∉ex->∃ sl,h'.get? b=some { o with slots:=sl }
 free:∀ b o,h.get? b=some o->H b=none->b∉ex->H' b=none
 there:∀ b o,h.get? b=some o->b∉ex->∃ o',h'.get? b=some o'
 tups:∀ b xs,H b=some (.tup xs)->H' b=some (.tup xs)
 frzs:∀ b o u,H b=some (.frz o u)->H' b=some (.frz o u)
 tbls:∀ b ps,H b=some (.tbl ps)->∃ more,H' b=some (.tbl (ps++more))
section
variable{fs fs' ex ex':LI}{H H1 H2:Hp}{h h1 h2 h':Heap}{a x e:Addr}{o:HO}
theorem Un.any(u:Un fs ex H H1 h h1){a:Obj}(q:h.get? b=some a)(n:H b=none)(c:b∉ex):∃ d,h1.get? b=some { a with slots:=d }:=by
 by_cases hb:b∈fs
 .show u.slot b a q n hb c
 .show⟨a.slots,u.keep b a q n hb c⟩
theorem Un.kept(k:∀ b u,h.get? b=some u->h'.get? b=some u):Un fs ex H H h h':=
 ⟨λb a q _ _ _=>k b a q,λb a q _ _ _=>⟨a.slots,k b a q⟩,λ_ _ _ n _=>n,λb a q _=>⟨a,k b a q⟩,λ_ _ q=>q,λ_ _ _ q=>q,λ_ ps q=>⟨#[],by rw[q];simp⟩⟩
theorem Un.refl:Un fs ex H H h h:=Un.kept λ_ _ q=>q
theorem Un.laid(k:∀ b u,h.get? b=some u->h'.get? b=some u)(c:h.objs.size<=a)(hn:H a=none):Un fs ex H (upd H a o) h h' where
 keep:=λb u q _ _ _=>k b u q
 slot:=λb u q _ _ _=>⟨u.slots,k b u q⟩
 free:=λb u q n _=>by rw[qk (Yk (yi (yM q) c))];show n
 there:=λb u q _=>⟨u,k b u q⟩
 tups:=λb xs q=>by rw[qk (qM q hn)];show q
 frzs:=λb u xs q=>by rw[qk (qM q hn)];show q
 tbls:=λb ps q=>⟨#[],by rw[qk (qM q hn),q];simp⟩
theorem Un.write(c:Mut (H x))(g:e=x\/H e=some (.own x))(k:∀ b u,b≠e->h.get? b=some u->h'.get? b=some u)(d:∃ u,h'.get? e=some u):Un fs ex H (upd H x o) h h':=by
 have f:∀ b,H b=none->b≠x:=λb n z=>by subst z;rw[n] at c;show c
 have hb:∀ b,H b=none->b≠e:=λb n z=>by
  subst z;rcases g with r | r
  .show f b n r
  .rw [n] at r;cases r
 have hm:∀ b u,H b=some u->¬ Mut (some u)->b≠x:=λb u q nm z=>by subst z;rw[q] at c;show nm c
 show⟨λb u q n _ _=>k b u (hb b n) q,λb u q n _ _=>⟨u.slots,k b u (hb b n) q⟩,λb u q n _=>by rw[qk (f b n)];show n,λb u q _=>?_,
  λb xs q=>by rw[qk (hm b _ q λz=>z)];show q,λb u xs q=>by rw[qk (hm b _ q λz=>z)];show q,λb ps q=>⟨#[],by rw[qk (hm b _ q λz=>z),q];simp⟩⟩
 by_cases a:b=e
 .subst a;show d
 .show⟨u,k b u a q⟩
end
def trk(h:Heap)(H:Hp):LI:=(List.range h.objs.size).filter λa=>(H a).isSome
def qgc(h:Heap)(H:Hp):Heap:=PySem.W.hideAll h (trk h H)
theorem hidT_size(h:Heap)(H:Hp):(qgc h H).objs.size=h.objs.size:=PySem.W.hideAll_size _ _
theorem hidT_get{o:Obj}(e:h.get? b=some o)(n:H b=none):(qgc h H).get? b=some o:=
 PySem.W.hideAll_get _ e λhm=>by
  have q:(H b).isSome=true:=(yo.mp hm).2;rw[n] at q;simp at q
theorem of_hidT{o:Obj}(e:(qgc h H).get? b=some o):h.get? b=some o/\H b=none:=by
 have a:h.get? b=some o:=PySem.W.of_hideAll (trk h H) e;show⟨a,?_⟩
 cases q:H b with
 | none=>rfl
 | some x =>
  have hm:b∈trk h H:=yo.mpr ⟨Yu.mpr (yM a),by simp[q]⟩;have z:(qgc h H).get? b=none:=PySem.W.hideAll_none (trk h H) hm;rw[z] at e;cases e
def allNews(g h:Heap)(L:Addr):List (Addr×Obj):=(List.range h.objs.size).filterMap λa=>if a=L\/(g.get? a).isSome=true then none else(h.get? a).map λo=>(a,o)
def rest(g h:Heap)(L d:Addr):List (Addr×Obj):=(allNews g h L).filter λp=>decide (p.1≠d)
structure Mod(K:yf)(mg:Str->Option Value)(base:Heap):Prop where
 kin:K.In base
 glob:base.Ns mainGlobals mg
 blt:∃ mb,base.Ns builtinsNs mb/\∀ x:Str,x≠"__name__"->mb x=bootBuiltins x
 nolimit:base.NoLimit
structure Cx where
 prog:Program
 w:World
 K:yf
 mg:Str->Option Value
 base:Heap
 A:Around
 N:LS
 s₀:Shared
 H₀:Hp
 env:Env
 outer:List Env
 stack:List Env
 ex:LI
 fn:Str->Bool
 calm:Bool
 pn:List (Addr×Obj)
 xe:Value->Shared->Prop
def frs(l:List Env):LI:=l.filterMap (·.frame)
abbrev Cx.fs(X:Cx):LI:=frs X.outer
def Vis(sc:Scope)(x:Str):Prop:=sc.names.lookup x=some .local\/sc.names.lookup x=some .cell\/sc.names.lookup x=some .free
def Loc(sc:Scope)(x:Str):Prop:=sc.names.lookup x=some .local\/sc.names.lookup x=some .cell
def Look(env:Env)(h:Heap)(m:Str->Option Value)(x:Str)(u:Value):Prop:=
 (env.kindOf x=some .local/\m x=some u)\/((env.kindOf x=some .cell\/env.kindOf x=some .free)/\∃ c,env.cells.lookup x=some c/\h.IsCell c (some u))
structure Cx.Ok(X:Cx):Prop where
 mod:Mod X.K X.mg X.base
 kind:X.env.scope.kind=.function
 glob:X.env.globals=mainGlobals
 blt:X.env.builtins=builtinsNs
 above:X.s₀.heap.objs.size<=X.env.locals
 inj:∀ x y c,X.env.cells.lookup x=some c->X.env.cells.lookup y=some c->x=y
 has:∀ x,(X.env.kindOf x=some .cell\/X.env.kindOf x=some .free)->∃ c,X.env.cells.lookup x=some c
 cab:∀ x c,X.fn x=true->X.env.cells.lookup x=some c->X.s₀.heap.objs.size<=c
 hd:X.calm=true->X.A.handled=none
 frames:X.A.frames=some X.stack
 stk:X.stack=X.outer\/(X.stack=X.env::X.outer/\X.env.frame=some X.env.locals)
 exf:∀ b∈X.ex,b≠X.env.locals/\∀ x c,X.env.cells.lookup x=some c->c≠b
 bs:∀ b o,X.base.get? b=some o->X.s₀.heap.get? b=some o/\X.H₀ b=none
 bsz:X.base.objs.size<=X.s₀.heap.objs.size
 noex:∀ b o,X.base.get? b=some o->b∉X.ex
 exfs:∀ b∈X.ex,b∉X.fs
 funs:X.s₀.heap.FunFrames X.base X.outer
 frf:∀ b∈X.fs,X.H₀ b=none
structure Inv(X:Cx)(pins:List (Addr×Obj))(σ:List (Option V))(H:Hp)(s:Shared):Prop where
 ok:X.Ok
 os:s.os=X.s₀.os
 bare:AllBare s.gens
 base:Un X.fs X.ex X.H₀ H X.s₀.heap s.heap
 loc:∃ m,s.heap.Ns X.env.locals m/\∀(i:Nat) (x:Str) (v:V),X.N[i]?=some x->σ[i]?=some (some v)->Vis X.env.scope x->∃ u,RelV v u/\Look X.env s.heap m x u
 cell:∀ x c,X.env.cells.lookup x=some c->∃ v,s.heap.IsCell c v
 free:H X.env.locals=none
 freeC:∀ x c,X.env.cells.lookup x=some c->H c=none
 pin:∀ p∈X.pn++pins,s.heap.get? p.1=some p.2/\H p.1=none/\p.1≠X.env.locals/\p.1∉X.fs/\∀ v,p.2.data≠.cell v
 hok:HOk X.prog X.w H s.heap
 len:σ.length=X.N.length
section
variable{X:Cx}{pins:List (Addr×Obj)}{σ:List (Option V)}{H H':Hp}{s:Shared}{h':Heap}
theorem Cx.Ok.nofr(ok:X.Ok){o:Obj}(e:X.base.get? b=some o):b∉X.fs:=λhb=>by
 have:=(ok.funs.mem hb).1;rw[e] at this;cases this
theorem Inv.bs(I:Inv X pins σ H s):∀ b o,X.base.get? b=some o->s.heap.get? b=some o/\H b=none:=λb o e =>
 ⟨I.base.keep b o (I.ok.bs b o e).1 (I.ok.bs b o e).2 (I.ok.nofr e) (I.ok.noex b o e),I.base.free b o (I.ok.bs b o e).1 (I.ok.bs b o e).2 (I.ok.noex b o e)⟩
theorem Inv.bk(I:Inv X pins σ H s):∀ b o,X.base.get? b=some o->s.heap.get? b=some o:=λb o e=>(I.bs b o e).1
theorem Inv.mod(I:Inv X pins σ H s):Mod X.K X.mg X.base:=I.ok.mod
theorem Inv.kIn(I:Inv X pins σ H s):X.K.In s.heap:=I.ok.mod.kin.keeps I.bk
theorem Inv.lt(I:Inv X pins σ H s):X.env.locals<s.heap.objs.size:=let ⟨_,hn,_⟩:=I.loc;hn.lt
theorem Inv.sz(I:Inv X pins σ H s):X.s₀.heap.objs.size<=s.heap.objs.size:=yh I.ok.above (yI I.lt)
theorem Inv.nofs(I:Inv X pins σ H s)(h:s.heap.objs.size<=a):a∉X.fs:=λhb=>by
 obtain⟨_,o,b,_⟩:=I.ok.funs.mem hb;show absurd (yi (yM b) (yh I.sz h)) (Yw _)
theorem Inv.cne(I:Inv X pins σ H s):∀ x c,X.env.cells.lookup x=some c->c≠X.env.locals:=λx c e z=>by
 obtain⟨v,o,f,d⟩:=I.cell x c e;obtain⟨m,⟨g,es,ep,b,a,_⟩,_⟩:=I.loc;rw[z,b] at f;cases f;rw[a] at d;cases d
theorem Inv.funs(I:Inv X pins σ H s):s.heap.FunFrames X.base X.outer:=by
 have all:∀(l:List Env),(∀ b∈frs l,b∈X.fs)->X.s₀.heap.FunFrames X.base l->s.heap.FunFrames X.base l:=by
  intro l
  induction l with
  | nil=>intro _ _;trivial
  | cons env r ih =>
   intro d hl;obtain⟨g,⟨L,o,c,hn,h,f⟩,i⟩:=hl;have a:L∈X.fs:=d L (by unfold frs;rw[Xu,c];show yC);obtain⟨j,e⟩:=I.base.slot L o h (I.ok.frf L a) a λz=>I.ok.exfs L z a;show⟨g,⟨L,_,c,hn,e,f⟩,ih (λb hb=>d b (by unfold frs;rw[Xu,c];show yw _ hb)) i⟩
 show all X.outer (λ_ hb=>hb) I.ok.funs
theorem Inv.stack(I:Inv X pins σ H s):s.heap.FunFrames X.base X.stack:=by
 rcases I.ok.stk with e | ⟨e,hf⟩
 .rw [e];show I.funs
 .rw [e];obtain⟨m,hn,_⟩:=I.loc;show .cons (by rw[I.ok.kind];decide) hf hn ?_ I.funs;show Heap.get?_none_of_le (yh I.ok.bsz I.ok.above)
theorem Inv.stkSub(I:Inv X pins σ H s):∀ b∈frs X.stack,b∈X.env.locals::X.fs:=λb hb=>by
 rcases I.ok.stk with e | ⟨e,hf⟩
 .rw [e] at hb;show yw _ hb
 .rw [e] at hb;unfold frs at hb;rw[Xu,hf] at hb;show hb
theorem Inv.stkFree(I:Inv X pins σ H s):∀ b∈frs X.stack,H b=none:=λb hb=>by
 rcases yy.mp (I.stkSub b hb) with e | hb
 .rw [e];show I.free
 .obtain⟨_,o,a,_⟩:=I.ok.funs.mem hb;show I.base.free b o a (I.ok.frf b hb) λz=>I.ok.exfs b z hb
theorem Inv.step(I:Inv X pins σ H s)
  (f:∀ b∈ch,(b∈X.ex\/X.s₀.heap.objs.size<=b)/\b≠X.env.locals/\(∀ x c,X.env.cells.lookup x=some c->c≠b)/\∀ p∈X.pn++pins,p.1≠b)
  (keep:∀ b o,b≠X.env.locals->b∉X.fs->b∉ch->s.heap.get? b=some o->H b=none->h'.get? b=some o)
  (t:∀ b o,b≠X.env.locals->b∈X.fs->b∉ch->s.heap.get? b=some o->H b=none->∃ L,h'.get? b=some { o with slots:=L }) (free:∀ b o,b∉ch->s.heap.get? b=some o->H b=none->H' b=none)
  (y:∀ b o,b∉ch->s.heap.get? b=some o->∃ E,h'.get? b=some E)
  (G:∀ b xs,H b=some (.tup xs)->H' b=some (.tup xs)) (C:∀ b o u,H b=some (.frz o u)->H' b=some (.frz o u)) (F:∀ b ps,H b=some (.tbl ps)->∃ more,H' b=some (.tbl (ps++more)))
  (ns:∀ m,s.heap.Ns X.env.locals m->h'.Ns X.env.locals m) (K:HOk X.prog X.w H' h') (R:AllBare g') :
  Inv X pins σ H' { s with heap:=h',gens:=g',drawn:=d',toks:=t' }:=by
 have D:∀ b o,X.s₀.heap.get? b=some o->b≠X.env.locals:=λb o e=>Yk (yi (yM e) I.ok.above)
 have j:∀ b o,X.s₀.heap.get? b=some o->b∉X.ex->b∉ch:=λb o e a hb=>by
  rcases(f b hb).1 with z | z
  .show a z
  .show absurd (yi (yM e) z) (Yw _)
 have cellK:∀ x c,X.env.cells.lookup x=some c->∀ v,s.heap.IsCell c v->h'.IsCell c v:=λx c e v ⟨o,A,J⟩=>by
  have g:c∉ch:=λz=>(f c z).2.2.1 x c e rfl;by_cases hc:c∈X.fs
  .obtain⟨L,q⟩:=t c o (I.cne x c e) hc g A (I.freeC x c e);show⟨_,q,J⟩
  .show⟨o,keep c o (I.cne x c e) hc g A (I.freeC x c e),J⟩
 show⟨I.ok,I.os,R,⟨λb o e n hb a=>?_,λb o e n hb a=>?_,λb o e n a=>?_,λb o e a=>?_,λb xs e=>G b xs (I.base.tups b xs e),λb o xs e=>C b o xs (I.base.frzs b o xs e),λb ps e=>?_⟩,?_,λx c e=>?_,?_,λx c e=>?_,λp N=>?_,K,I.len⟩
 .show keep b o (D b o e) hb (j b o e a) (I.base.keep b o e n hb a) (I.base.free b o e n a)
 .obtain⟨L,h⟩:=I.base.slot b o e n hb a;obtain⟨M,B⟩:=t b _ (D b o e) hb (j b o e a) h (I.base.free b o e n a);show⟨M,B⟩
 .obtain⟨E,h⟩:=I.base.there b o e a;show free b E (j b o e a) h (I.base.free b o e n a)
 .obtain⟨E,h⟩:=I.base.there b o e a;show y b E (j b o e a) h
 .obtain⟨S,h⟩:=I.base.tbls b ps e;obtain⟨T,B⟩:=F b _ h;show⟨S++T,by rw[B,Array.append_assoc]⟩
 .obtain⟨m,hn,hl⟩:=I.loc;show⟨m,ns m hn,λi x v h B P=>?_⟩;obtain⟨u,r,l⟩:=hl i x v h B P;show⟨u,r,?_⟩;rcases l with l | ⟨k,c,e,z⟩
  .show .inl l
  .show .inr ⟨k,c,e,cellK x c e _ z⟩
 .obtain⟨v,z⟩:=I.cell x c e;show⟨v,cellK x c e v z⟩
 .obtain⟨m,⟨o,_,_,A,_⟩,_⟩:=I.loc;show free _ o (λz=>(f _ z).2.1 rfl) A I.free
 .obtain⟨v,o,A,J⟩:=I.cell x c e;show free c o (λz=>(f c z).2.2.1 x c e rfl) A (I.freeC x c e)
 .obtain⟨e,n,ne,O,d⟩:=I.pin p N;have g:p.1∉ch:=λz=>(f p.1 z).2.2.2 p N rfl;show⟨keep p.1 p.2 ne O g e n,free p.1 p.2 g e n,ne,O,d⟩
theorem Inv.un(I:Inv X pins σ H s)(u:Un X.fs [] H H' s.heap h')(f:HOk X.prog X.w H' h'):Inv X pins σ H' { s with heap:=h',toks:=t' }:=by
 obtain⟨m,⟨o,es,ep,g,r⟩,_⟩:=id I.loc;obtain⟨l,h⟩:=u.any g I.free (by simp)
 show I.step (g':=s.gens) (d':=s.drawn) (ch:=[]) (λ_ z=>nomatch z) (λb o _ hb _ e n=>u.keep b o e n hb (by simp)) (λb o _ hb _ e n=>u.slot b o e n hb (by simp)) (λb o _ e n=>u.free b o e n (by simp)) (λb o _ e=>u.there b o e (by simp)) u.tups u.frzs u.tbls (λi hm=>by
  obtain⟨j,d,c,a,r'⟩:=hm;rw[g] at a;cases a;show⟨_,d,c,h,r'⟩) f I.bare
theorem Inv.call(I:Inv X pins σ H s)(u:Un (frs X.stack) ch H H' s.heap h')(i:HOk X.prog X.w H' h')(l:AllBare g')
  (a:∀ b∈ch,(b∈X.ex\/X.s₀.heap.objs.size<=b)/\b≠X.env.locals/\(∀ x c,X.env.cells.lookup x=some c->c≠b)/\∀ p∈X.pn++pins,p.1≠b) :
  Inv X pins σ H' { s with heap:=h',gens:=g',drawn:=d',toks:=t' }:=by
 obtain⟨m,⟨o,es,ep,j,r⟩,_⟩:=id I.loc;obtain⟨v,h⟩:=u.any j I.free λz=>(a _ z).2.1 rfl
 show I.step (ch:=ch) a (λb o h hb hc e n=>u.keep b o e n (λz=>(yy.mp (I.stkSub b z)).elim h hb) hc) (λb o _ _ hc e n=>u.any e n hc) (λb o hc e n=>u.free b o e n hc) (λb o hc e=>u.there b o e hc) u.tups u.frzs u.tbls (λq hm=>by
  obtain⟨t,g,f,d,r'⟩:=hm;rw[j] at d;cases d;show⟨_,g,f,h,r'⟩) i l
theorem Inv.turned(I:Inv X pins σ H s)(k:∀ b o,b≠it->s.heap.get? b=some o->h'.get? b=some o)(hn:H it=none)(d:it≠X.env.locals)
  (h1:it∈X.ex\/X.s₀.heap.objs.size<=it) (f:∀ x c,X.env.cells.lookup x=some c->c≠it) (g:∀ p∈X.pn++pins,p.1≠it):Inv X pins σ H { s with heap:=h',toks:=t' }:=by
 have a:∀ b u,H b=some u->b≠it:=λb u e z=>by rw[z,hn] at e;cases e
 show I.step (g':=s.gens) (d':=s.drawn) (ch:=[it]) (λb hb=>?_) (λb o _ _ hc e _=>k b o (λz=>hc (by simp[z])) e) (λb o _ _ hc e _=>⟨o.slots,k b o (λz=>hc (by simp[z])) e⟩) (λ_ _ _ _ n=>n)
  (λb o hc e=>⟨o,k b o (λz=>hc (by simp[z])) e⟩) (λ_ _ e=>e) (λ_ _ _ e=>e) (λb ps e=>⟨#[],by rw[e];simp⟩) (λm hm=>?_) (λb u e=>?_) I.bare
 .have e:b=it:=by simpa using hb
  subst e;show⟨h1,d,f,g⟩
 .obtain⟨o,es,ep,h,r⟩:=hm;show⟨o,es,ep,k _ o (Yv d) h,r⟩
 .show(I.hok b u e).stay (λc v hc q=>k c v ?_ q) (λ_ q=>q) λ_ _ q=>q;rcases hc with z | z
  .rw [z];show a b u e
  .show a c _ z
theorem Inv.tok(I:Inv X pins σ H s)(t:Nat):Inv X pins σ H { s with toks:=t }:=I.un (h':=s.heap) (t':=t) Un.refl I.hok
theorem Inv.kept(I:Inv X pins σ H s)(k:∀ b u,s.heap.get? b=some u->h'.get? b=some u):Inv X pins σ H { s with heap:=h',toks:=t' }:=I.un (Un.kept k) (I.hok.kept k)
theorem Inv.laid(I:Inv X pins σ H s)(k:∀ b u,s.heap.get? b=some u->h'.get? b=some u)(c:s.heap.objs.size<=a)(new:ObjOk X.prog X.w (upd H a o) h' a o) :
  Inv X pins σ (upd H a o) { s with heap:=h',toks:=t' }:=I.un (Un.laid k c (I.hok.fresh c)) (I.hok.laid k c new)
theorem Inv.write{x e:Addr}(I:Inv X pins σ H s)(d:Mut (H x))(c:e=x\/H e=some (.own x))(k:∀ b u,b≠e->s.heap.get? b=some u->h'.get? b=some u)(a:∃ u,h'.get? e=some u)
  (new:ObjOk X.prog X.w (upd H x o) h' x o):Inv X pins σ (upd H x o) { s with heap:=h',toks:=t' }:=I.un (Un.write d c k a) (I.hok.write d c k a new)
theorem Inv.weak{a:List (Option V)}(I:Inv X pins σ H s)(hl:a.length=σ.length)(w:∀(i:Nat) v,a[i]?=some (some v)->σ[i]?=some (some v)):Inv X pins a H s:=
 ⟨I.ok,I.os,I.bare,I.base,let ⟨m,hn,hl'⟩:=I.loc;⟨m,hn,λi x v b c d=>hl' i x v b (w i v c) d⟩,I.cell,I.free,I.freeC,I.pin,I.hok,hl.trans I.len⟩
theorem Inv.pins_of{pins':List (Addr×Obj)}(I:Inv X pins σ H s)(h:∀ p∈pins',s.heap.get? p.1=some p.2/\H p.1=none/\p.1≠X.env.locals/\p.1∉X.fs/\∀ v,p.2.data≠.cell v):Inv X pins' σ H s:=
 ⟨I.ok,I.os,I.bare,I.base,I.loc,I.cell,I.free,I.freeC,λp a=>(yK.mp a).elim (λz=>I.pin p (Yz _ z)) (h p),I.hok,I.len⟩
theorem qcV(e:N.Nodup)(a:N[i]?=some x)(b:N[j]?=some x):i=j:=by
 obtain⟨h1,c⟩:=yc.mp a;obtain⟨f,d⟩:=yc.mp b;show(List.getElem_inj e).mp (c.trans d.symm)
theorem qdr{Q:Unit->Shared->Prop}(I:Inv X pins σ H s)(hN:X.N.Nodup)(O:X.N[i]?=some x)(t:Loc X.env.scope x)(r:RelV v u)
  (h:∀ s',Inv X pins (σ.set i (some v)) H s'->(∃ a,Heap.SameBut a s.heap s'.heap/\(a=X.env.locals\/X.env.cells.lookup x=some a))->Q () s') (hf:X.fn x=true\/X.env.scope.names.lookup x=some .local:=by first | show .inl rfl | show .inr rfl | assumption):wpAny M A (storeName X.env x u) Q E s:=by
 obtain⟨m,hn,hl⟩:=id I.loc;have L:(X.env.scope.kind==.class||(X.env.scope.kind==.module&&X.env.locals != X.env.globals))=false:=by rw[I.ok.kind];rfl
 have D:i<σ.length:=by rw[I.len];show(yc.mp O).1
 have cne:=I.cne
 have l:∀{a:Addr} {h':Heap},(∃ o,s.heap.get? a=some o/\H a=none)->Heap.SameBut a s.heap h'->HOk X.prog X.w H h':=λ{a h'} ha f b ob e=>by
  obtain⟨_,_,B⟩:=ha;show(I.hok b ob e).stay (λc T hc q=>(f.2 c ?_).trans q) (λ_ q=>q) λ_ _ q=>q;rintro rfl;rcases hc with rfl | hc
  .rw [B] at e;cases e
  .rw [B] at hc;cases hc
 rcases t with hk | hk
 .show wpAny_storeName_local hk hn (λh' W f=>?_) L;obtain⟨oL,_,_,Y,_⟩:=id hn;show h _ ⟨I.ok,I.os,I.bare,⟨λb o e n hb t=>?_,λb o e n hb t=>?_,I.base.free,λb o e t=>?_,I.base.tups,I.base.frzs,I.base.tbls⟩,⟨_,W,λj y v' g C U=>?_⟩,λy c e=>?_,I.free,I.freeC,λp Z=>?_,l ⟨oL,Y,I.free⟩ f,by simpa using I.len⟩ ⟨_,f,.inl rfl⟩
  .show(f.2 b (Yk (yi (yM e) I.ok.above))).trans (I.base.keep b o e n hb t)
  .obtain⟨sl,g⟩:=I.base.slot b o e n hb t;show⟨sl,(f.2 b (Yk (yi (yM e) I.ok.above))).trans g⟩
  .obtain⟨o',g⟩:=I.base.there b o e t;show⟨o',(f.2 b (Yk (yi (yM e) I.ok.above))).trans g⟩
  .by_cases G:j=i
   .subst G;rw[O] at g;cases g;rw[Xf D] at C;cases C;show⟨u,r,.inl ⟨hk,by simp⟩⟩
   .rw [xp (Yv G)] at C;obtain⟨u',r',q⟩:=hl j y v' g C U;show⟨u',r',?_⟩;rcases q with⟨k,e⟩ | ⟨k,c,e,z⟩
    .show .inl ⟨k,?_⟩;have:y≠x:=λe=>G (qcV hN g (e ▸ O));simp[this,e]
    .show .inr ⟨k,c,e,z.sameBut f (cne y c e)⟩
  .obtain⟨T,z⟩:=I.cell y c e;show⟨T,z.sameBut f (cne y c e)⟩
  .obtain⟨e,n,ne,nf,d⟩:=I.pin p Z;show⟨(f.2 p.1 ne).trans e,n,ne,nf,d⟩
 .have F:X.fn x=true:=by
   rcases hf with z | z
   .show z
   .rw [z] at hk;cases hk
  obtain⟨c,hc⟩:=I.ok.has x (.inl hk);obtain⟨T,z⟩:=I.cell x c hc;show wpAny_storeName_cell I.ok.kind hk hc z (λh' J f=>?_);obtain⟨oc,P,R⟩:=id z;show h { s with heap:=h' } ⟨I.ok,I.os,I.bare,⟨λb o e n hb t=>?_,λb o e n hb t=>?_,I.base.free,λb o e t=>?_,I.base.tups,I.base.frzs,I.base.tbls⟩,⟨m,hn.sameBut f (Yv (cne x c hc)),λj y v' g C U=>?_⟩,λy S e=>?_,I.free,I.freeC,λp Z=>?_,l ⟨oc,P,I.freeC x c hc⟩ f,by simpa using I.len⟩ ⟨c,f,.inr hc⟩
  .show(f.2 b (Yk (yi (yM e) (I.ok.cab x c F hc)))).trans (I.base.keep b o e n hb t)
  .obtain⟨sl,g⟩:=I.base.slot b o e n hb t;show⟨sl,(f.2 b (Yk (yi (yM e) (I.ok.cab x c F hc)))).trans g⟩
  .obtain⟨o',g⟩:=I.base.there b o e t;show⟨o',(f.2 b (Yk (yi (yM e) (I.ok.cab x c F hc)))).trans g⟩
  .by_cases G:j=i
   .subst G;rw[O] at g;cases g;rw[Xf D] at C;cases C;show⟨u,r,.inr ⟨.inl hk,c,hc,J⟩⟩
   .rw [xp (Yv G)] at C;obtain⟨u',r',q⟩:=hl j y v' g C U;show⟨u',r',?_⟩;rcases q with q | ⟨k,S,e,z'⟩
    .show .inl q
    .show .inr ⟨k,S,e,z'.sameBut f ?_⟩;rintro rfl;show G (qcV hN g (I.ok.inj _ _ _ e hc ▸ O))
  .by_cases K:S=c
   .subst K;show⟨_,J⟩
   .obtain⟨w2,z2⟩:=I.cell y S e;show⟨w2,z2.sameBut f K⟩
  .obtain⟨e,n,ne,nf,d⟩:=I.pin p Z;show⟨(f.2 p.1 ?_).trans e,n,ne,nf,d⟩;intro q;rw[q,P] at e;have q':oc=p.2:=yl e;show d T (by rw[<- q'];show R)
theorem qbR{Q:Unit->Shared->Prop}(I:Inv X pins σ H s)(b:X.N.Nodup)(d:X.N[i]?=some x)(e:Loc X.env.scope x)(r:RelV v u)
  (h:∀ s',Inv X pins (σ.set i (some v)) H s'->Q () s') (c:X.fn x=true\/X.env.scope.names.lookup x=some .local:=by first | show .inl rfl | show .inr rfl | assumption):wpAny M A (storeName X.env x u) Q E s:=
 qdr I b d e r (λs' a _=>h s' a) c
theorem Inv.call'(I:Inv X pins σ H s)(g:s'.os=s.os)(u:Un (frs X.stack) ch H H' s.heap s'.heap)(d:HOk X.prog X.w H' s'.heap)(f:AllBare s'.gens)
  (a:∀ b∈ch,(b∈X.ex\/X.s₀.heap.objs.size<=b)/\b≠X.env.locals/\(∀ x c,X.env.cells.lookup x=some c->c≠b)/\∀ p∈X.pn++pins,p.1≠b):Inv X pins σ H' s':=by
 obtain⟨h',g',d',t',h⟩:=s';have e:h=s.os:=g;subst e;show I.call (g':=g') (t':=t') (d':=d') u d f a
end
abbrev XK:=Value->Option Addr->Hp->Prop
abbrev St:=List (Option V)
abbrev VK:=V->Hp->Prop
abbrev TE:=St->Hp->VK->Prop
abbrev TT:=St->Hp->(Bool->Hp->Prop)->Prop
abbrev TA:=St->Hp->(List V->Hp->Prop)->Prop
structure Ends where
 nx:St->Hp->Prop
 rt:VK
 bk:St->Hp->Prop:=λ_ _=>False
 ct:St->Hp->Prop:=λ_ _=>False
abbrev TS:=Ends->St->Hp->Prop
def EP(X:Cx)(pins:List (Addr×Obj))(σ:St)(Q:VK)(u:Value)(s':Shared):Prop:=∃ v H',Inv X pins σ H' s'/\RelV v u/\Q v H'
def TP(X:Cx)(pins:List (Addr×Obj))(σ:St)(Q:Bool->Hp->Prop)(b:Bool)(s':Shared):Prop:=∃ H',Inv X pins σ H' s'/\Q b H'
def AP(X:Cx)(pins:List (Addr×Obj))(σ:St)(Q:List V->Hp->Prop)(us:List Value)(s':Shared):Prop:=∃ vs H',Inv X pins σ H' s'/\Vals vs us/\Q vs H'
def SP(X:Cx)(pins:List (Addr×Obj))(D:Ends)(f:Flow)(s':Shared):Prop:=
 match f with
 | .next=>∃ a H',Inv X pins a H' s'/\D.nx a H'
 | .brk=>∃ a H',Inv X pins a H' s'/\D.bk a H'
 | .cont=>∃ a H',Inv X pins a H' s'/\D.ct a H'
 | .ret u=>∃ v a H',Inv X pins a H' s'/\RelV v u/\D.rt v H'
def PE(X:Cx)(e:Expr)(t:TE):Prop:=
 ∀(pins:List (Addr×Obj)) (s:Shared) (σ:St) (H:Hp) (Q:VK),Inv X pins σ H s->t σ H Q->wpAny (model X.prog X.w) X.A (eval e X.env) (EP X pins σ Q) X.xe s
def PT(X:Cx)(e:Expr)(t:TT):Prop:=
 ∀(pins:List (Addr×Obj)) (s:Shared) (σ:St) (H:Hp) (Q:Bool->Hp->Prop),Inv X pins σ H s->t σ H Q->wpAny (model X.prog X.w) X.A (isTrue e X.env (eval e X.env)) (TP X pins σ Q) X.xe s
def PW(X:Cx)(e:Expr)(t:TT):Prop:=
 ∀(a:Sem Value) (pins:List (Addr×Obj)) (s:Shared) (σ:St) (H:Hp) (Q:Bool->Hp->Prop),Inv X pins σ H s->t σ H Q->wpAny (model X.prog X.w) X.A (isTrue e X.env a) (TP X pins σ Q) X.xe s
theorem PW.pt{t:TT}(h:PW X e t):PT X e t:=h _
def PA(X:Cx)(es:List Expr)(t:TA):Prop:=
 ∀(pos:Pos) (pins:List (Addr×Obj)) (s:Shared) (σ:St) (H:Hp) (Q:List V->Hp->Prop),Inv X pins σ H s->t σ H Q->wpAny (model X.prog X.w) X.A (spliced (backTo pos (starEach es X.env))) (AP X pins σ Q) X.xe s
def PS(X:Cx)(st:Stmt)(t:TS):Prop:=
 ∀(pins:List (Addr×Obj)) (s:Shared) (σ:St) (H:Hp) (D:Ends),Inv X pins σ H s->t D σ H->wpAny (model X.prog X.w) X.A (exec st X.env) (SP X pins D) X.xe s
def PSs(X:Cx)(st:List Stmt)(t:TS):Prop:=
 ∀(pins:List (Addr×Obj)) (s:Shared) (σ:St) (H:Hp) (D:Ends),Inv X pins σ H s->t D σ H->wpAny (model X.prog X.w) X.A (execs st X.env) (SP X pins D) X.xe s
theorem thn{t:Sem α}{Q b:α->Shared->Prop}(h:wpAny M A t Q E s)(c:∀ a s,Q a s->b a s):wpAny M A t b E s:=YD h c λ_ _ x=>x
section
variable{X:Cx}
def qd1(i:Nat):TE:=fun σ H Q=>∃ v,σ[i]?=some (some v)/\Q v H
def tC(v:V):TE:=λ_ H Q=>Q v H
theorem pe_var(g:X.N[i]?=some x)(hv:Vis X.env.scope x)(f:(x==("__debug__":Str))=false:=by decide)(d:(x==("__classdict__":Str))=false:=by decide):PE X (.Name x pos) (qd1 i):=by
 intro pins s σ H Q I h;obtain⟨v,e,h⟩:=h;obtain⟨m,hn,hl⟩:=I.loc;obtain⟨u,r,l⟩:=hl i x v g e hv;have b:EP X pins σ Q u s:=⟨v,H,I,r,h⟩;rcases l with⟨hk,hm⟩ | ⟨hk,c,hc,a⟩
 .show wpAny_Name (wpAny_loadName_local I.ok.kind hk hn hm b) f
 .rcases hk with hk | hk
  .show wpAny_Name (wpAny_loadName_cell I.ok.kind hk hc a b) f
  .show wpAny_Name (wpAny_loadName_free I.ok.kind hk hc a b d) f
theorem qh{i j pos}:PE X (.Constant (.int i) j pos) (tC (.int i)):=λ_ _ _ H _ I h=>wpAny_Constant_int ⟨.int i,H,I.tok _,⟨_,rfl⟩,h⟩
theorem jW{b j pos}:PE X (.Constant (.bool b) j pos) (tC (.bl b)):=λ_ _ _ H _ I h=>Constant_bool ⟨.bl b,H,I,rfl,h⟩
theorem jI{j pos}:PE X (.Constant .none j pos) (tC .non):=λ_ _ _ H _ I h=>Constant_none ⟨.non,H,I,rfl,h⟩
theorem jg{x j pos}:PE X (.Constant (.str x) j pos) (tC (.str x)):=λ_ _ _ H _ I h=>Calls.Constant_str ⟨.str x,H,I.tok _,⟨_,rfl⟩,h⟩
def Gl(X:Cx)(x:Str):Prop:=X.env.kindOf x=some .globalImplicit
theorem qao{Q:Value->Shared->Prop}(I:Inv X pins σ H s)(b:Gl X x)(hm:X.mg x=some u)(h:Q u s)
  (a:(x==("__debug__":Str))=false:=by decide):wpAny (model X.prog X.w) X.A (eval (.Name x pos) X.env) Q E s:=
 Calls.Name_function_global I.ok.kind b (Calls.loadGlobal_global (by rw[I.ok.glob];show I.mod.glob.keeps I.bk) hm h) a
theorem qaz{Q:Value->Shared->Prop}(I:Inv X pins σ H s)(c:Gl X x)(hm:X.mg x=none)(hv:bootBuiltins x=some u)(h:Q u s)
  (hn:x≠"__name__":=by decide) (b:(x==("__debug__":Str))=false:=by decide):wpAny (model X.prog X.w) X.A (eval (.Name x pos) X.env) Q E s:=by
 obtain⟨d,h1,a⟩:=I.mod.blt;show Calls.Name_function_global I.ok.kind c (Calls.loadGlobal_builtin (by rw[I.ok.glob];show I.mod.glob.keeps I.bk) hm (by rw[I.ok.blt];show h1.keeps I.bk) ((a x hn).trans hv) h) b
theorem qaF(b:Gl X x)(hm:X.mg x=some u)(r:RelV v u)(a:(x==("__debug__":Str))=false:=by decide):PE X (.Name x pos) (tC v):=
 λ_ _ _ H _ I h=>qao I b hm ⟨v,H,I,r,h⟩ a
theorem qY(b:Gl X x)(hm:X.mg x=none)(hv:bootBuiltins x=some u)(r:RelV v u)(hn:x≠"__name__":=by decide)(a:(x==("__debug__":Str))=false:=by decide):PE X (.Name x pos) (tC v):=
 λ_ _ _ H _ I h=>qaz I b hm hv ⟨v,H,I,r,h⟩ hn a
variable{a b:Expr}{ta tb:TE}{pos:Pos}
def tB(t:TE):TT:=fun σ H Q=>t σ H λx a=>∃ c,x=.bl c/\Q c a
theorem qN(h:PE X e t)(f:∀ a,isTrue e X.env a=(do let v <- a;standAt e.pos;holding [v] (truthy v)):=by intro _;rfl):PT X e (tB t):=by
 intro pins s σ H Q I hw;show isTrue_plain (thn (h pins s σ H _ I hw) λv j ⟨x,b,c,i,g⟩=>?_) (f _);obtain⟨d,rfl,q⟩:=g;cases i;show YZ ⟨b,c,q⟩
variable{tA tB':TT}{rest:List Expr}
def qh6(t u:TT):TT:=fun σ H Q=>t σ H λc a=>if c=true then u σ a Q else Q false a
def tOr(t u:TT):TT:=fun σ H Q=>t σ H λc a=>if c=true then Q true a else u σ a Q
def qh7(t:TT):TT:=fun σ H Q=>t σ H λc a=>Q (!c) a
theorem pw_and1(b:PT X a tA):PW X (.BoolOp .And [a] pos) tA:=by
 intro f pins s σ H Q I h;show isTrue_and (thn (b pins s σ H Q I h) λc d e=>?_)
 cases c with
 | true=>show isTrue_and_nil e
 | false=>show e
theorem zu(b:PT X a tA):PW X (.BoolOp .Or [a] pos) tA:=by
 intro f pins s σ H Q I h;show isTrue_or (thn (b pins s σ H Q I h) λc d e=>?_)
 cases c with
 | false=>show isTrue_or_nil e
 | true=>show e
theorem pw_and(g:PT X a tA)(hb:PW X (.BoolOp .And (b::rest) pos) tB'):PW X (.BoolOp .And (a::b::rest) pos) (qh6 tA tB'):=by
 intro j pins s σ H Q I h;show isTrue_and (thn (g pins s σ H _ I h) λc i ⟨d,e,f⟩=>?_)
 cases c with
 | true=>show hb j pins i σ d Q e f
 | false=>show⟨d,e,f⟩
theorem zU(g:PT X a tA)(hb:PW X (.BoolOp .Or (b::rest) pos) tB'):PW X (.BoolOp .Or (a::b::rest) pos) (tOr tA tB'):=by
 intro j pins s σ H Q I h;show isTrue_or (thn (g pins s σ H _ I h) λc i ⟨d,e,f⟩=>?_)
 cases c with
 | true=>show⟨d,e,f⟩
 | false=>show hb j pins i σ d Q e f
theorem qS(d:PT X a tA):PT X (.UnaryOp .Not a pos) (qh7 tA):=by
 intro pins s σ H Q I h;show isTrue_not (d pins s σ H (λc b=>Q (!c) b) I h)
def qhm(ta tb:TE):TE:=fun σ H Q=>ta σ H λx a=>∃ c,x=.bl c/\if c=true then tb σ a Q else Q (.bl false) a
def qh8(ta tb:TE):TE:=fun σ H Q=>ta σ H λx a=>∃ c,x=.bl c/\if c=true then Q (.bl true) a else tb σ a Q
def qhn(ta:TE):TE:=fun σ H Q=>ta σ H λx a=>∃ c,x=.bl c/\Q (.bl (!c)) a
theorem j4{op}(h:PE X a t):PE X (.BoolOp op [a] pos) t:=λpins s σ H Q I hw=>BoolOp_one (h pins s σ H Q I hw)
theorem zv(g:PE X a ta)(hb:PE X (.BoolOp .And (b::rest) pos) tb):PE X (.BoolOp .And (a::b::rest) pos) (qhm ta tb):=by
 intro pins s σ H Q I h;show BoolOp_and (thn (g pins s σ H _ I h) λv j ⟨x,e,f,i,d⟩=>?_);obtain⟨c,rfl,d⟩:=d;cases i;show YZ ?_
 cases c with
 | true=>show hb pins j σ e Q f d
 | false=>show⟨.bl false,e,f,rfl,d⟩
theorem qg6(g:PE X a ta)(hb:PE X (.BoolOp .Or (b::rest) pos) tb):PE X (.BoolOp .Or (a::b::rest) pos) (qh8 ta tb):=by
 intro pins s σ H Q I h;show BoolOp_or (thn (g pins s σ H _ I h) λv j ⟨x,e,f,i,d⟩=>?_);obtain⟨c,rfl,d⟩:=d;cases i;show YZ ?_
 cases c with
 | false=>show hb pins j σ e Q f d
 | true=>show⟨.bl true,e,f,rfl,d⟩
theorem qcF(f:PE X a ta):PE X (.UnaryOp .Not a pos) (qhn ta):=by
 intro pins s σ H Q I h;show UnaryOp_ (thn (f pins s σ H _ I h) λv i ⟨x,d,e,g,b⟩=>?_);obtain⟨c,rfl,b⟩:=b;cases g;show not_of (YZ ⟨.bl (!c),d,e,rfl,b⟩)
def tIf(t:TT)(ta tb:TE):TE:=fun σ H Q=>t σ H λc a=>if c=true then ta σ a Q else tb σ a Q
theorem qbS(hc:PT X c tA)(j:PE X a ta)(hb:PE X b tb):PE X (.IfExp c a b pos) (tIf tA ta tb):=by
 intro pins s σ H Q I h;show wpAny_IfExp (thn (hc pins s σ H _ I h) λd i ⟨e,f,g⟩=>?_)
 cases d with
 | true=>show j pins i σ e Q f g
 | false=>show hb pins i σ e Q f g
end
def SqL(K:yf)(H:Hp)(a:Addr)(xs:List V):Prop:=
 Rd H a (.lst xs) \/
  ∃(o:Obj) (b:Array Value) (n:Nat),K.lookup a=some o/\o.cls=.type "list"/\o.dict=none/\o.data=.seq b n/\b.size<=sizeLine/\Vals xs b.toList
def SqT(K:yf)(H:Hp)(a:Addr)(xs:List V):Prop:=
 Rd H a (.tup xs) \/
  ∃(o:Obj) (b:Array Value) (n:Nat),K.lookup a=some o/\o.cls=.type "tuple"/\o.data=.seq b n/\b.size<=sizeLine/\Vals xs b.toList
def absV:Value->Option V
 | .none=>some .non
 | .bool b=>some (.bl b)
 | .int i _=>some (.int i)
 | .str x _=>some (.str x)
 | .bytes b _=>some (.byt b)
 | .float b _=>some (.flt b)
 | .ref a=>some (.ref a)
 | .type n=>some (.ty n)
 | _=>none
theorem RelV.abs{x:V}(r:RelV x u):absV u=some x:=by
 cases x with
 | non=>cases r;rfl
 | bl _=>cases r;rfl
 | int _=>obtain⟨t,rfl⟩:=r;rfl
 | str _=>obtain⟨t,rfl⟩:=r;rfl
 | byt _=>obtain⟨t,rfl⟩:=r;rfl
 | flt _=>obtain⟨t,rfl⟩:=r;rfl
 | ref _=>cases r;rfl
 | ty _=>cases r;rfl
theorem RelV.inj{x:V}(r:RelV x u)(q:RelV y u):x=y:=yl (r.abs.symm.trans q.abs)
theorem Vals.inj:∀{xs ys:List V} {us:List Value},Vals xs us->Vals ys us->xs=ys
 | _,_,_,.nil,.nil=>rfl
 | _,_,_,.cons r t,.cons r' t'=>by rw[r.inj r',Vals.inj t t']
section
variable{X:Cx}{pins:List (Addr×Obj)}{σ:St}{H:Hp}{s:Shared}{a:Addr}{xs ys:List V}
theorem SqL.of{K:yf}(h:H a=some (.lst xs)):SqL K H a xs:=.inl (.inl h)
theorem SqT.of{K:yf}(h:H a=some (.tup xs)):SqT K H a xs:=.inl (.inl h)
theorem Inv.list(I:Inv X pins σ H s)(h:SqL X.K H a xs):∃ b:List Value,Vals xs b/\PlainL s.heap a b.toArray/\xs.length<=sizeLine:=by
 rcases h with h | ⟨o,b,n,hk,hc,hd,hs,hz,r⟩
 .obtain⟨z,b,n,r,e⟩:=h.ok I.hok;show⟨b,r,⟨_,n,e,rfl,rfl,rfl⟩,z⟩
 .show⟨b.toList,r,⟨o,n,I.kIn a o hk,hc,hd,by simpa using hs⟩,?_⟩;have e:=r.length;simp only[Y8] at e;lk
theorem Inv.tuple(I:Inv X pins σ H s)(h:SqT X.K H a xs):∃ b:List Value,Vals xs b/\IsTup s.heap a b.toArray/\xs.length<=sizeLine:=by
 rcases h with h | ⟨o,b,n,hk,hc,hs,hz,r⟩
 .obtain⟨z,b,r,p⟩:=h.ok I.hok;show⟨b,r,p,z⟩
 .show⟨b.toList,r,⟨o,I.kIn a o hk,hc,n,by simpa using hs⟩,?_⟩;have e:=r.length;simp only[Y8] at e;lk
theorem Inv.list_inj(I:Inv X pins σ H s)(h:SqL X.K H a xs)(h':SqL X.K H a ys):xs=ys:=by
 obtain⟨b,r,⟨o,n,e,_,_,d⟩,_⟩:=I.list h;obtain⟨its',r',⟨f,n',c,_,_,d'⟩,_⟩:=I.list h';rw[e] at c;cases c;rw[d] at d'
 injection d' with d1 _
 have:b=its':=by simpa using congrArg Array.toList d1
 subst this;show r.inj r'
theorem Inv.tuple_inj(I:Inv X pins σ H s)(h:SqT X.K H a xs)(h':SqT X.K H a ys):xs=ys:=by
 obtain⟨b,r,⟨o,e,_,n,d⟩,_⟩:=I.tuple h;obtain⟨its',r',⟨f,c,_,n',d'⟩,_⟩:=I.tuple h';rw[e] at c;cases c;rw[d] at d'
 injection d' with d1 _
 have:b=its':=by simpa using congrArg Array.toList d1
 subst this;show r.inj r'
end
abbrev Cx.wish(X:Cx)(E:Value->Shared->Prop):Cx:={ X with xe:=E }
abbrev Cx.nox(X:Cx):Cx:=X.wish λ_ _=>False
theorem Cx.Ok.wish(ok:X.Ok)(E:Value->Shared->Prop):(X.wish E).Ok:=
 ⟨ok.mod,ok.kind,ok.glob,ok.blt,ok.above,ok.inj,ok.has,ok.cab,ok.hd,ok.frames,ok.stk,ok.exf,ok.bs,ok.bsz,ok.noex,ok.exfs,ok.funs,ok.frf⟩
theorem Cx.Ok.unwish(ok:(X.wish E).Ok):X.Ok:=
 ⟨ok.mod,ok.kind,ok.glob,ok.blt,ok.above,ok.inj,ok.has,ok.cab,ok.hd,ok.frames,ok.stk,ok.exf,ok.bs,ok.bsz,ok.noex,ok.exfs,ok.funs,ok.frf⟩
section
variable{X:Cx}{pins:List (Addr×Obj)}{σ:St}{H:Hp}{s:Shared}{E:Value->Shared->Prop}
theorem Inv.wish(I:Inv X pins σ H s)(E:Value->Shared->Prop):Inv (X.wish E) pins σ H s:=⟨I.ok.wish E,I.os,I.bare,I.base,I.loc,I.cell,I.free,I.freeC,I.pin,I.hok,I.len⟩
theorem Inv.unwish(I:Inv (X.wish E) pins σ H s):Inv X pins σ H s:=⟨I.ok.unwish,I.os,I.bare,I.base,I.loc,I.cell,I.free,I.freeC,I.pin,I.hok,I.len⟩
theorem SP.unwish{f:Flow}(h:SP (X.wish E) pins D f s'):SP X pins D f s':=by
 cases f with
 | next=>obtain⟨a,H',I,q⟩:=h;show⟨a,H',I.unwish,q⟩
 | brk=>obtain⟨a,H',I,q⟩:=h;show⟨a,H',I.unwish,q⟩
 | cont=>obtain⟨a,H',I,q⟩:=h;show⟨a,H',I.unwish,q⟩
 | ret u=>obtain⟨v,a,H',I,r,q⟩:=h;show⟨v,a,H',I.unwish,r,q⟩
theorem PSs.nox{st:List Stmt}{t:TS}(h:PSs X.nox st t):PSs X st t:=λpins s σ H D I hw =>
 YD (h pins s σ H D (I.wish _) hw) (λ_ _ q=>q.unwish) λ_ _ z=>False.elim z
end
section
variable{X:Cx}{st:Stmt}{rest:List Stmt}{t u:TS}{e:Expr}{te:TE}{pos:Pos}
def qho:TS:=λD σ H=>D.nx σ H
def qhp(t u:TS):TS:=λD σ H=>t { D with nx:=u D } σ H
theorem qt:PSs X [] qho:=λ_ _ σ H _ I h=>X9 ⟨σ,H,I,h⟩
theorem qd(h1:PS X st t)(c:PSs X rest u):PSs X (st::rest) (qhp t u):=by
 intro pins s σ H D I h;show wpAny_execs_cons (thn (h1 pins s σ H { D with nx:=u D } I h) λf d q=>?_)
 cases f with
 | next =>
  obtain⟨a,H',b,q⟩:=q;show c pins d a H' D b q
 | ret v=>show q
 | brk=>show q
 | cont=>show q
theorem qe(h1:PS X st t):PSs X [st] t:=by
 intro pins s σ H D I h;show wpAny_execs_cons (thn (h1 pins s σ H D I h) λf a q=>?_)
 cases f with
 | next=>show X9 q
 | ret v=>show q
 | brk=>show q
 | cont=>show q
theorem Inv.quiet(I:Inv X pins σ H s):interactive X.env=false:=by simp[interactive,I.ok.kind]
def qhq(te:TE):TS:=λD σ H=>te σ H λ_ a=>D.nx σ a
theorem qK(c:PE X e te)(d:swapsWith e none pos.line X.env=pure false:=by rfl):PS X (.Expr e pos) (qhq te):=by
 intro pins s σ H D I h;show wpAny_Expr_any (thn (c pins s σ H _ I h) λv i ⟨x,a,b,g,f⟩=>⟨σ,a,b,f⟩) I.quiet d
def qhW(te:TE):TS:=λD σ H=>te σ H D.rt
theorem qm(c:PE X e te):PS X (.Return (some e) pos) (qhW te):=by
 intro pins s σ H D I h;show wpAny_Return_some (thn (c pins s σ H _ I h) λv g ⟨x,a,b,f,d⟩=>⟨x,σ,a,b,f,d⟩)
def tRetN:TS:=λD _ H=>D.rt .non H
def qh9(c:TT)(t u:TS):TS:=λD σ H=>c σ H λb a=>if b=true then t D σ a else u D σ a
theorem qJ{a b:List Stmt}(hc:PT X c tc)(j:PSs X a t)(hb:PSs X b u):PS X (.If c a b pos) (qh9 tc t u):=by
 intro pins s σ H D I h;show wpAny_If (thn (hc pins s σ H _ I h) λd i ⟨e,f,g⟩=>?_)
 cases d with
 | true=>show j pins i σ e D f g
 | false=>show hb pins i σ e D f g
def tNever:TS:=λ_ _ _=>False
theorem jF:PS X st tNever:=λ_ _ _ _ _ _ h=>h.elim
end
abbrev TG:=V->St->Hp->(St->Hp->Prop)->Prop
abbrev TGs:=List V->St->Hp->(St->Hp->Prop)->Prop
def PG(X:Cx)(a:Expr)(t:TG):Prop:=
 ∀(pins:List (Addr×Obj)) (s:Shared) (σ:St) (H:Hp) (v:V) (u:Value) (Q:St->Hp->Prop),Inv X pins σ H s->RelV v u->t v σ H Q ->
  wpAny (model X.prog X.w) X.A (assign a X.env u) (λ_ s'=>∃ b H',Inv X pins b H' s'/\Q b H') X.xe s
def PGs(X:Cx)(b:List Expr)(t:TGs):Prop:=
 ∀(pins:List (Addr×Obj)) (s:Shared) (σ:St) (H:Hp) (vs:List V) (us:List Value) (Q:St->Hp->Prop),Inv X pins σ H s->Vals vs us->t vs σ H Q ->
  wpAny (model X.prog X.w) X.A (assignInOrder ((assignEach b X.env).map (·.2)) us) (λ_ s'=>∃ a H',Inv X pins a H' s'/\Q a H') X.xe s
abbrev qhr:=V->V->V->Hp->(Hp->Prop)->Prop
def qhX(X:Cx)(t:qhr):Prop:=
 ∀(pins:List (Addr×Obj)) (s:Shared) (σ:St) (H:Hp) (o i v:V) (a iv u:Value) (Q:Hp->Prop),Inv X pins σ H s->RelV o a->RelV i iv->RelV v u->t o i v H Q ->
  wpAny (model X.prog X.w) X.A (setItem a iv u) (λ_ s'=>∃ H',Inv X pins σ H' s'/\Q H') X.xe s
section
variable{X:Cx}{pos:Pos}
def qcB(i:Nat):TG:=λv σ H Q=>Q (σ.set i (some v)) H
theorem qo(b:X.N.Nodup)(d:X.N[i]?=some x)(e:Loc X.env.scope x)(c:X.fn x=true\/X.env.scope.names.lookup x=some .local:=by first | show .inl rfl | show .inr rfl | assumption):PG X (.Name x pos) (qcB i):=by
 intro pins s σ H v u Q I r h;show wpAny_assign_Name (qbR I b d e r (λs' a=>⟨_,H,a,h⟩) c)
def qia:TGs:=λvs σ H Q=>vs=[]/\Q σ H
def qg7(t:TG)(u:TGs):TGs:=λvs σ H Q=>∃ v r,vs=v::r/\t v σ H λa H'=>u r a H' Q
theorem zV:PGs X [] qia:=by
 intro pins s σ H vs us Q I r h;obtain⟨e,h⟩:=h;subst e;cases r;show assignInOrder_nil ⟨σ,H,I,h⟩
theorem qW{t:TG}{u:TGs}(h1:PG X e t)(f:PGs X es u)
  (g:(assignEach (e::es) X.env).map (·.2)=assign e X.env::(assignEach es X.env).map (·.2):=by rfl):PGs X (e::es) (qg7 t u):=by
 intro pins s σ H vs us Q I r h;obtain⟨v,l,d,h⟩:=h;subst d
 cases r with
 | cons r rr =>
  rw[g];show assignInOrder_cons (thn (h1 pins s σ H _ _ _ I r h) λ_ j ⟨a,b,c,i⟩=>?_);show f pins j a b _ _ Q c rr i
def qhO(K:yf)(n:Nat)(t:TGs):TG:=λv σ H Q=>∃ a xs,v=.ref a/\SqT K H a xs/\xs.length=n/\t xs σ H Q
theorem qa1{k:Nat}{t:TGs}(hc:X.calm=true)(h:PGs X es t)
  (hn:(assignEach es X.env).length=n:=by rfl) (c:(assignEach es X.env).findIdx? (·.1)=none:=by rfl):PG X (.Tuple es k pos) (qhO X.K n t):=by
 intro pins s σ H v u Q I r hw;obtain⟨a,xs,g,i,hl,hw⟩:=hw;subst g;cases r;obtain⟨m,d,j,p⟩:=I.tuple i;show assign_Tuple_tuple (I.ok.hd hc) j (by simp[hn,<- hl,d.length]) c λh' l=>?_;have f:Inv X pins σ H { s with heap:=h' }:=I.kept (t':=s.toks) λb o e=>l b o (Yk (yM e)) e;show h pins _ σ H xs _ Q f (by simpa using d) hw
def qib(to d:TE)(t:qhr):TG:=λv σ H Q=>to σ H λo a=>d σ a λi b=>t o i v b λc=>Q σ c
theorem qbL{o i:Expr}{to b:TE}{t:qhr}(n:PE X o to)(m:PE X i b)(p:qhX X t)
  (l:∀ v,assign (.Subscript o i pos) X.env v=(do
   let a <- holding [v] (eval o X.env);let iv <- holding [v,a] (eval i X.env)
   standAt pos
   holding [v,a,iv] (setItem a iv v)
   release [v,a,iv] []):=by intro _;rfl):PG X (.Subscript o i pos) (qib to b t):=by
 intro pins s σ H v u Q I r h;rw[l];show yq (YF (thn (n pins s σ H _ I h) λa C ⟨x,c,f,A,q⟩=>?_));show yq (YF (thn (m pins C σ c _ f q) λiv D ⟨y,d,g,B,w⟩=>?_));show yq (Xw (yq (YF (thn (p pins D σ d x y v a iv u _ g A B r w) λ_ E ⟨e,j,z⟩=>?_))));show wpAny_release ⟨σ,e,j,z⟩
def qhj(te:TE)(g:TG):TS:=λD σ H=>te σ H λx a=>g x σ a D.nx
theorem qa2(c:PE X e te)(d:PG X tg g)(f:swapsWithSole [tg] e pos.line X.env=pure false:=by rfl)(hw:swappedStores [tg] e X.env=pure none:=by rfl)
  (h1:(assignEach [tg] X.env).map (·.2)=[assign tg X.env]:=by rfl):PS X (.Assign [tg] e pos) (qhj te g):=by
 intro pins s σ H D I h;show wpAny_Assign_stores (thn (c pins s σ H _ I h) λv l ⟨x,a,b,j,i⟩=>?_) f hw;rw[h1];show thn (d pins l σ a x v _ b j i) λ_ m q=>q
theorem qq{a:Pos}(f:X.N.Nodup)(l:X.N[i]?=some x)(n:Loc X.env.scope x)(g:PE X e te)(m:swapsWith e (some (.Name x a)) pos.line X.env=pure false:=by rfl)(j:X.fn x=true\/X.env.scope.names.lookup x=some .local:=by first | show .inl rfl | show .inr rfl | assumption) :
  PS X (.Assign [.Name x a] e pos) (qhj te (qcB i)):=by
 intro pins s σ H D I h;show wpAny_Assign_Name (thn (g pins s σ H _ I h) λv q ⟨y,b,c,p,o⟩=>?_) m;show qbR c f l n p (λr d=>⟨_,b,d,o⟩) j
end
section
variable{X:Cx}{pos:Pos}
def tWhile(c:TT)(tb:TS):TS:=λD σ H=>∃ W:Nat->St->Hp->Prop,(∃ m,W m σ H)/\∀ m σ H,W m σ H ->
 c σ H λb d=>if b=true then ∃ N:St->Hp->Prop,(∀ a H',N a H'->∃ e,e<m/\W e a H')/\tb { D with nx:=N,ct:=N,bk:=D.nx } σ d else D.nx σ d
theorem qcW(y:PassesOwn (model X.prog X.w) X.A X.env X.xe)(hc:PT X c tc)(hb:PSs X body tb):PS X (.While c body [] pos) (tWhile tc tb):=by
 intro pins s σ H D I h;obtain⟨W,⟨B,F⟩,g⟩:=h;show wpAny_While (codeAny_whileLoop (λn s'=>∃ i H',Inv X pins i H' s'/\W n i H') ?_ B ⟨σ,H,I,F⟩);rintro n C ⟨d,r,z,G⟩;show xM y (thn (hc pins C d r _ z (g n d r G)) λb E ⟨t,u,j⟩=>?_)
 cases b with
 | true =>
  obtain⟨N,x,j⟩:=j;rw[yH rfl];show xM y (thn (hb pins E d t _ u j) λf J l=>?_)
  cases f with
  | next =>
   obtain⟨a,e,m,p⟩:=l;obtain⟨o,hm,q⟩:=x a e p;show⟨o,hm,a,e,m,q⟩
  | cont =>
   obtain⟨a,e,m,p⟩:=l;obtain⟨o,hm,q⟩:=x a e p;show⟨o,hm,a,e,m,q⟩
  | brk=>show l
  | ret v=>show l
 | false =>
  rw[yB YC];show X9 ⟨d,t,u,j⟩
end
structure It where
 go:Nat->Hp->Prop
 yld:Nat->Hp->V->Hp->Prop
 stop:Nat->Hp->Prop
def qdZ(X:Cx)(pins:List (Addr×Obj))(H:Hp)(b:Addr):Prop:=
 H b=none/\b≠X.env.locals/\b∉X.fs/\(b∈X.ex\/X.s₀.heap.objs.size<=b)/\(∀ x c,X.env.cells.lookup x=some c->c≠b)/\∀ p∈X.pn++pins,p.1≠b
theorem Inv.fpOk{H':Hp}(I:Inv X pins σ H s)(hb:s.heap.objs.size<=b)(hn:H' b=none):qdZ X pins H' b:=by
 show⟨hn,xO (yi I.lt hb),I.nofs hb,.inr (yh I.sz hb),λx c e z=>?_,λp a z=>?_⟩
 .obtain⟨v,q⟩:=I.cell x c e;show absurd (yi q.lt (by rw[z];show hb)) (Yw _)
 .show absurd (yi (yM (I.pin p a).1) (by rw[z];show hb)) (Yw _)
structure Turn(P:Program)(w:World)(K:yf)(tg:Expr)(J:It)(fp:LI)(it:Addr)(tn:Nat->Heap->Prop):Prop where
 mem:it∈fp
 obj:∀ i h,tn i h->∀ b∈fp,∃ o,h.get? b=some o/\∀ v,o.data≠.cell v
 keep:∀ i h h',tn i h->(∀ b∈fp,∀ o,h.get? b=some o->h'.get? b=some o)->tn i h'
 item:∀(X:Cx),X.prog=P->X.w=w->X.K=K->X.calm=true->∀(i:Nat) (pins:List (Addr×Obj)) (s:Shared) (σ:St) (H:Hp) (E:Value->Shared->Prop),Inv X pins σ H s->(∀ b∈fp,qdZ X pins H b)->tn i s.heap->J.go i H ->
  wpAny (model P w) X.A (pyNext (.ref it)) (λr s1=>∃ u,r=some u /\
   wpAny (model P w) X.A (letOwnedTupleGo tg (.ref it) u) (λ_ s2=>∃ x H',Inv X pins σ H' s2/\RelV x u/\J.yld i H x H'/\tn (i+1) s2.heap/\∀ b∈fp,H' b=none) E s1) E s
 done:∀(X:Cx),X.prog=P->X.w=w->X.K=K->X.calm=true->∀(i:Nat) (pins:List (Addr×Obj)) (s:Shared) (σ:St) (H:Hp) (E:Value->Shared->Prop),Inv X pins σ H s->(∀ b∈fp,qdZ X pins H b)->tn i s.heap->J.stop i H ->
  wpAny (model P w) X.A (pyNext (.ref it)) (λr s1=>r=none/\Inv X pins σ H s1) E s
 self:∀(A:Around) (i:Nat) (s:Shared) (Q:Value->Shared->Prop) (E:Value->Shared->Prop),tn i s.heap->Q (.ref it) s->wpAny (model P w) A (pyIter (.ref it)) Q E s
abbrev TI:=St->Hp->(It->Hp->Prop)->Prop
def PIE(X:Cx)(pins:List (Addr×Obj))(σ:St)(tg:Expr)(R:It->Hp->Prop)(a:Value)(c:Shared):Prop:=
 ∃(it:Addr) (fp:LI) (tn:Nat->Heap->Prop) (J:It) (H':Hp),a=.ref it/\Inv X pins σ H' c/\Turn X.prog X.w X.K tg J fp it tn/\tn 0 c.heap/\(∀ b∈fp,qdZ X pins H' b)/\R J H'
def PI(X:Cx)(tg a:Expr)(c:TI):Prop:=
 ∀(pins:List (Addr×Obj)) (s:Shared) (σ:St) (H:Hp) (R:It->Hp->Prop),Inv X pins σ H s->c σ H R ->
  wpAny (model X.prog X.w) X.A (eval a X.env) (λv b=>wpAny (model X.prog X.w) X.A (pyIter v) (PIE X pins σ tg R) X.xe b) X.xe s
theorem qgd{o:Obj}{n:String}{vs:Array Value}{Q:Unit->Shared->Prop}(c:s.heap.get? it=some o)(hc:o.cls=.type n)(b:o.data=.fields vs)
    (hn:["enumerate","zip","dict_itemiterator","dict_reverseitemiterator","odict_iterator","itertools.zip_longest","itertools.pairwise"].contains n=false) (a:Q () s):wpAny M A (letOwnedTupleGo tg (.ref it) u) Q E s:=by
  unfold letOwnedTupleGo;cases tg<;>first
    | show yA a
    | (cases u<;>first
        | show yA a
        | (show yq (wpAny_load c ?_)
           rw[hc,b];show wpAny M A (if (["enumerate","zip","dict_itemiterator","dict_reverseitemiterator","odict_iterator","itertools.zip_longest","itertools.pairwise"].contains n&&vs[0]?==some (rawInt _))=true then _ else _) Q E s;rw[yB (by intro h;rw[hn,Xn] at h;cases h)];show yA a))
def Itl(K:yf)(a:Addr):It:=
 ⟨λi H=>∃ xs x,SqL K H a xs/\xs[i]?=some x,λi H x H'=>H'=H/\∀ xs,SqL K H a xs->xs[i]?=some x,λi H=>∃ xs,SqL K H a xs/\xs.length<=i⟩
def Itt(K:yf)(a:Addr):It:=
 ⟨λi H=>∃ xs x,SqT K H a xs/\xs[i]?=some x,λi H x H'=>H'=H/\∀ xs,SqT K H a xs->xs[i]?=some x,λi H=>∃ xs,SqT K H a xs/\xs.length<=i⟩
def Itr(lo:Int)(n:Nat):It:=⟨λi _=>i<n,λi H x H'=>H'=H/\x=.int (lo+i),λi _=>n<=i⟩
theorem qds{K:yf}(a it:Addr):Turn P w K tg (Itl K a) [it] it (λi h=>h.IsListIter it a i) where
 mem:=by simp
 obj:=λi h st b hb=>by
  have e:b=it:=by simpa using hb
  subst e;obtain⟨o,e,c,d⟩:=st;show⟨o,e,λv z=>by rw[d] at z;cases z⟩
 keep:=λi h h' st k=>st.at λo e=>k it (by simp) o e
 item:=by
  intro X y hw t hc i pins s σ H E I g st A;subst y hw t;obtain⟨xs,x,j,B⟩:=A;obtain⟨C,D,p,N⟩:=I.list j;obtain⟨u,L,O⟩:=D.get B;obtain⟨l,m,J,n,q,r⟩:=g it (by simp);show wpAny_pyNext_list_item st p.isList (x:=u) (by simpa using L) λh' f R=>?_;have F:Inv X pins σ H { s with heap:=h' }:=I.turned (t':=s.toks) (λb o hb e=>(R.2 b hb).trans e) l m n q r;obtain⟨o,e,c,d⟩:=id f;show⟨u,rfl,qgd (s:={ s with heap:=h' }) e c d (by decide) ⟨x,H,F,O,⟨rfl,λys M=>by rw[I.list_inj M j];show B⟩,f,λb hb=>(g b hb).1⟩⟩
 done:=by
  intro X y hw t hc i pins s σ H E I g st A;subst y hw t;obtain⟨xs,j,B⟩:=A;obtain⟨C,D,p,N⟩:=I.list j;obtain⟨l,m,J,n,q,r⟩:=g it (by simp);have hl:=D.length;show wpAny_pyNext_list_end (I.ok.hd hc) st p.isList (by simp;lk) λh' G=>⟨rfl,I.turned (t':=s.toks) (λb o hb e=>G b o hb e) l m n q r⟩
 self:=λ_ _ _ _ _ st h=>wpAny_pyIter_listiter st h
theorem turn_tuple{K:yf}(a it:Addr):Turn P w K tg (Itt K a) [it] it (λi h=>h.IsTupleIter it a i) where
 mem:=by simp
 obj:=λi h st b hb=>by
  have e:b=it:=by simpa using hb
  subst e;obtain⟨o,e,c,d⟩:=st;show⟨o,e,λv z=>by rw[d] at z;cases z⟩
 keep:=λi h h' st k=>st.at λo e=>k it (by simp) o e
 item:=by
  intro X A hw y hc i pins s σ H E I j st B;subst A hw y;obtain⟨xs,x,l,C⟩:=B;obtain⟨f,D,p,N⟩:=I.tuple l;obtain⟨u,L,O⟩:=D.get C;obtain⟨m,n,J,q,r,t⟩:=j it (by simp);show wpAny_pyNext_tuple_item st (show s.heap.IsTuple a f.toArray from p) (x:=u) (by simpa using L) λh' g R=>?_;have F:Inv X pins σ H { s with heap:=h' }:=I.turned (t':=s.toks) (λb o hb e=>(R.2 b hb).trans e) m n q r t;obtain⟨o,e,c,d⟩:=id g;show⟨u,rfl,qgd (s:={ s with heap:=h' }) e c d (by decide) ⟨x,H,F,O,⟨rfl,λys M=>by rw[I.tuple_inj M l];show C⟩,g,λb hb=>(j b hb).1⟩⟩
 done:=by
  intro X A hw y hc i pins s σ H E I j st B;subst A hw y;obtain⟨xs,l,C⟩:=B;obtain⟨f,D,p,N⟩:=I.tuple l;obtain⟨m,n,J,q,r,t⟩:=j it (by simp);have hl:=D.length;show wpAny_pyNext_tuple_end (I.ok.hd hc) st (show s.heap.IsTuple a f.toArray from p) (by simp;lk) λh' G=>⟨rfl,I.turned (t':=s.toks) (λb o hb e=>G b o hb e) m n q r t⟩
 self:=λ_ _ _ _ _ st h=>wpAny_pyIter_tupleiter st h
theorem turn_range{K:yf}(it:Addr)(lo:Int)(n:Nat):Turn P w K tg (Itr lo n) [it] it (λi h=>IsRangeIter h it (lo+(i:Nat)*1) ((n:Int)-(i:Nat)) 1) where
 mem:=by simp
 obj:=λi h st b hb=>by
  have e:b=it:=by simpa using hb
  subst e
  show⟨_,st,λv z=>by
   have A:Data.fields _=Data.cell v:=z;cases A⟩
 keep:=λi h h' st k=>k it (by simp) _ st
 item:=by
  intro X p hw m hc i pins s σ H E I c st q;subst p hw m;obtain⟨d,f,x,g,j,l⟩:=c it (by simp);have W:=Walks.range (prog:=X.prog) (w:=X.w) (I.ok.hd hc) it lo 1 n;show W.item i s _ _ q st λv h' tk hv a y=>?_;obtain⟨t,rfl⟩:=hv;have r:Inv X pins σ H { s with heap:=h',toks:=tk }:=I.turned (λb o hb e=>y b o (by simpa using hb) e) d f g j l;show⟨_,rfl,qgd (s:={ s with heap:=h',toks:=tk }) (n:="range_iterator") a rfl rfl (by decide) ⟨.int (lo+i),H,r,⟨t,?_⟩,⟨rfl,rfl⟩,a,λb hb=>(c b hb).1⟩⟩;rw[Int.mul_one]
 done:=by
  intro X p hw m hc i pins s σ H E I c st q;subst p hw m;obtain⟨d,f,x,g,j,l⟩:=c it (by simp);show wpAny_pyNext_range_end (I.ok.hd hc) st (by have:n<=i:=q;lk) λh' u=>⟨rfl,I.turned (t':=s.toks) (λb o hb e=>u b o hb e) d f g j l⟩
 self:=λ_ _ _ _ _ st h=>wpAny_pyIter_rangeiter st h
section
variable{X:Cx}{tg:Expr}
theorem qeo{R:It->Hp->Prop}{a:Int}{t u v:Tok}{tk:Nat}(I:Inv X pins σ H s)(h1:-(2 ^ 62)<=lo)(g:lo<2 ^ 62)(h:-(2 ^ 62)<=a)(i:a<2 ^ 62)
  (q:R (Itr lo (a-lo).toNat) H):wpAny (model X.prog X.w) X.A (pyIter (.ref s.heap.objs.size)) (PIE X pins σ tg R) E { s with heap:=s.heap.push { cls:=.type "range",data:=.fields #[.int lo t,.int a u,.int 1 v] },toks:=tk }:=by
 show wpAny_pyIter_range (IsRange.new ..) (small_one h1 g h i) ?_;have c:Inv X pins σ H { s with heap:=s.heap.push { cls:=.type "range",data:=.fields #[.int lo t,.int a u,.int 1 v] },toks:=tk }:=I.kept λb o e=>yu _ e;show⟨(s.heap.push { cls:=.type "range",data:=.fields #[.int lo t,.int a u,.int 1 v] }).objs.size,[(s.heap.push { cls:=.type "range",data:=.fields #[.int lo t,.int a u,.int 1 v] }).objs.size],_,_,H,rfl,
  c.kept (t':=tk) λb o e=>yu _ e,turn_range _ lo (a-lo).toNat,?_,λb hb=>?_,q⟩
 .have d:lo+((0:Nat):Int)*1=lo:=by simp
  have f:(((a-lo).toNat:Nat):Int)-((0:Nat):Int)=Builtin.Range.rangeSize lo a 1:=by rw[rangeSize_one];split<;>lk
  show IsRangeIter _ _ (lo+((0:Nat):Int)*1) ((((a-lo).toNat:Nat):Int)-((0:Nat):Int)) 1;rw[d,f];show yS _ rfl
 .have e:b=(s.heap.push { cls:=.type "range",data:=.fields #[.int lo t,.int a u,.int 1 v] }).objs.size:=by simpa using hb
  subst e;show c.fpOk (yg _) (c.hok.fresh (yg _))
def qhs(ta:TA):TI:=fun σ H R=>ta σ H λvs a=>∃ j:Int,vs=[.int j]/\-(2 ^ 62)<=j/\j<2 ^ 62/\R (Itr 0 j.toNat) a
def qht(ta:TA):TI:=fun σ H R=>ta σ H λvs a=>∃ i j:Int,vs=[.int i,.int j]/\(-(2 ^ 62)<=i/\i<2 ^ 62/\-(2 ^ 62)<=j/\j<2 ^ 62)/\R (Itr i (j-i).toNat) a
theorem qaa{a:Expr}(f:Gl X "range")(hm:X.mg "range"=none)(d:PA X [a] ta)(g:starEach [a] X.env=[(false,eval a X.env)]:=by rfl):PI X tg (.Call (.Name "range" p) [a] [] pos) (qhs ta):=by
 intro pins s σ H R I h;show Call_ (qaz I f hm boot_range (Yt (thn (d pos pins s σ H _ I h) λus n ⟨vs,m,c,l,b⟩=>?_) g rfl));obtain⟨j,e,b,i,q⟩:=b;subst e
 cases l with
 | cons r rr =>
  cases rr;obtain⟨t,rfl⟩:=r;show call_range_1 (qeo c (by lk) (by lk) b i (by simpa using q))
theorem pi_range2{a b:Expr}(l:Gl X "range")(hm:X.mg "range"=none)(g:PA X [a,b] ta)(m:starEach [a,b] X.env=[(false,eval a X.env),(false,eval b X.env)]:=by rfl)(c:starEach [b] X.env=[(false,eval b X.env)]:=by rfl) :
  PI X tg (.Call (.Name "range" p) [a,b] [] pos) (qht ta):=by
 intro pins s σ H R I h;show Call_ (qaz I l hm boot_range (Yt (thn (g pos pins s σ H _ I h) λus x ⟨vs,w,f,v,d⟩=>?_) (by rw[m,c]) (by rw[c];rfl)));obtain⟨i,j,e,⟨d,n,o,u⟩,q⟩:=d;subst e
 cases v with
 | cons r rr =>
  cases rr with
  | cons r' rr =>
   cases rr;obtain⟨t,rfl⟩:=r;obtain⟨t',rfl⟩:=r';show call_range_2 (qeo f d n o u q)
def qic(f:TI)(g:TG)(tb:TS):TS:=λD σ H=>f σ H λJ d=>∃ W:Nat->Nat->St->Hp->Prop,(∃ m,W 0 m σ d)/\∀ i m σ H,W i m σ H ->
 (J.stop i H/\D.nx σ H)\/(J.go i H/\∃ N:St->Hp->Prop,(∀ a H',N a H'->∃ c,c<m/\W (i+1) c a H')/\∀ x H',J.yld i H x H'->g x σ H' λb e=>tb { D with nx:=N,ct:=N,bk:=D.nx } b e)
def qdt(fp:LI)(h:Heap):List (Addr×Obj):=fp.filterMap λb=>(h.get? b).map λo=>(b,o)
theorem qaQ{o:Obj}(hb:b∈fp)(e:h.get? b=some o):(b,o)∈qdt fp h:=List.mem_filterMap.mpr ⟨b,hb,by rw[e];rfl⟩
theorem of_pinsAt{p:Addr×Obj}(c:p∈qdt fp h):p.1∈fp/\h.get? p.1=some p.2:=by
 obtain⟨b,hb,e⟩:=List.mem_filterMap.mp c
 cases q:h.get? b with
 | none=>rw[q] at e;cases e
 | some o =>
  rw[q] at e;have a:(b,o)=p:=yl e;subst a;show⟨hb,q⟩
theorem Inv.pinned(I:Inv X pins σ H s)(h:∀ b∈fp,qdZ X pins H b)(i:∀ b∈fp,∃ o,s.heap.get? b=some o/\∀ v,o.data≠.cell v):Inv X (pins++qdt fp s.heap) σ H s:=
 I.pins_of λp j=>(yK.mp j).elim (λz=>I.pin p (yQ _ z)) λz=>by
  obtain⟨hb,e⟩:=of_pinsAt z;obtain⟨c,f,g,_⟩:=h p.1 hb;obtain⟨o,a,d⟩:=i p.1 hb;rw[e] at a;cases a;show⟨e,c,f,g,d⟩
theorem Inv.unpinned{pl:List (Addr×Obj)}(I:Inv X (pins++pl) σ H s):Inv X pins σ H s:=I.pins_of λp a=>I.pin p (yQ _ (Yz _ a))
theorem jy{p:Expr}{wi:TI}(E:PassesOwn (model X.prog X.w) X.A X.env X.xe)(hc:X.calm=true)(hi:PI X tg p wi)(hg:PG X tg g)(hb:PSs X body tb)
  (hs:∀ x,foldedSetIterable p X.env x=pure x:=by intro _;rfl):PS X (.For tg p body [] pos) (qic wi g tb):=by
 intro pins s σ H D I h;show wpAny_For (thn (hi pins s σ H _ I h) λv s1 h1=>thn h1 λaa s2 h2=>?_) hs;obtain⟨it,fp,tn,J,H2,e,I2,T,U,f2,W,⟨m0,w0⟩,L⟩:=h2;subst e;have q:∀{H':Hp},(∀ b∈fp,H' b=none)->∀ b∈fp,qdZ X pins H' b:=λhn b hb=>⟨hn b hb,(f2 b hb).2⟩;show codeAny_forLoop_any (λn s'=>∃ i t H',Inv X pins t H' s'/\tn i s'.heap/\(∀ b∈fp,H' b=none)/\W i n t H') ?_ m0 ⟨0,σ,H2,I2,U,λb hb=>(f2 b hb).1,w0⟩;rintro n s3 ⟨i,y,M,I3,G,C,w3⟩;rcases L i n y M w3 with⟨K,qn⟩ | ⟨go,N,hN,step⟩
 .show xM E (thn (T.done X rfl rfl rfl hc i pins s3 y M X.xe I3 (q C) G K) λr s4 ⟨R,I4⟩=>?_);subst R;show X9 ⟨y,M,I4,qn⟩
 .show xM E (thn (T.item X rfl rfl rfl hc i pins s3 y M X.xe I3 (q C) G go) λr s4 ⟨u,R,h4⟩=>?_);subst R;show xM E (thn h4 λ_ s5 ⟨x,Z,I5,r5,y5,B,P⟩=>?_);have O:=I5.pinned (q P) (T.obj _ _ B);show xM E (thn (hg _ s5 y Z x u _ O r5 (step x Z y5)) λ_ s6 ⟨Y,H6,I6,q6⟩=>?_);show xM E (thn (hb _ s6 Y H6 _ I6 q6) λf S z=>?_)
  have l:∀{a:St} {c:Hp},Inv X (pins++qdt fp s5.heap) a c S->N a c->∃ m,m<n/\∃ i t H',Inv X pins t H' S/\tn i S.heap/\(∀ b∈fp,H' b=none)/\W i m t H':=λ{a c} j F=>by
   obtain⟨m',hm,w7⟩:=hN a c F;show⟨m',hm,i+1,a,c,j.unpinned,T.keep _ _ _ B λb hb o e=>(j.pin (b,o) (yQ _ (yQ _ (qaQ hb e)))).1,λb hb=>?_,w7⟩;obtain⟨o,e,d⟩:=T.obj _ _ B b hb;show(j.pin (b,o) (yQ _ (yQ _ (qaQ hb e)))).2.1
  cases f with
  | next=>obtain⟨a,c,j,F⟩:=z;show l j F
  | cont=>obtain⟨a,c,j,F⟩:=z;show l j F
  | brk=>obtain⟨a,c,j,z⟩:=z;show⟨a,c,j.unpinned,z⟩
  | ret v=>obtain⟨x7,a,c,j,r7,z⟩:=z;show⟨x7,a,c,j.unpinned,r7,z⟩
end
theorem ju{K:yf}(b:Nat->St->Hp->Prop)(h0:b 0 σ H)(hl:∀ i σ H,i<=xs.length->b i σ H->SqL K H a xs)
  (o:∀ i x σ H,xs[i]?=some x->b i σ H->g x σ H λd h=>tb { D with nx:=b (i+1),ct:=b (i+1),bk:=D.nx } d h) (l:∀ σ H,b xs.length σ H->D.nx σ H) :
  ∃ W:Nat->Nat->St->Hp->Prop,(∃ m,W 0 m σ H)/\∀ i m σ H,W i m σ H ->
   ((Itl K a).stop i H/\D.nx σ H)\/((Itl K a).go i H/\∃ N:St->Hp->Prop,(∀ c H',N c H'->∃ j,j<m/\W (i+1) j c H')/\∀ x H',(Itl K a).yld i H x H'->g x σ H' λd h=>tb { D with nx:=N,ct:=N,bk:=D.nx } d h):=by
 show⟨λi m σ H=>m=xs.length-i/\i<=xs.length/\b i σ H,⟨xs.length,by simp,Yi _,h0⟩,?_⟩;rintro i m σ H ⟨rfl,n,p⟩;have q:=hl i σ H n p;by_cases f:i<xs.length
 .show .inr ⟨⟨xs,xs[i],q,by simp[f]⟩,b (i+1),λc H' r=>⟨xs.length-(i+1),by lk,rfl,f,r⟩,λx H' y=>?_⟩;obtain⟨e,y⟩:=y;subst e;show o i x σ _ (y xs q) p
 .have e:i=xs.length:=by lk
  subst e;show .inl ⟨⟨xs,q,yg _⟩,l σ H p⟩
theorem for_tup{K:yf}(b:Nat->St->Hp->Prop)(h0:b 0 σ H)(hl:∀ i σ H,i<=xs.length->b i σ H->SqT K H a xs)
  (o:∀ i x σ H,xs[i]?=some x->b i σ H->g x σ H λd h=>tb { D with nx:=b (i+1),ct:=b (i+1),bk:=D.nx } d h) (l:∀ σ H,b xs.length σ H->D.nx σ H) :
  ∃ W:Nat->Nat->St->Hp->Prop,(∃ m,W 0 m σ H)/\∀ i m σ H,W i m σ H ->
   ((Itt K a).stop i H/\D.nx σ H)\/((Itt K a).go i H/\∃ N:St->Hp->Prop,(∀ c H',N c H'->∃ j,j<m/\W (i+1) j c H')/\∀ x H',(Itt K a).yld i H x H'->g x σ H' λd h=>tb { D with nx:=N,ct:=N,bk:=D.nx } d h):=by
 show⟨λi m σ H=>m=xs.length-i/\i<=xs.length/\b i σ H,⟨xs.length,by simp,Yi _,h0⟩,?_⟩;rintro i m σ H ⟨rfl,n,p⟩;have q:=hl i σ H n p;by_cases f:i<xs.length
 .show .inr ⟨⟨xs,xs[i],q,by simp[f]⟩,b (i+1),λc H' r=>⟨xs.length-(i+1),by lk,rfl,f,r⟩,λx H' y=>?_⟩;obtain⟨e,y⟩:=y;subst e;show o i x σ _ (y xs q) p
 .have e:i=xs.length:=by lk
  subst e;show .inl ⟨⟨xs,q,yg _⟩,l σ H p⟩
theorem qaG(a:Nat->St->Hp->Prop)(h0:a 0 σ H)
  (l:∀ i σ H,i<n->a i σ H->g (.int (lo+i)) σ H λd f=>tb { D with nx:=a (i+1),ct:=a (i+1),bk:=D.nx } d f) (j:∀ σ H,a n σ H->D.nx σ H) :
  ∃ W:Nat->Nat->St->Hp->Prop,(∃ m,W 0 m σ H)/\∀ i m σ H,W i m σ H ->
   ((Itr lo n).stop i H/\D.nx σ H)\/((Itr lo n).go i H/\∃ N:St->Hp->Prop,(∀ c H',N c H'->∃ h,h<m/\W (i+1) h c H')/\∀ x H',(Itr lo n).yld i H x H'->g x σ H' λd f=>tb { D with nx:=N,ct:=N,bk:=D.nx } d f):=by
 show⟨λi m σ H=>m=n-i/\i<=n/\a i σ H,⟨n,by simp,Yi _,h0⟩,?_⟩;rintro i m σ H ⟨rfl,q,p⟩;by_cases b:i<n
 .show .inr ⟨b,a (i+1),λc H' o=>⟨n-(i+1),by lk,rfl,b,o⟩,λx H' y=>?_⟩;obtain⟨e,y⟩:=y;subst e y;show l i σ _ b p
 .have e:i=n:=by lk
  subst e;show .inl ⟨yg _,j σ H p⟩
abbrev R2:=V->V->Hp->VK->Prop
def OpR(X:Cx)(f:Value->Value->Sem Value)(r:R2):Prop:=
 ∀(pins:List (Addr×Obj)) (s:Shared) (σ:St) (H:Hp) (x y:V) (v u:Value) (Q:VK),Inv X pins σ H s->RelV x v->RelV y u->r x y H Q ->
  wpAny (model X.prog X.w) X.A (f v u) (EP X pins σ Q) X.xe s
def UnR(X:Cx)(f:Value->Sem Value)(r:V->Hp->VK->Prop):Prop:=
 ∀(pins:List (Addr×Obj)) (s:Shared) (σ:St) (H:Hp) (x:V) (v:Value) (Q:VK),Inv X pins σ H s->RelV x v->r x H Q ->
  wpAny (model X.prog X.w) X.A (f v) (EP X pins σ Q) X.xe s
def zW(X:Cx)(f:Value)(r:List V->Hp->VK->Prop):Prop:=
 ∀(pins:List (Addr×Obj)) (s:Shared) (σ:St) (H:Hp) (xs:List V) (us:List Value) (Q:VK),Inv X pins σ H s->Vals xs us->r xs H Q ->
  wpAny (model X.prog X.w) X.A (call f us) (EP X pins σ Q) X.xe s
def tOp(r:R2)(ta tb:TE):TE:=fun σ H Q=>ta σ H λx a=>tb σ a λy b=>r x y b Q
def tUn(r:V->Hp->VK->Prop)(ta:TE):TE:=fun σ H Q=>ta σ H λx a=>r x a Q
def rI(C:Int->Int->Prop)(g:Int->Int->V):R2:=λx y H Q=>∃ i j,x=.int i/\y=.int j/\C i j/\Q (g i j) H
def rI0(g:Int->Int->V):R2:=λx y H Q=>∃ i j,x=.int i/\y=.int j/\Q (g i j) H
def rU(g:Int->V):V->Hp->VK->Prop:=λx H Q=>∃ i,x=.int i/\Q (g i) H
section
variable{X:Cx}{a b c:Expr}{ta tb tc:TE}{pos:Pos}
theorem qhY(m:PE X a ta)(hb:PE X b tb){R:V->V->Hp->Prop}(I:Inv X pins σ H s)
  (h:ta σ H λx i=>tb σ i λy c=>R x y c) {Q:Value->Shared->Prop}
  (n:∀ v u g x y c,Inv X pins σ c g->RelV x v->RelV y u->R x y c->wpAny (model X.prog X.w) X.A (f v u) Q X.xe g) :
  wpAny (model X.prog X.w) X.A (eval a X.env) (λv d=>wpAny (model X.prog X.w) X.A (eval b X.env) (λu e=>wpAny (model X.prog X.w) X.A (f v u) Q X.xe e) X.xe d) X.xe s:=by
 show thn (m pins s σ H _ I h) λv t ⟨x,i,j,q,o⟩=>?_;show thn (hb pins t σ i _ j o) λu g ⟨y,c,l,r,p⟩=>?_;show n v u g x y c l q r p
theorem qz{op:Operator}(f:OpR X (binaryOp op) r)(e:PE X a ta)(hb:PE X b tb):PE X (.BinOp a op b pos) (tOp r ta tb):=by
 intro pins s σ H Q I h;show wpAny_BinOp (qhY e hb I h λv u j x y c d g i q=>f pins j σ c x y v u Q d g i q)
theorem qdu{op:UnaryOp}{r:V->Hp->VK->Prop}(e:UnR X (unaryOp op) r)(d:PE X a ta):PE X (.UnaryOp op a pos) (tUn r ta):=by
 intro pins s σ H Q I h;show UnaryOp_ (thn (d pins s σ H _ I h) λv i ⟨x,b,c,g,f⟩=>e pins i σ b x v Q c g f)
theorem opI{C:Int->Int->Prop}{g:Int->Int->Int}
  (a:∀(i j:Int) (t u:Tok) (s:Shared) (Q:Value->Shared->Prop) (E:Value->Shared->Prop),C i j->Q (.int (g i j) s.toks) { s with toks:=s.toks+1 }->wpAny (model X.prog X.w) X.A (f (.int i t) (.int j u)) Q E s) :
  OpR X f (rI C λi j=>.int (g i j)):=by
 intro pins s σ H x y v u Q I b c h;obtain⟨i,j,rfl,rfl,hc,q⟩:=h;obtain⟨t,rfl⟩:=b;obtain⟨t',rfl⟩:=c;show a i j t t' s _ _ hc ⟨.int (g i j),H,I.tok _,⟨_,rfl⟩,q⟩
theorem qhu{g:Int->Int->Int}
  (a:∀(i j:Int) (t u:Tok) (s:Shared) (Q:Value->Shared->Prop) (E:Value->Shared->Prop),Q (.int (g i j) s.toks) { s with toks:=s.toks+1 }->wpAny (model X.prog X.w) X.A (f (.int i t) (.int j u)) Q E s) :
  OpR X f (rI0 λi j=>.int (g i j)):=by
 intro pins s σ H x y v u Q I b c h;obtain⟨i,j,rfl,rfl,q⟩:=h;obtain⟨t,rfl⟩:=b;obtain⟨t',rfl⟩:=c;show a i j t t' s _ _ ⟨.int (g i j),H,I.tok _,⟨_,rfl⟩,q⟩
theorem qhP{g:Int->Int->Bool}
  (a:∀(i j:Int) (t u:Tok) (s:Shared) (Q:Value->Shared->Prop) (E:Value->Shared->Prop),Q (.bool (g i j)) s->wpAny (model X.prog X.w) X.A (f (.int i t) (.int j u)) Q E s) :
  OpR X f (rI0 λi j=>.bl (g i j)):=by
 intro pins s σ H x y v u Q I b c h;obtain⟨i,j,rfl,rfl,q⟩:=h;obtain⟨t,rfl⟩:=b;obtain⟨t',rfl⟩:=c;show a i j t t' s _ _ ⟨.bl (g i j),H,I,rfl,q⟩
def CDiv(i j:Int):Prop:=0<j/\j<1073741824
def qid(i j:Int):Prop:=0<=j/\j<=1000000/\i.natAbs<2 ^ 64
def CMul(i j:Int):Prop:=(-(2 ^ 64)<i/\i<2 ^ 64)\/(-(2 ^ 64)<j/\j<2 ^ 64)
theorem CMul.ok{i j:Int}(h:CMul i j):IntMulOk i j:=by
 rcases h with⟨h1,a⟩ | ⟨h1,a⟩
 .show .of_left (intBits_le_64 h1 a)
 .show .of_right (intBits_le_64 h1 a)
theorem two_pow_nn(k:Nat):(0:Int)<=2 ^ k:=by
 rw[two_pow_cast];show Int.natCast_nonneg _
theorem op_add:OpR X (binaryOp .Add) (rI0 λi j=>.int (i+j)):=qhu λ_ _ _ _ _ _ _ q=>add_int q
theorem qcG:OpR X (binaryOp .Sub) (rI0 λi j=>.int (i-j)):=qhu λ_ _ _ _ _ _ _ q=>sub_int q
theorem op_mul:OpR X (binaryOp .Mult) (rI CMul λi j=>.int (i*j)):=opI λ_ _ _ _ _ _ _ hc q=>mul_int q hc.ok
theorem qcc:OpR X (binaryOp .FloorDiv) (rI CDiv λi j=>.int (i / j)):=opI λi j _ _ _ _ _ hc q=>by
 have h1:(0:Int)<j:=hc.1;have a:j<1073741824:=hc.2;show floordiv_int (by lk) (by rw[Int.fdiv_eq_ediv_of_nonneg i (by lk)];show q) (.inl (PyProof.noPylong_small (by lk)))
theorem zh:OpR X (binaryOp .Mod) (rI (λ_ j=>0<j) λi j=>.int (i % j)):=opI λi j _ _ _ _ _ hc q=>by
 have h1:(0:Int)<j:=hc;show mod_int' (by lk) (by rw[Int.fmod_eq_emod_of_nonneg i (by lk)];show q)
theorem op_pow:OpR X (binaryOp .Pow) (rI qid λi j=>.int (i ^ j.toNat)):=opI λ_ _ _ _ _ _ _ hc q=>pow_int_small hc.1 hc.2.1 hc.2.2 q
theorem qdv:OpR X (binaryOp .LShift) (rI qid λi j=>.int (i*2 ^ j.toNat)):=opI λ_ _ _ _ _ _ _ hc q=>lshift_int_small hc.1 hc.2.1 hc.2.2 q
theorem op_shr:OpR X (binaryOp .RShift) (rI (λ_ j=>0<=j) λi j=>.int (i / 2 ^ j.toNat)):=opI λi j _ _ _ _ _ hc q =>
 rshift_int hc (by rw[Int.fdiv_eq_ediv_of_nonneg i (two_pow_nn _)];show q)
theorem op_and:OpR X (binaryOp .BitAnd) (rI0 λi j=>.int (Builtin.bitAnd i j)):=qhu λ_ _ _ _ _ _ _ q=>and_int q
theorem qge:OpR X (binaryOp .BitOr) (rI0 λi j=>.int (Builtin.bitOr i j)):=qhu λ_ _ _ _ _ _ _ q=>or_int q
theorem qep:OpR X (binaryOp .BitXor) (rI0 λi j=>.int (Builtin.bitXor i j)):=qhu λ_ _ _ _ _ _ _ q=>xor_int q
theorem unI{f:Value->Sem Value}{g:Int->Int}
  (a:∀(i:Int) (t:Tok) (s:Shared) (Q:Value->Shared->Prop) (E:Value->Shared->Prop),Q (.int (g i) s.toks) { s with toks:=s.toks+1 }->wpAny (model X.prog X.w) X.A (f (.int i t)) Q E s) :
  UnR X f (rU λi=>.int (g i)):=by
 intro pins s σ H x v Q I b h;obtain⟨i,rfl,q⟩:=h;obtain⟨t,rfl⟩:=b;show a i t s _ _ ⟨.int (g i),H,I.tok _,⟨_,rfl⟩,q⟩
theorem qbM:UnR X (unaryOp .USub) (rU λi=>.int (-i)):=unI λ_ _ _ _ _ q=>neg_int q
end
def scal:V->V->Bool
 | .non,.non=>true | .non,.int _=>true | .int _,.non=>true | .non,.bl _=>true | .bl _,.non=>true | .non,.str _=>true | .str _,.non=>true
 | .int _,.int _=>true | .bl _,.bl _=>true | .str _,.str _=>true | .byt _,.byt _=>true
 | .int _,.str _=>true | .str _,.int _=>true | .bl _,.str _=>true | .str _,.bl _=>true
 | _,_=>false
def rEq:R2:=λx y H Q=>scal x y=true/\Q (.bl (decide (x=y))) H
theorem dec_bl{i j:Bool}:decide (V.bl i=V.bl j)=(i==j):=by
 rw[Ye];simp
section
variable{X:Cx}{a b c:Expr}{ta tb tc:TE}{pos:Pos}
theorem qeq{Q:VK}{k k':Bool}(I:Inv X pins σ H s)(q:Q (.bl k) H)(e:k=k'):EP X pins σ Q (.bool k') s:=by
 subst e;show⟨.bl k,H,I,rfl,q⟩
theorem qaB:OpR X (compareOp .Lt) (rI0 λi j=>.bl (decide (i<j))):=qhP λ_ _ _ _ _ _ _ q=>lt_int q
theorem op_le:OpR X (compareOp .LtE) (rI0 λi j=>.bl (decide (i<=j))):=qhP λ_ _ _ _ _ _ _ q=>le_int q
theorem qeZ:OpR X (compareOp .Gt) (rI0 λi j=>.bl (decide (j<i))):=qhP λ_ _ _ _ _ _ _ q=>gt_int q
theorem op_ge:OpR X (compareOp .GtE) (rI0 λi j=>.bl (decide (j<=i))):=qhP λ_ _ _ _ _ _ _ q=>ge_int q
theorem op_isN:OpR X (compareOp .Is) (λx y H Q=>y=.non/\Q (.bl (decide (x=.non))) H):=by
 intro pins s σ H x y v u Q I a b h;obtain⟨rfl,q⟩:=h;cases b;show is_none_gen (qeq I q ?_);cases x<;>first
  | (cases a;rfl)
  | (obtain⟨t,rfl⟩:=a;rfl)
theorem qfe:OpR X (compareOp .IsNot) (λx y H Q=>y=.non/\Q (.bl (!decide (x=.non))) H):=by
 intro pins s σ H x y v u Q I a b h;obtain⟨rfl,q⟩:=h;cases b;show isnot_none_gen (qeq I q ?_);cases x<;>first
  | (cases a;rfl)
  | (obtain⟨t,rfl⟩:=a;rfl)
theorem qv(b:Expr)(h:op≠.In:=by decide)(d:op≠.NotIn:=by decide):behindInMarks op b=false:=by
 have a:(op==CmpOp.In)=false:=by cases op<;>first | rfl | show absurd rfl h
 have c:(op==CmpOp.NotIn)=false:=by cases op<;>first | rfl | show absurd rfl d
 cases b<;>simp[behindInMarks,a,c]
theorem jk(f:OpR X (compareOp op) r)(e:PE X a ta)(hb:PE X b tb)(hm:behindInMarks op b=false):PE X (.Compare a [op] [b] pos) (tOp r ta tb):=by
 intro pins s σ H Q I h;show wpAny_Compare1 (qhY e hb I h λv u j x y c d g i q=>f pins j σ c x y v u Q d g i q) hm
def qgf(t:TE):TT:=fun σ H Q=>t σ H λx H'=>∃ k,x=.bl k/\Q k H'
theorem qp(n:OpR X (compareOp op) r)(m:PE X a ta)(hb:PE X b tb)(hm:behindInMarks op b=false):PT X (.Compare a [op] [b] pos) (qgf (tOp r ta tb)):=by
 intro pins s σ H Q I h
 show wpAny_isTrue_Compare1 (thn (m pins s σ H _ I h) λv B ⟨x,d,i,t,o⟩=>thn (hb pins B σ d _ i o) λu C ⟨y,f,j,w,p⟩ =>
  thn (n pins C σ f x y v u _ j t w p) λc D ⟨z,g,l,A,k,e,q⟩=>?_) hm
 subst e;cases A;show YZ ⟨g,l,q⟩
def qff(r r':R2)(ta tb tc:TE):TE:=fun σ H Q=>ta σ H λx b=>tb σ b λy c=>r x y c λz a=>∃ k,z=.bl k /\
 (if k=true then tc σ a λe d=>r' y e d Q else Q (.bl false) a)
theorem qap(A:OpR X (compareOp op) r)(f:OpR X (compareOp op') r')(w:PE X a ta)(hb:PE X b tb)(hc:PE X c tc)
  (hm:lastMarks [op,op'] [b,c]=false:=by with_unfolding_all rfl):PE X (.Compare a [op,op'] [b,c] pos) (qff r r' ta tb tc):=by
 intro pins s σ H Q I h
 show Compare_chain (thn (w pins s σ H _ I h) λv J ⟨x,m,p,E,B⟩=>chain_link (thn (hb pins J σ m _ p B) λu K ⟨y,n,q,l,C⟩ =>
  thn (A pins K σ n x y v u _ q E l C) λd L ⟨z,g,i,F,k,e,j⟩=>?_)) hm
 subst e;cases F;show YZ ?_
 cases k with
 | false=>show ite_ff ⟨.bl false,g,i,rfl,j⟩
 | true=>show ite_tt (chain_last (thn (hc pins L σ g _ i j) λN M ⟨O,o,t,G,D⟩=>f pins M σ o y O u N Q t l G D))
theorem qcX(E:OpR X (compareOp op) r)(f:OpR X (compareOp op') r')(D:PE X a ta)(hb:PE X b tb)(hc:PE X c tc)
  (hm:lastMarks [op,op'] [b,c]=false:=by with_unfolding_all rfl):PT X (.Compare a [op,op'] [b,c] pos) (qgf (qff r r' ta tb tc)):=by
 intro pins s σ H Q I h
 show isTrue_chain (thn (D pins s σ H _ I h) λv R ⟨x,m,q,M,G⟩=>test_link (thn (hb pins R σ m _ q G) λu S ⟨y,n,t,l,J⟩ =>
  thn (E pins S σ n x y v u _ t M l J) λd T ⟨z,g,i,N,k,e,j⟩=>?_)) hm
 subst e;cases N;show YZ ?_
 cases k with
 | false =>
  obtain⟨k',B,F⟩:=j;cases B;show ite_ff ⟨g,i,F⟩
 | true =>
  show ite_tt (test_last (thn (hc pins T σ g _ i j) λW U ⟨Y,o,w,O,K⟩=>thn (f pins U σ o y Y u W _ w l O K) λd' s5 ⟨z2,p,A,P,Z,C,L⟩=>?_));subst C;cases P;show YZ ⟨p,A,L⟩
theorem qcH:(sizeLine:Nat)<2 ^ 63:=by rw[xi];decide
theorem op_add_str:OpR X (binaryOp .Add) (λx y H Q=>∃ i j,x=.str i/\y=.str j/\i.length+j.length<=sizeLine/\Q (.str (i++j)) H):=by
 intro pins s σ H x y v u Q I b c h;obtain⟨i,j,rfl,rfl,a,q⟩:=h;obtain⟨t,rfl⟩:=b;obtain⟨t',rfl⟩:=c;show add_str (λt' tk=>⟨.str (i++j),H,I.tok _,⟨_,rfl⟩,q⟩) a
theorem qbf{x:V}(r:Vals [x] us):∃ u,us=[u]/\RelV x u:=by
 cases r with
 | cons r1 r2=>cases r2;show⟨_,rfl,r1⟩
theorem qg8{x:V}(r:Vals [x,y] us):∃ u a,us=[u,a]/\RelV x u/\RelV y a:=by
 cases r with
 | cons r1 r2 =>
  cases r2 with
  | cons r3 r4=>cases r4;show⟨_,_,rfl,r1,r3⟩
end
structure ObjM(h:Heap)(x dx C:Addr)(mA:Str->Option Value):Prop where
 obj:h.get? x=some (PySem.W.instObj C dx)
 ns:h.Ns1 dx mA
 ne:dx≠x
theorem qdw(n:h.Ns1 dx mA):∃ od,h.get? dx=some od/\∀ name,PySem.W.lookIn name od=some (mA name):=by
 obtain⟨o,es,ep,g,d,f,_,hm⟩:=n;show⟨o,g,λname=>?_⟩;have e:=hm name;unfold nsFind findBy at e;rw[<- Array.find?_toList] at e;unfold PySem.W.lookIn;rw[d];dsimp only;split
 .rename_i y q
  rw[q] at e;show congrArg some e
 .rename_i q
  rw[q] at e
  have a:es.toList.any (·.refKey)=false:=by
   rw[List.any_eq_false];intro y i;obtain⟨z,t,b⟩:=f y (Array.mem_toList_iff.mp i);simp[DictEntry.refKey,b]
  have c:¬ es.toList.any (·.refKey)=true:=by rw[a];show YC
  rw[yB c];show congrArg some e
theorem ObjM.look{x:Addr}(I:ObjM h x dx C mA):∃ od,PySem.W.InstAt h x (PySem.W.instObj C dx) C (some od)/\∀ name,PySem.W.lookIn name od=some (mA name):=
 let ⟨od,ho,hl⟩:=qdw I.ns
 ⟨od,⟨I.obj,rfl,rfl,ho⟩,hl⟩
section
variable{prog:Program}{w:World}{A:Around}{E:Value->Shared->Prop}{s:Shared}{K:yf}{x dx C f:Addr}{mA:Str->Option Value}{name:Str}{v:Value}
theorem get_map{a:Bool}{Q:Value->Shared->Prop}(X:K.In s.heap)(I:ObjM s.heap x dx C mA)(d:PySem.W.plainGet K C name=true)(e:PySem.W.hasDictIn K C=true)
  (c:PySem.W.findIn K (.ref C) name=some none) (hv:mA name=some v) (b:PySem.W.handedIn v=true) (h:Q v { s with toks:=s.toks+1 }) :
  wpAny (model prog w) A (getAttr (.ref x) name a) Q E s:=by
 obtain⟨od,J,hl⟩:=I.look;show PySem.W.get_value X J (kh d).1 (PySem.W.findObj_own e c rfl (by rw[hl,hv])) b h
theorem get_meth{Q:Value×List Value->Shared->Prop}(X:K.In s.heap)(I:ObjM s.heap x dx C mA)(a:PySem.W.plainGet K C name=true)
  (b:PySem.W.findIn K (.ref C) name=some (some (.ref f))) (c:PySem.W.isFn K (.ref f)=true) (hv:mA name=none) (h:Q (.ref f,[.ref x]) s) :
  wpAny (model prog w) A (getMethod (.ref x) name pl) Q E s:=by
 obtain⟨od,J,hl⟩:=I.look;show PySem.W.method_fn X J (kh a).1 (kh a).2 b (Yq.mp c) (by show(PySem.W.lookIn name od).map (·.isSome)=some false;rw[hl,hv];rfl) h
theorem set_map{ns:LS}{Q:Unit->Shared->Prop}(X:K.In s.heap)(I:ObjM s.heap x dx C mA)
  (o:PySem.W.findIn K (.ref C) "__setattr__"=some (some (.builtin "object.__setattr__"))) (n:PySem.W.plainOver K C=true) (p:PySem.W.takerIn K C name=some none) (m:PySem.W.hasDictIn K C=true)
  (hw:PySem.Within mA ns) (hsz:ns.length<=sizeLine)
  (h:∀ h',ObjM h' x dx C (λy=>if y=name then some v else mA y)->Heap.SameBut dx s.heap h'->Q () { s with heap:=h',toks:=s.toks+2 }) :
  wpAny (model prog w) A (setAttr (.ref x) name v) Q E s:=by
 obtain⟨od,J,hl⟩:=I.look;show PySem.W.set_plain X J o (PySem.W.osa_open (s:={ s with toks:=s.toks+1 }) (r:=none) X J n p λb=>?_);obtain⟨t,hc,f⟩:=xY m;have q:s.heap.get? x=some ⟨.ref C,some dx,.plain,#[]⟩:=I.obj;show yq (yA (yq (yq (wpAny_loadPart q (yq (PySem.W.Looks.here (s:={ s with toks:=s.toks+1 }) (ki X hc) ?_))))));rw[f];show yA (a:=some dx) (yq (yA (yq ?_)));show wpAny_nsSet1 (s:={ s with toks:=s.toks+1 }) I.ns λh' c d=>?_;obtain⟨u,l,j,i,g,e⟩:=c.count (PySem.Within.cons name v hw);show yq (wpAny_lookBehind i (by rw[g];show pastItsLine_dict (yh e (by rw[Yb];lk))) ?_);show yA (h _ ⟨(d.2 _ (Yv I.ne)).trans I.obj,c,I.ne⟩ d)
theorem qer{R:Result->Shared->Prop}{vs:List Value}(X:K.In s.heap)(hm:PySem.W.makesIn K C=true)
  (b:PySem.W.findIn K (.ref C) "__init__"=some (some (.ref f))) (a:PySem.W.typeIn K (.ref f)=some (.type "function"))
  (h:codeAny (model prog w) (A.under (.builtin "type.__call__" ⟨.ref C::vs,kw⟩)) (.call (.ref f) ⟨.ref (s.heap.objs.size+1)::vs,kw⟩) (PySem.W.InitBack (s.heap.objs.size+1) R)
   { s with heap:=(s.heap.push PySem.W.emptyDict).push (PySem.W.instObj C s.heap.objs.size) }) :
  codeAny (model prog w) A (.call (.ref C) ⟨vs,kw⟩) R s:=by
 obtain⟨c,g,d,t,e⟩:=s;show PySem.W.make_core (PySem.W.makes_of X hm) (YN X b) (λself=>PySem.W.bind_fn X self a) (.inl rfl) h
end
def jK(f:Str)(v:V):List (Str×V)->List (Str×V)
 | []=>[(f,v)]
 | (g,x)::r=>if g=f then(g,v)::r else(g,x)::jK f v r
theorem qD(f g:Str)(v:V):∀ fs:List (Str×V),(jK f v fs).lookup g=if g=f then some v else fs.lookup g
 | []=>by
  show List.lookup g [(f,v)]=_;by_cases h:g=f
  .have hb:(g==f)=true:=Yq.mpr h;simp only[List.lookup,hb,yH h]
  .have hb:(g==f)=false:=Yr.mpr h;simp only[List.lookup,hb,yB h]
 | (k,x)::r=>by
  have b:=qD f g v r;rw[show jK f v ((k,x)::r)=(if k=f then(k,v)::r else(k,x)::jK f v r) from rfl];by_cases a:k=f
  .rw [yH a];by_cases h:g=k
   .have hb:(g==k)=true:=Yq.mpr h;simp only[List.lookup,hb,yH (h.trans a)]
   .have hb:(g==k)=false:=Yr.mpr h;simp only[List.lookup,hb,yB (λe:g=f=>h (e.trans a.symm))]
  .rw [yB a];by_cases h:g=k
   .have hb:(g==k)=true:=Yq.mpr h;simp only[List.lookup,hb,yB (λe:g=f=>a (h.symm.trans e))]
   .have hb:(g==k)=false:=Yr.mpr h;simp only[List.lookup,hb];show b
theorem qcd(f:Str)(v:V):∀ fs:List (Str×V),f∈(jK f v fs).map (·.1)/\∀ g,g∈fs.map (·.1)->g∈(jK f v fs).map (·.1)
 | []=>⟨by simp[jK],λg h=>by simp at h⟩
 | (k,x)::r=>by
  obtain⟨b,c⟩:=qcd f v r;rw[show jK f v ((k,x)::r)=(if k=f then(k,v)::r else(k,x)::jK f v r) from rfl];by_cases a:k=f
  .rw [yH a];subst a;show⟨by simp,λg h=>by simpa using h⟩
  .rw [yB a];show⟨?_,λg h=>?_⟩
   .rw [Ys];show yw _ b
   .rw [Ys] at h ⊢;rcases yy.mp h with e | e
    .show yy.mpr (.inl e)
    .show yw _ (c g e)
theorem zj(f:Str)(v:V):∀ fs:List (Str×V),(jK f v fs).length<=fs.length+1
 | []=>by simp[jK]
 | (k,x)::r=>by
  have b:=zj f v r;rw[show jK f v ((k,x)::r)=(if k=f then(k,v)::r else(k,x)::jK f v r) from rfl];by_cases a:k=f
  .rw [yH a,Yb,Yb];lk
  .rw [yB a,Yb,Yb];lk
theorem RelO.some_of{o:Option Value}(r:RelO (some v) o):∃ u,o=some u/\RelV v u:=by
 cases o with
 | none=>show(show False from r).elim
 | some u=>show⟨u,rfl,r⟩
theorem RelO.none_of{o:Option Value}(r:RelO none o):o=none:=by
 cases o with
 | none=>rfl
 | some u=>show(show False from r).elim
theorem qdx(r:RelV v u):PySem.W.handedIn u=true:=by
 cases v with
 | non=>cases (show u=Value.none from r);rfl
 | bl b=>cases (show u=Value.bool b from r);rfl
 | int i=>obtain⟨t,e⟩:=(show ∃ t,u=Value.int i t from r);cases e;rfl
 | str x=>obtain⟨t,e⟩:=(show ∃ t,u=Value.str x t from r);cases e;rfl
 | byt b=>obtain⟨t,e⟩:=(show ∃ t,u=Value.bytes b t from r);cases e;rfl
 | flt b=>obtain⟨t,e⟩:=(show ∃ t,u=Value.float b t from r);cases e;rfl
 | ref a=>cases (show u=Value.ref a from r);rfl
 | ty n=>cases (show u=Value.type n from r);rfl
section
variable{P:Program}{w:World}{H H':Hp}{h h':Heap}{a C dx:Addr}{fs fs':List (Str×V)}
theorem qbC(b:HOk P w H h)(e:H a=some (.ins C dx fs)):∃ mA,ObjM h a dx C mA/\(∀ f,RelO (fs.lookup f) (mA f))/\PySem.Within mA (fs.map (·.1))/\fs.length<=1000/\H dx=some (.own a):=by
 obtain⟨d,z,ne,c,mA,n,r,q⟩:=(show ObjOk P w H h a (.ins C dx fs) from b a _ e);show⟨mA,⟨c,n,ne⟩,r,q,z,d⟩
end
structure Cls(K:yf)(C:Addr):Prop where
 pg:PySem.W.plainGet K C Str.empty=true
 hd:PySem.W.hasDictIn K C=true
 po:PySem.W.plainOver K C=true
 sa:PySem.W.findIn K (.ref C) "__setattr__"=some (some (.builtin "object.__setattr__"))
theorem Cls.get{K:yf}(c:Cls K C)(f:Str):PySem.W.plainGet K C f=true:=c.pg
def NoAttr(K:yf)(C:Addr)(f:Str):Prop:=PySem.W.findIn K (.ref C) f=some none
theorem NoAttr.taker{K:yf}{f:Str}(n:NoAttr K C f):PySem.W.takerIn K C f=some none:=by
 unfold PySem.W.takerIn;rw[show PySem.W.findIn K (.ref C) f=some none from n];rfl
structure Meth(K:yf)(C:Addr)(m:Str)(f:Addr):Prop where
 at_:PySem.W.findIn K (.ref C) m=some (some (.ref f))
 fn:PySem.W.isFn K (.ref f)=true
 kp:PySem.W.keepIn K (.ref f)=true
section
variable{X:Cx}{pins:List (Addr×Obj)}{σ:St}{H:Hp}{s:Shared}{a C dx:Addr}{fs:List (Str×V)}{f:Str}{v:V}{A:Around}{E:Value->Shared->Prop}
theorem getattr_ok{b:Bool}{Q:Value->Shared->Prop}(I:Inv X pins σ H s)(e:H a=some (.ins C dx fs))(c:Cls X.K C)(n:NoAttr X.K C f)(l:fs.lookup f=some v)
  (h:∀ u s',Inv X pins σ H s'->RelV v u->Q u s'):wpAny (model X.prog X.w) A (getAttr (.ref a) f b) Q E s:=by
 obtain⟨mA,O,r,_,_,_⟩:=qbC I.hok e;obtain⟨u,g,d⟩:=RelO.some_of (v:=v) (o:=mA f) (by rw[<- l];show r f);show get_map I.kIn O (c.get f) c.hd n g (qdx d) (h u _ (I.tok _) d)
theorem qbD{m:Str}{g:Addr}{Q:Value×List Value->Shared->Prop}(I:Inv X pins σ H s)(e:H a=some (.ins C dx fs))(c:Cls X.K C)(k:Meth X.K C m g)(l:fs.lookup m=none)
  (h:Q (.ref g,[.ref a]) s):wpAny (model X.prog X.w) A (getMethod (.ref a) m pl) Q E s:=by
 obtain⟨mA,O,r,_,_,_⟩:=qbC I.hok e;have hn:mA m=none:=RelO.none_of (by rw[<- l];show r m);show get_meth I.kIn O (c.get m) k.at_ k.fn hn h
theorem setattr_ok{Q:Unit->Shared->Prop}(I:Inv X pins σ H s)(e:H a=some (.ins C dx fs))(c:Cls X.K C)(n:NoAttr X.K C f)(hl:fs.length<1000)(t:RelV y u)
  (h:∀ s',Inv X pins σ (upd H a (.ins C dx (jK f y fs))) s'->Q () s'):wpAny (model X.prog X.w) A (setAttr (.ref a) f u) Q E s:=by
 obtain⟨mA,O,r,j,_,i⟩:=qbC I.hok e;have p:(fs.map (·.1)).length<=sizeLine:=by rw[ya,xi];lk
 show set_map I.kIn O c.sa c.po n.taker c.hd j p λh' d v=>h _ ?_;have l:∃ o,h'.get? dx=some o:=let ⟨o,_,_,e',_⟩:=d.ns;⟨o,e'⟩;show I.write (x:=a) (e:=dx) (by rw[e];show YK) (.inr i) (λb q hb z=>(v.2 b hb).trans z) l ?_;show⟨by rw[qk O.ne];show i,?_,O.ne,d.obj,_,d.ns,λg=>?_,λg m=>?_⟩
 .have:=zj f y fs;lk
 .show RelO ((jK f y fs).lookup g) (if g=f then some u else mA g);rw[qD];by_cases q:g=f
  .rw [yH q,yH q];show t
  .rw [yB q,yB q];show r g
 .by_cases q:g=f
  .rw [q];show(qcd f y fs).1
  .show(qcd f y fs).2 g (j g λz=>m ?_);show(if g=f then some u else mA g)=none;rw[yB q];show z
theorem Inv.made(I:Inv X pins σ H s):Inv X pins σ (upd (upd H s.heap.objs.size (.own (s.heap.objs.size+1))) (s.heap.objs.size+1) (.ins C s.heap.objs.size []))
  { s with heap:=(s.heap.push PySem.W.emptyDict).push (PySem.W.instObj C s.heap.objs.size) }:=by
 have c:(s.heap.push PySem.W.emptyDict).get? s.heap.objs.size=some PySem.W.emptyDict:=yS s.heap rfl
 have f:((s.heap.push PySem.W.emptyDict).push (PySem.W.instObj C s.heap.objs.size)).get? (s.heap.objs.size+1)=some (PySem.W.instObj C s.heap.objs.size):=by
  have:=yS (s.heap.push PySem.W.emptyDict) (o:=PySem.W.instObj C s.heap.objs.size) rfl
  rwa[xq] at this
 have g:(s.heap.push PySem.W.emptyDict).Ns s.heap.objs.size (λ_=>none):=⟨PySem.W.emptyDict,#[],_,c,rfl,(λe h=>absurd h (by simp)),λ_=>rfl⟩;have d:=I.laid (a:=s.heap.objs.size) (o:=.own (s.heap.objs.size+1)) (h':=s.heap.push PySem.W.emptyDict) (t':=s.toks) (λb u q=>yu _ q) (yg _) ⟨_,c⟩;show d.laid (a:=s.heap.objs.size+1) (o:=.ins C s.heap.objs.size []) (t':=s.toks) (λb u q=>yu _ q) (Kd (xq _ _)) ?_;have ne:s.heap.objs.size≠s.heap.objs.size+1:=Yk (XM _);show⟨by rw[qk ne,qb],Yi _,ne,f,λ_=>none,(Heap.Ns1.of_empty g).at λo q=>yu _ q,λ_=>YK,λy i=>absurd rfl i⟩
theorem attr_of{prog:Program}{env:Env}{f:Str}{Q:Value->Shared->Prop}(hb:attributeBase e f env (eval e env)=eval e env)
  (h:wpAny (model prog w) A (eval e env) (λo a=>wpAny (model prog w) A (getAttr o f true) Q E a) E s):wpAny (model prog w) A (eval (.Attribute e f pos) env) Q E s:=
 Attribute_any_ h (by rw[arm_eval_Attribute,hb])
end
section
variable{X:Cx}{o e value:Expr}{f:Str}{pos pos' tpos:Pos}{ta tv:TE}
end
section
variable{X:Cx}{pins:List (Addr×Obj)}{σ:St}{H:Hp}{s:Shared}{A:Around}{E:Value->Shared->Prop}{Q:Value->Shared->Prop}{c:Value}{b:Bool}
inductive TyOf(K:yf)(H:Hp):V->Value->Prop where
 | non:TyOf K H .non (.type "NoneType")
 | bl (x:Bool):TyOf K H (.bl x) (.type "bool")
 | int (i:Int):TyOf K H (.int i) (.type "int")
 | str (x:Str):TyOf K H (.str x) (.type "str")
 | flt (x:UInt64):TyOf K H (.flt x) (.type "float")
 | lst {a:Addr} {xs:List V} (e:H a=some (.lst xs)):TyOf K H (.ref a) (.type "list")
 | frz {a:Addr} {o:Obj} {xs:List V} (e:H a=some (.frz o (.lst xs))):TyOf K H (.ref a) (.type "list")
 | tup {a:Addr} {xs:List V} (e:H a=some (.tup xs)):TyOf K H (.ref a) (.type "tuple")
 | dK {a:Addr} {kvs:List (Key×V)} (e:H a=some (.dK kvs)):TyOf K H (.ref a) (.type "dict")
 | dT {a:Addr} {kvs:List (List Key×V)} (e:H a=some (.dT kvs)):TyOf K H (.ref a) (.type "dict")
 | ins {a C dx:Addr} {fs:List (Str×V)} (e:H a=some (.ins C dx fs)) (cl:Cls K C) (ha:PySem.W.findIn K (.ref C) "__class__"=some (some (.builtin "object.__class__")))
   (hn:PySem.W.specialIn K (.builtin "object.__class__") "__get__"=some (some (.builtin "getset_descriptor.__get__"))) (htk:PySem.W.takesIn K (.builtin "object.__class__")=some true)
   (hm:PySem.W.mroIn K C (.type "object")=some true):TyOf K H (.ref a) (.ref C)
end
structure Room(k:Nat)(A:Around):Prop where
 hd:A.handled=none
 dp:A.depth+3*k+5<recursionLimit
 un:A.units+16*k+200<cLine
 gd:A.guards=some []
theorem Room.mono{k:Nat}(r:Room k A)(h:j<=k):Room j A:=⟨r.hd,by have:=r.dp;lk,by have:=r.un;lk,r.gd⟩
theorem Room.deeper{k:Nat}(r:Room (k+1) A)(env:Env):Room k (A.deeper env):=
 ⟨r.hd,by have:=r.dp;show A.depth+1+3*k+5<_;lk,by have:=r.un;show A.units+3+16*k+200<_;lk,r.gd⟩
theorem make_depth:(A.under (.builtin "type.__call__" ⟨.ref C::us,kw⟩)).depth=A.depth+1:=by
 first | rfl | simp[Around.under,Code.weight,Code.isCreation,Code.isGuard,Code.isCaller,Code.frames,Code.isFrame,guardIds]
theorem make_units:(A.under (.builtin "type.__call__" ⟨.ref C::us,kw⟩)).units=A.units+1:=by
 first | rfl | simp[Around.under,Code.cUnits,Code.frames,Code.isFrame]
theorem make_guards:(A.under (.builtin "type.__call__" ⟨.ref C::us,kw⟩)).guards=A.guards:=by
 first | rfl | simp[Around.under,Code.guards,Code.isGuard,guardIds,pushGuards]
theorem Room.make{k:Nat}(r:Room (k+1) A)(C:Addr)(us:List Value)(kw:List (Str×Value)):Room k (A.under (.builtin "type.__call__" ⟨.ref C::us,kw⟩)):=
 ⟨r.hd,by have:=r.dp;rw[make_depth];lk,by have:=r.un;rw[make_units];lk,by rw[make_guards];show r.gd⟩
theorem Room.depth{k:Nat}(r:Room k A):A.depth<recursionLimit:=by have:=r.dp;lk
def qbT:TA:=λ_ H Q=>Q [] H
def qO(ta:TE)(c:TA):TA:=fun σ H Q=>ta σ H λx a=>c σ a λxs b=>Q (x::xs) b
section
variable{X:Cx}{e:Expr}{es:List Expr}{te:TE}{t:TA}{pos:Pos}
theorem qc:PA X [] qbT:=λ_ _ _ _ H Q I h=>kA ⟨[],H,I,.nil,h⟩
theorem qa(f:PE X e te)(g:PA X es t)(i:starEach (e::es) X.env=(false,eval e X.env)::starEach es X.env:=by rfl):PA X (e::es) (qO te t):=by
 intro pos pins s σ H Q I h;rw[i];show wpAny _ _ (spliced ((false,eval e X.env)::backTo pos (starEach es X.env))) _ _ s;show kn (thn (f pins s σ H _ I h) λu o ⟨x,a,c,m,j⟩=>?_);show thn (g pos pins o σ a _ c j) λus p ⟨xs,b,d,n,l⟩=>⟨x::xs,b,d,.cons m n,l⟩
inductive NewT(xs:List V)(H:Hp)(Q:VK):Prop|mk (_:xs.length<=sizeLine) (_:∀ p,H p=none->Q (.ref p) (upd H p (.tup xs)))
inductive NewL(xs:List V)(H:Hp)(Q:VK):Prop|mk (_:xs.length<=sizeLine) (_:∀ p,H p=none->Q (.ref p) (upd H p (.lst xs)))
def qg9(t:TA):TE:=fun σ H Q=>t σ H λxs a=>NewT xs a Q
def qe0(t:TA):TE:=fun σ H Q=>t σ H λxs a=>NewL xs a Q
theorem q8{x1}(h:PA X es t):PE X (.Tuple es x1 pos) (qg9 t):=by
 intro pins s σ H Q I g;show wpAny_Tuple_spliced (thn (h pos pins s σ H _ I g) λus a ⟨xs,c,d,r,z,q⟩=>⟨by rw[<- r.length];show z,?_⟩);have f:c a.heap.objs.size=none:=d.hok.fresh (yg _);show⟨.ref a.heap.objs.size,upd c a.heap.objs.size (.tup xs),d.laid (t':=a.toks) (λb u e=>yu _ e) (yg _) ?_,rfl,q _ f⟩;show⟨z,us,r,⟨_,yS _ rfl,rfl,_,rfl⟩⟩
theorem qA(h:PA X es t):PE X (.List es pos) (qe0 t):=by
 intro pins s σ H Q I g;show wpAny_List_spliced (thn (h pos pins s σ H _ I g) λus a ⟨xs,c,d,r,z,q⟩=>⟨by rw[<- r.length];show z,?_⟩);have f:c a.heap.objs.size=none:=d.hok.fresh (yg _);show⟨.ref a.heap.objs.size,upd c a.heap.objs.size (.lst xs),d.laid (t':=a.toks) (λb u e=>yu _ e) (yg _) ?_,rfl,q _ f⟩;show⟨z,us,0,r,yS _ rfl⟩
end
abbrev Sp:=List V->Hp->VK->XK->Prop
abbrev CXT:=List Env->Hp->Shared->XK->Value->Shared->Prop
structure Env0(P:Program)(w:World)(K:yf)(mg:Str->Option Value)(base:Heap)(A:Around)(outer:List Env)(s:Shared)(H:Hp):Prop where
 frames:A.frames=some outer
 mod:Mod K mg base
 bs:∀ b o,base.get? b=some o->s.heap.get? b=some o/\H b=none
 bsz:base.objs.size<=s.heap.objs.size
 funs:s.heap.FunFrames base outer
 frf:∀ b∈frs outer,H b=none
 hok:HOk P w H s.heap
 bare:AllBare s.gens
def CE(outer:List Env)(P:Program)(w:World)(H:Hp)(s:Shared)(Q:VK)(u:Value)(s':Shared):Prop:=
 ∃ v H',s'.os=s.os/\AllBare s'.gens/\Un (frs outer) [] H H' s.heap s'.heap/\HOk P w H' s'.heap/\RelV v u/\Q v H'
def CR(CX:CXT)(outer:List Env)(P:Program)(w:World)(H:Hp)(s:Shared)(Q:VK)(E:XK)(r:Result)(s':Shared):Prop:=
 match r with
 | .ok (.ret u)=>CE outer P w H s Q u s'
 | .ok _=>False
 | .error e=>CX outer H s E e s'
structure FnOk(P:Program)(w:World)(K:yf)(mg:Str->Option Value)(base:Heap)(CX:CXT)(k:Nat)(f:Addr)(fd:FuncData)(ps:LS)(sp:Sp):Prop where
 len:∀ vs H Q E,sp vs H Q E->vs.length=ps.length
 run:∀(A:Around) (outer:List Env) (s:Shared) (H:Hp) (args:Args) (us:List Value) (vs:List V) (Q:VK) (E:XK),Room k A->Env0 P w K mg base A outer s H->BindsTo s fd args (ps.zip us)->Vals vs us->sp vs H Q E ->
  codeAny (model P w) A (.call (.ref f) args) (CR CX outer P w H s Q E) s
theorem FnOk.mono{K:yf}{k:Nat}{f:Addr}(F:FnOk P w K mg base CX j f fd ps sp)(h:j<=k) :
  FnOk P w K mg base CX k f fd ps sp:=⟨F.len,λA outer s H args us vs Q E a=>F.run A outer s H args us vs Q E (a.mono h)⟩
theorem Env0.make{K:yf}(e:Env0 P w K mg base A outer s H)(C:Addr)(us:List Value)(kw:List (Str×Value)) :
  Env0 P w K mg base (A.under (.builtin "type.__call__" ⟨.ref C::us,kw⟩)) outer s H:=⟨by first | show e.frames | (simpa [Around.under,Code.envs,Code.isFrame,pushEnvs] using e.frames),e.mod,e.bs,e.bsz,e.funs,e.frf,e.hok,e.bare⟩
section
variable{X:Cx}{pins:List (Addr×Obj)}{σ:St}{H:Hp}{s s':Shared}
theorem Inv.env0(I:Inv X pins σ H s):Env0 X.prog X.w X.K X.mg X.base X.A X.stack s H:=
 ⟨I.ok.frames,I.ok.mod,I.bs,yh I.ok.bsz I.sz,I.stack,I.stkFree,I.hok,I.bare⟩
theorem Inv.after{Q:VK}(I:Inv X pins σ H s)(h:CE X.stack X.prog X.w H s Q u s'):EP X pins σ Q u s':=by
 obtain⟨v,H',i,a,un,c,r,q⟩:=h;obtain⟨f,g,d,t,e⟩:=s';obtain rfl:e=s.os:=i;show⟨v,H',I.call (h':=f) (g':=g) (d':=d) (t':=t) (ch:=[]) un c a (λb z=>absurd z (by simp)),r,q⟩
end
def qe1(sp:Sp)(a:List V)(E:XK)(t:TA):TE:=fun σ H Q=>t σ H λvs b=>sp (vs++a) b Q E
inductive MeR(C:Addr)(m:Str)(x:V)(H:Hp)(k:Prop):Prop|mk (a dx:Addr) (fs:List (Str×V)) (_:x=.ref a) (_:H a=some (.ins C dx fs)) (_:fs.lookup m=none) (_:k)
def qfg(C:Addr)(m:Str)(sp:Sp)(a:List V)(E:XK)(ta:TE)(t:TA):TE:=fun σ H Q=>ta σ H λx b=>MeR C m x b (t σ b λvs c=>sp (x::(vs++a)) c Q E)
def qha(C:Addr)(sp:Sp)(b:List V)(E:XK)(t:TA):TE:=fun σ H Q=>t σ H λvs a=>∀ x dx,a x=none->a dx=none->dx≠x ->
 sp (.ref x::(vs++b)) (upd (upd a dx (.own x)) x (.ins C dx [])) (λv c=>v=.non/\Q (.ref x) c) E
def Binds(K:yf)(fd:FuncData)(ps:LS)(a:List Value):Prop:=
 ∀(s:Shared) (us:List Value),K.In s.heap->(us++a).length=ps.length->BindsTo s fd ⟨us,[]⟩ (ps.zip (us++a))
theorem Binds.all{K:yf}(h:∀ us:List Value,us.length=ps.length->bindArgs fd ⟨us,[]⟩=pure (ps.zip us)):Binds K fd ps []:=λs us _ hl=>by
 rw[y6] at hl ⊢;show .of_eq (h us hl)
def qaH(CX:CXT)(X:Cx)(E:XK):Prop:=∀(pins:List (Addr×Obj)) (σ:St) (H:Hp) (s:Shared) (e:Value) (s':Shared),Inv X pins σ H s->CX X.stack H s E e s'->X.xe e s'
section
variable{X:Cx}{CX:CXT}{k:Nat}{f C:Addr}{fd:FuncData}{ps:LS}{sp:Sp}{dvs:List V}{ds:List Value}{E:XK}{x m:Str}{p pos apos:Pos}{e o:Expr}{es:List Expr}{ta:TE}{t:TA}
theorem qes{Q:VK}(F:FnOk X.prog X.w X.K X.mg X.base CX k f fd ps sp)(d:Room k X.A)(hb:Binds X.K fd ps ds)(c:Vals dvs ds)(g:qaH CX X E)
  (I:Inv X pins σ H s) (r:Vals vs us) (h:sp (vs++dvs) H Q E):wpAny (model X.prog X.w) X.A (call (.ref f) us) (EP X pins σ Q) X.xe s:=by
 have b:Vals (vs++dvs) (us++ds):=r.append c;have hl:(us++ds).length=ps.length:=by rw[<- b.length];show F.len _ _ _ _ h
 show xT (Xg (F.run X.A X.stack s H ⟨us,[]⟩ (us++ds) (vs++dvs) Q E d I.env0 (hb s us I.kIn hl) b h) λr s' a=>?_)
 cases r with
 | error e=>show g pins σ H s e s' I a
 | ok fl =>
  cases fl with
  | ret u=>show I.after a
  | next=>show False.elim a
  | brk=>show False.elim a
  | cont=>show False.elim a
theorem pe_call(F:FnOk X.prog X.w X.K X.mg X.base CX k f fd ps sp)(m:Room k X.A)(j:Gl X x)(hm:X.mg x=some (.ref f))(l:PySem.W.keepIn X.K (.ref f)=true)(hb:Binds X.K fd ps ds)(g:Vals dvs ds)(n:qaH CX X E)
  (d:PA X (e::es) t) (a:(x==("__debug__":Str))=false:=by decide) (i:starEach (e::es) X.env=(false,eval e X.env)::starEach es X.env:=by rfl) (b:(backTo pos (starEach es X.env)).any (·.1)=false:=by rfl) :
  PE X (.Call (.Name x p) (e::es) [] pos) (qe1 sp dvs E t):=by
 intro pins s σ H Q I h;show xm (qao I j hm ?_ a);show YY (h₀:=X.base) I.ok.mod.kin l (thn (d pos pins s σ H _ I h) λus u ⟨vs,o,c,r,q⟩=>⟨c.kIn,?_⟩) i b;show qes F m hb g n c r q
theorem pe_meth(z:PE X o ta)(c:Cls X.K C)(hm:Meth X.K C m f)(F:FnOk X.prog X.w X.K X.mg X.base CX k f fd ps sp)(B:Room k X.A)(hb:Binds X.K fd ps ds)(y:Vals dvs ds)(G:qaH CX X E)(v:PA X (e::es) t)
  (d:starEach (e::es) X.env=(false,eval e X.env)::starEach es X.env:=by rfl) (b:(backTo pos (starEach es X.env)).any (·.1)=false:=by rfl)
  (D:eval (.Call (.Attribute o m apos) (e::es) [] pos) X.env=(do
   let ov <- eval o X.env
   standAt apos.atName
   let (f,first) <- holding [ov] (getMethod ov m pl)
   callWith pos f first (backTo pos (starEach (e::es) X.env)) (backToKw pos (keywordEach [] X.env))):=by rfl) :
  PE X (.Call (.Attribute o m apos) (e::es) [] pos) (qfg C m sp dvs E ta t):=by
 intro pins s σ H Q I h;show xH (pl:=pl) (thn (z pins s σ H _ I h) λu M ⟨x,j,g,L,a,dx,fs,p,n,l,q⟩=>?_) D;subst p;obtain rfl:u=Value.ref a:=L;show qbD g n c hm l ?_;show YY (first:=[.ref a]) (h₀:=X.base) I.ok.mod.kin hm.kp (thn (v pos pins M σ j _ g q) λus O ⟨vs,N,i,r,J⟩=>⟨i.kIn,?_⟩) d b;show qes (us:=.ref a::us) (vs:=.ref a::vs) F B hb y G i (.cons rfl r) J
theorem pe_meth0(i:PE X o ta)(c:Cls X.K C)(hm:Meth X.K C m f)(F:FnOk X.prog X.w X.K X.mg X.base CX k f fd ps sp)(j:Room k X.A)(hb:Binds X.K fd ps ds)(g:Vals dvs ds)(p:qaH CX X E)
  (n:eval (.Call (.Attribute o m apos) [] [] pos) X.env=(do
   let ov <- eval o X.env
   standAt apos.atName
   let (f,first) <- holding [ov] (getMethod ov m pl)
   callWith pos f first (backTo pos (starEach [] X.env)) (backToKw pos (keywordEach [] X.env))):=by rfl) :
  PE X (.Call (.Attribute o m apos) [] [] pos) (qfg C m sp dvs E ta qbT):=by
 intro pins s σ H Q I h;show xH (pl:=pl) (thn (i pins s σ H _ I h) λu v ⟨x,t,b,r,a,dx,fs,e,d,l,q⟩=>?_) n;subst e;obtain rfl:u=Value.ref a:=r;show qbD b d c hm l ?_;show PySem.W.callWith_K0 (first:=[.ref a]) b.kIn hm.kp (qes (us:=[.ref a]) (vs:=[.ref a]) F j hb g p b (.cons rfl .nil) q)
structure Mk(K:yf)(C f:Addr):Prop where
 makes:PySem.W.makesIn K C=true
 init:PySem.W.findIn K (.ref C) "__init__"=some (some (.ref f))
 fn:PySem.W.isFn K (.ref f)=true
 kp:PySem.W.keepIn K (.ref C)=true
theorem run_make{Q:VK}(M:Mk X.K C f)(F:FnOk X.prog X.w X.K X.mg X.base CX k f fd ps sp)(m:Room (k+1) X.A)(hb:Binds X.K fd ps ds)(l:Vals dvs ds)
  (n:qaH CX X E) (I:Inv X pins σ H s) (r:Vals vs us)
  (h:∀ x dx,H x=none->H dx=none->dx≠x->sp (.ref x::(vs++dvs)) (upd (upd H dx (.own x)) x (.ins C dx [])) (λv g=>v=.non/\Q (.ref x) g) E) :
  wpAny (model X.prog X.w) X.A (call (.ref C) us) (EP X pins σ Q) X.xe s:=by
 have c:=h (s.heap.objs.size+1) s.heap.objs.size (I.hok.fresh (YO _)) (I.hok.fresh (yg _)) (Yk (XM _));have b:=Inv.made (C:=C) I;have d:Vals (V.ref (s.heap.objs.size+1)::(vs++dvs)) (Value.ref (s.heap.objs.size+1)::(us++ds)):=.cons rfl (r.append l)
 have hl:(Value.ref (s.heap.objs.size+1)::us++ds).length=ps.length:=by
  have e:=d.length;rw[F.len _ _ _ _ c] at e;show e.symm
 show xT (qer (f:=f) I.kIn M.makes M.init (Yq.mp M.fn) (Xg (F.run _ X.stack _ _ ⟨Value.ref (s.heap.objs.size+1)::us,[]⟩ (Value.ref (s.heap.objs.size+1)::(us++ds)) _ _ E (m.make C us [])
  (b.env0.make C us []) (hb _ (Value.ref (s.heap.objs.size+1)::us) b.kIn hl) d c) λr s' a=>?_))
 cases r with
 | error e=>show n pins σ _ _ e s' b a
 | ok fl =>
  cases fl with
  | ret u =>
   obtain⟨v,H',i,p,j,o⟩:=b.after a;subst j;show⟨p,⟨V.ref (s.heap.objs.size+1),H',i,rfl,o⟩⟩
  | next=>show False.elim a
  | brk=>show False.elim a
  | cont=>show False.elim a
theorem pe_make(M:Mk X.K C f)(F:FnOk X.prog X.w X.K X.mg X.base CX k f fd ps sp)(l:Room (k+1) X.A)(j:Gl X x)(hm:X.mg x=some (.ref C))(hb:Binds X.K fd ps ds)(g:Vals dvs ds)(m:qaH CX X E)
  (d:PA X (e::es) t) (a:(x==("__debug__":Str))=false:=by decide) (i:starEach (e::es) X.env=(false,eval e X.env)::starEach es X.env:=by rfl) (b:(backTo pos (starEach es X.env)).any (·.1)=false:=by rfl) :
  PE X (.Call (.Name x p) (e::es) [] pos) (qha C sp dvs E t):=by
 intro pins s σ H Q I h;show xm (qao I j hm ?_ a);show YY (h₀:=X.base) I.ok.mod.kin M.kp (thn (d pos pins s σ H _ I h) λus o ⟨vs,n,c,r,q⟩=>⟨c.kIn,?_⟩) i b;show run_make M F l hb g m c r q
end
section
variable{X:Cx}{CX:CXT}{k:Nat}{f C:Addr}{fd:FuncData}{ps ks:LS}{sp:Sp}{E:XK}{x m:Str}{p pos apos kpos:Pos}{e o:Expr}{es:List Expr}{kws:List Keyword}{te ta:TE}{t tk:TA}{nm:Option Str}
variable{g:List Value->List Value->List Value}{gV:List V->List V->List V}
end
structure FnScope(N P:LS)(sc:Scope):Prop where
 kind:sc.kind=.function
 co:sc.isCoroutine=false
 gen:sc.isGenerator=false
 nd:N.Nodup
 pre:N.take P.length=P
 par:∀ x∈P,sc.names.lookup x=some .local\/sc.names.lookup x=some .cell
 nofree:∀ y∈sc.names,y.2≠.free
theorem fS{P:LS}(a:sc.kind=.function:=by rfl)(b:sc.isCoroutine=false:=by rfl)(c:sc.isGenerator=false:=by rfl)(d:N.Nodup:=by room)(e:N.take P.length=P:=by rfl)(f:∀ x∈P,sc.names.lookup x=some .local\/sc.names.lookup x=some .cell:=by room)(g:∀ y∈sc.names,y.2≠.free:=by room):FnScope N P sc:=⟨a,b,c,d,e,f,g⟩
theorem qdy:∀{binds:List (Str×Value)} {m:Str->Option Value},(∀ v,(x,v)∉binds)->bindL kindOf binds m x=m x
 | [],_,_=>rfl
 | (n,v)::r,m,h=>by
  unfold bindL;rw[qdy λw hw=>h w (yw _ hw)];split
  .have:x≠n:=by rintro rfl;show h v yC
   simp[this]
  .rfl
theorem qdz:∀{binds:List (Str×Value)} {m:Str->Option Value},(∀ v,(x,v)∉binds)->bindC kindOf binds m x=m x
 | [],_,_=>rfl
 | (n,v)::r,m,h=>by
  unfold bindC;rw[qdz λw hw=>h w (yw _ hw)];split
  .rfl
  .have:x≠n:=by rintro rfl;show h v yC
   simp[this]
theorem qdA{v:Value}:∀{P:LS} {vs:List Value} {i:Nat} {m:Str->Option Value},P.Nodup->P[i]?=some x->vs[i]?=some v->kindOf x=some .local ->
  bindL kindOf (P.zip vs) m x=some v
 | [],_,_,_,_,h,_,_=>by simp at h
 | _::_,[],_,_,_,_,h,_=>by simp at h
 | p::P,w::vs,0,m,nd,h1,h2,hk=>by
  simp at h1 h2;subst h1;subst h2;show bindL kindOf ((p,w)::P.zip vs) m p=_;unfold bindL;rw[qdy λv hv=>(yn.mp nd).1 (k7 hv).1,yH hk];simp
 | p::P,w::vs,i+1,m,nd,h1,h2,hk=>by
  show bindL kindOf ((p,w)::P.zip vs) m x=_;unfold bindL;show qdA (i:=i) (yn.mp nd).2 (by simpa using h1) (by simpa using h2) hk
theorem qdB{v:Value}:∀{P:LS} {vs:List Value} {i:Nat} {m:Str->Option Value},P.Nodup->P[i]?=some x->vs[i]?=some v->kindOf x≠some .local ->
  bindC kindOf (P.zip vs) m x=some v
 | [],_,_,_,_,h,_,_=>by simp at h
 | _::_,[],_,_,_,_,h,_=>by simp at h
 | p::P,w::vs,0,m,nd,h1,h2,hk=>by
  simp at h1 h2;subst h1;subst h2;show bindC kindOf ((p,w)::P.zip vs) m p=_;unfold bindC;rw[qdz λv hv=>(yn.mp nd).1 (k7 hv).1,yB hk];simp
 | p::P,w::vs,i+1,m,nd,h1,h2,hk=>by
  show bindC kindOf ((p,w)::P.zip vs) m x=_;unfold bindC;show qdB (i:=i) (yn.mp nd).2 (by simpa using h1) (by simpa using h2) hk
def start(N:LS)(vs:List V):St:=vs.map some++List.replicate (N.length-vs.length) none
def qgs(CX:CXT)(P:Program)(w:World)(K:yf)(mg:Str->Option Value)(base:Heap)(N:LS)(qual:Str)(scope:Scope)(f:Addr)(b:Value)(A:Around)(outer:List Env)(s:Shared)(H:Hp)(E:XK):Cx where
 prog:=P
 w:=w
 K:=K
 mg:=mg
 base:=base
 A:=A.deeper (envOfC qual scope s.heap.objs.size f b)
 N:=N
 s₀:=s
 H₀:=H
 env:=envOfC qual scope s.heap.objs.size f b
 outer:=outer
 stack:=envOfC qual scope s.heap.objs.size f b::outer
 ex:=[]
 calm:=true
 fn:=λ_=>true
 pn:=[]
 xe:=λe s'=>wpAny (model P w) (A.deeper (envOfC qual scope s.heap.objs.size f b)) (leaving (envOfC qual scope s.heap.objs.size f b) e) (λ_ a=>CX outer H s E e a) (λc a=>CX outer H s E c a) s'
theorem qet(h:sc.names.lookup x=some .cell):∃ c,(cellsFrom n sc.names []).lookup x=some c:=by
 have q:=PySem.W.cellsFrom_some sc.names n [] (.inl h);show Xx.mp q
theorem inv_start{K:yf}{f:Addr}{o:Value}{D:Shared}{E:XK}
  (S:FnScope N ps scope) (G:A.handled=none) (g:Env0 P w K mg base A outer s H) (hl:vs.length=ps.length) (r:Vals vs us)
  (x:InCallC s s.heap.objs.size (bindL (envOfC qual scope s.heap.objs.size f o).kindOf (ps.zip us) λ_=>none) (cellsFrom (s.heap.objs.size+1) scope.names []) (bindC (envOfC qual scope s.heap.objs.size f o).kindOf (ps.zip us) λ_=>none) D) :
  Inv (qgs CX P w K mg base N qual scope f o A outer s H E) [] (start N vs) H D:=by
 have I:ps.length<=N.length:=by have:=congrArg List.length S.pre;rw[yN] at this;lk
 obtain⟨h1,tk,rfl,B⟩:=x.done;have j:∀ b:Addr,b∉(qgs CX P w K mg base N qual scope f o A outer s H E).ex:=λb z=>absurd (show b∈([]:LI) from z) (by simp);show⟨⟨g.mod,S.kind,rfl,rfl,yg _,λy z c h1 d=>?_,λy hy=>?_,λy c _ h=>?_,λ_=>G,Around.frames_deeper g.frames,.inr ⟨rfl,rfl⟩,λb z=>absurd z (j b),g.bs,g.bsz,λb _ _=>j b,λb z=>absurd z (j b),g.funs,g.frf⟩,
  rfl,g.bare,Un.kept B,⟨_,x.toInCall.ns,λi y v h1 d L=>?_⟩,λy c h=>⟨_,x.cell y c h⟩,g.hok.fresh (yg _),λy c h=>?_,λp l=>absurd (show p∈([]:List (Addr×Obj)) from l) (by simp),g.hok.kept B,?_⟩
 .show name_of_addr x.apart (xW h1) (xW d)
 .have hy:scope.names.lookup y=some .cell\/scope.names.lookup y=some .free:=hy;rcases hy with hy | hy
  .show qet hy
  .show absurd rfl (S.nofree _ (xW hy))
 .show yI (x.above y c (xW h))
 .have t:i<vs.length:=by
   unfold start at d;by_cases t:i<vs.length
   .show t
   .rw [yX (by simpa using t)] at d;rw[XD] at d;split at d<;>cases d
  have F:vs[i]?=some v:=by
   unfold start at d;rw[yP (by simpa using t),yd] at d
   cases e:vs[i]? with
   | none=>rw[e] at d;cases d
   | some a=>rw[e] at d;cases d;rfl
  obtain⟨u,C,J⟩:=r.get F
  have l:ps[i]?=some y:=by
   rw[<- S.pre,List.getElem?_take_of_lt (by lk)];show h1
  have m:ps.Nodup:=by rw[<- S.pre];show S.nd.sublist (kB _ _)
  show⟨u,J,?_⟩;rcases S.par y (ye l) with k | k
  .show .inl ⟨k,qdA m l C k⟩
  .obtain⟨c,e⟩:=qet (n:=s.heap.objs.size+1) k;show .inr ⟨.inl k,c,e,?_⟩;have q:=x.cell y c e;rw[qdB m l C (by show scope.names.lookup y≠_;rw[k];decide)] at q;show q
 .show g.hok.fresh (yI (x.above y c (xW h)))
 .unfold start;show _=N.length;rw[yx,ya,YV];lk
theorem qhv{K:yf}{k:Nat}{f:Addr}{name:Str}{c:Arguments}{O kV j R a ct oc:Value}{M od:Option Addr}
  {F:Array (Option Value)} (lk:K.lookup f=some ⟨oc,od,.func (PySem.W.fnOf name qual c body scope O kV j R M a ct),F⟩) (B:PySem.W.codeIn K a qual=true) (S:FnScope N ps scope)
  (z:∀ vs H Q E,sp vs H Q E->vs.length=ps.length)
  (g:∀(A:Around) (outer:List Env) (s:Shared) (H:Hp) (vs:List V) (Q:VK) (E:XK),Room k (A.deeper (envOfC qual scope s.heap.objs.size f a))->sp vs H Q E ->
   ∃ t,PSs (qgs CX P w K mg base N qual scope f a A outer s H E) body t/\t { nx:=λ_ H'=>Q .non H',rt:=Q } (start N vs) H) :
  FnOk P w K mg base CX (k+1) f (PySem.W.fnOf name qual c body scope O kV j R M a ct) ps sp:=by
 show⟨z,λA outer s H args us vs Q E C l hb r p=>?_⟩;have hl:=z _ _ _ _ p;have L:K.In s.heap:=l.mod.kin.keeps λb o e=>(l.bs b o e).1;have D:s.heap.NoLimit:=l.mod.nolimit.keeps λb o e=>(l.bs b o e).1
 have h:∀ y∈ps.zip us,scope.names.lookup y.1=some .local\/(scope.names.lookup y.1=some .cell/\((cellsFrom (s.heap.objs.size+1) scope.names []).lookup y.1).isSome=true):=λ⟨n,v⟩ hy=>by
  rcases S.par n (k7 hy).1 with q | q
  .show .inl q
  .show .inr ⟨q,PySem.W.cellsFrom_some _ _ _ (.inl q)⟩
 show codeAny_call_function C.depth (L _ _ lk) rfl S.co S.gen rfl (PySem.W.codeRec_of L B) (hb _ _ _ _ ?_);show wpAny_newFunctionEnv_cells S.kind h λenv X T x=>?_;subst X;show⟨D.keeps x.toInCall.keep,codeAny_func ?_⟩;obtain⟨t,Z,Y⟩:=g A outer s H vs Q E (C.deeper _) p;have I:Inv (qgs CX P w K mg base N qual scope f a A outer s H E) [] (start N vs) H T:=inv_start S C.hd l hl r x;show YD (Z [] T (start N vs) H _ I Y) (λU s' i=>?_) λe s' i=>i
 have m:∀{d:St} {H':Hp} {v:V} {u:Value},Inv (qgs CX P w K mg base N qual scope f a A outer s H E) [] d H' s'->RelV v u->Q v H'->CE outer P w H s Q u s':=
  λ{d H' v u} J G q=>⟨v,H',J.os,J.bare,J.base,J.hok,G,q⟩
 cases U with
 | ret u =>
  obtain⟨v,d,H',J,G,q⟩:=i;show m J G q
 | next =>
  obtain⟨d,H',J,q⟩:=i;show m (v:=V.non) (u:=Value.none) J rfl q
 | brk =>
  obtain⟨_,_,_,q⟩:=i;show False.elim q
 | cont =>
  obtain⟨_,_,_,q⟩:=i;show False.elim q
section
variable{X:Cx}{x:Str}{p pos:Pos}{e:Expr}{es:List Expr}{t:TA}{id T:String}{r:List V->Hp->VK->Prop}
def tCB(r:List V->Hp->VK->Prop)(t:TA):TE:=fun σ H Q=>t σ H λvs a=>r vs a Q
theorem qj(hc:zW X (.builtin id) r)(i:Gl X x)(hm:X.mg x=none)(hv:bootBuiltins x=some (.builtin id))(f:PA X (e::es) t)(hn:x≠"__name__":=by decide)(a:(x==("__debug__":Str))=false:=by decide)
  (g:starEach (e::es) X.env=(false,eval e X.env)::starEach es X.env:=by rfl) (b:(backTo pos (starEach es X.env)).any (·.1)=false:=by rfl):PE X (.Call (.Name x p) (e::es) [] pos) (tCB r t):=by
 intro pins s σ H Q I h;show xm (qaz I i hm hv ?_ hn a);show PyProof.Rows.callWith_builtin1 (thn (f pos pins s σ H _ I h) λus m ⟨vs,c,d,l,j⟩=>hc pins m σ c vs us Q d l j) g b
theorem jz(hc:zW X (.type T) r)(i:Gl X x)(hm:X.mg x=none)(hv:bootBuiltins x=some (.type T))(f:PA X (e::es) t)(hn:x≠"__name__":=by decide)(a:(x==("__debug__":Str))=false:=by decide)
  (g:starEach (e::es) X.env=(false,eval e X.env)::starEach es X.env:=by rfl) (b:(backTo pos (starEach es X.env)).any (·.1)=false:=by rfl):PE X (.Call (.Name x p) (e::es) [] pos) (tCB r t):=by
 intro pins s σ H Q I h;show xm (qaz I i hm hv ?_ hn a);show Yt (thn (f pos pins s σ H _ I h) λus m ⟨vs,c,d,l,j⟩=>hc pins m σ c vs us Q d l j) g b
end
end L2
namespace HT
open PySem PyProof.Rows
variable{hi lo:Option Int}{sl t:Addr}{vl vu:Value}
section
open PySem.SeqAt
open PySem.AutoSeq1 (wpAny_loadPart')
open PySem.MeetsSeq PySem.MeetsSeq2 PySem.MeetsSeq3
end
section
variable{prog:Program}{w:World}{A:Around}{E:Value->Shared->Prop}{s:Shared}
theorem cat_tup{b:Addr}{vs a:List Value}{Q:Value->Shared->Prop}(r:IsTup s.heap t vs.toArray)(hb:IsTup s.heap b a.toArray)(hv:vs≠[])
  (h1:a=[]->Q (.ref t) s) (q:a≠[]->Q (.ref s.heap.objs.size) { s with heap:=s.heap.push { cls:=.type "tuple",data:=.seq (vs++a).toArray } })
  (hsz:vs.length+a.length<=sizeLine):wpAny (model prog w) A (binaryOp .Add (.ref t) (.ref b)) Q E s:=by
 obtain⟨⟨cls,m,data,sl⟩,i,hc,n,o⟩:=id r;obtain⟨⟨l,d,j,h⟩,c,f,p,g⟩:=id hb;simp only at hc o f g;subst hc o f g;have e:vs.toArray++a.toArray=(vs++a).toArray:=by simp
 by_cases hw:a=[]
 .show concat_meets ⟨_,i,rfl⟩ ⟨_,c,rfl⟩ noFill_tuple_add seq_tuple_add PySem.F.slot_tuple_add PySem.F.entry_tuple_add (PySem.F.args_tuple_add_2 _ _)
   (tuple_addW1 t b vs.toArray a.toArray n p m d sl h (by simpa using hv) (by simp[hw])) ⟨i,c,h1 hw⟩
 .show concat_meets ⟨_,i,rfl⟩ ⟨_,c,rfl⟩ noFill_tuple_add seq_tuple_add PySem.F.slot_tuple_add PySem.F.entry_tuple_add (PySem.F.args_tuple_add_2 _ _)
   (tuple_addW2 t b vs.toArray a.toArray n p m d sl h (by simpa using hv) (by simpa using hw) (by rw[yz,yz];show hsz)) ⟨i,c,?_⟩
  rw[e];show q hw
def sIx(n d:Nat):Option Int->Nat
 | none=>d
 | some v=>if v<0 then(v+(n:Int)).toNat else min v.toNat n
theorem sIx_none(n d:Nat):sIx n d none=d:=rfl
theorem sIx_nat(n d k:Nat):sIx n d (some (k:Int))=min k n:=by
 show(if (k:Int)<0 then((k:Int)+(n:Int)).toNat else min (k:Int).toNat n)=min k n;rw[yB (by lk),Ym]
theorem sIx_le(n d:Nat)(a:d<=n)(o:Option Int):sIx n d o<=n:=by
 cases o with
 | none=>show a
 | some v =>
  show(if v<0 then(v+(n:Int)).toNat else min v.toNat n)<=n;by_cases hv:v<0
  .rw [yH hv];lk
  .rw [yB hv];show XR _ _
theorem qfh(v:Int)(n d:Nat):(if v<0 then max (v+(n:Int)) 0 else min v (n:Int))=((sIx n d (some v):Nat):Int):=by
 show(if v<0 then max (v+(n:Int)) 0 else min v (n:Int))=(((if v<0 then(v+(n:Int)).toNat else min v.toNat n):Nat):Int);by_cases hv:v<0
 .simp only[yH hv];lk
 .simp only[yB hv];lk
theorem adjust_gen(lo hi:Option Int)(n:Nat):Builtin.Slice.sliceAdjust lo hi 1 (n:Int)=(((sIx n 0 lo:Nat):Int),((sIx n n hi:Nat):Int)):=by
 have h1:¬ ((1:Int)<0):=by lk
 unfold Builtin.Slice.sliceAdjust;simp only[h1,kN];show XZ ?_ ?_
 .cases lo with
  | none=>rfl
  | some v=>show qfh v n 0
 .cases hi with
  | none=>rfl
  | some v=>show qfh v n n
theorem places_gen(i j:Nat):Builtin.Slice.slicePlaces (i:Int) (j:Int) 1=j-i:=by
 unfold Builtin.Slice.slicePlaces;have h1:(1:Int)>0:=by lk
 simp only[h1,Xq,Int.ediv_one];split<;>lk
theorem qcI{v:Value}{o:Option Int}{Q:Option Int->Shared->Prop}(p:IsPart v o)(h:Q o s):wpAny (model prog w) A (Builtin.Slice.slicePartIndex v) Q E s:=by
 cases p with
 | none=>show slicePart_none h
 | int i t=>show slicePart_int h
theorem sliceApplied_gen{n:Nat}{Q:Int×Int×Nat->Shared->Prop}(d:s.heap.IsSliceOf sl vl vu .none)(pl:IsPart vl lo)(e:IsPart vu hi)
  (h:Q (((sIx n 0 lo:Nat):Int),1,sIx n n hi-sIx n 0 lo) s):wpAny (model prog w) A (Builtin.Slice.sliceApplied (.ref sl) (pure (n:Int))) Q E s:=by
 obtain⟨f,b,c,a⟩:=id d;unfold Builtin.Slice.sliceApplied Builtin.Slice.sliceFields;show yq (yq (XE b a (x:=vl) rfl (yq (XE b a (x:=vu) rfl (yq (XE b a (x:=.none) rfl (yA ?_)))))));show yq (slicePart_none ?_);show wpAny _ _ (if ((1:Int)==0)=true then _ else _) _ _ s;rw[yB (by decide)];show yq (qcI pl (yq (qcI e (yq (yA ?_)))));show wpAny _ _ (match Builtin.Slice.sliceAdjust lo hi 1 (n:Int) with | (lo,hi)=>pure (lo,(1:Int),Builtin.Slice.slicePlaces lo hi 1)) _ _ s;rw[adjust_gen lo hi n];show wpAny _ _ (pure (((sIx n 0 lo:Nat):Int),(1:Int),Builtin.Slice.slicePlaces ((sIx n 0 lo:Nat):Int) ((sIx n n hi:Nat):Int) 1)) _ _ s;rw[places_gen];show yA h
theorem pick_gen(xs:Array Value)(i k:Nat):((List.range k).filterMap λ(m:Nat)=>xs[((i:Int)+(m:Int)*1).toNat]?).toArray=((xs.toList.drop i).take k).toArray:=by
 have e:(λ(m:Nat)=>xs[((i:Int)+(m:Int)*1).toNat]?)=λm=>xs[i+m]?:=by
  funext m;have:((i:Int)+(m:Int)*1).toNat=i+m:=by lk
  rw[this]
 rw[e];have:=pick_run xs i k;rw[List.filterMap_map] at this;have a:((λx=>xs[x]?) ∘ λx=>i+x)=λm=>xs[i+m]?:=rfl;rw[a] at this;rw[this]
theorem getItem_tuple_cut{a:Array Value}{Q:Value->Shared->Prop}(c:IsTup s.heap t a)(i:s.heap.IsSliceOf sl vl vu .none)(pl:IsPart vl lo)(n:IsPart vu hi)
  (hw:¬ (sIx a.size 0 lo=0/\sIx a.size a.size hi=a.size))
  (h:Q (.ref s.heap.objs.size) { s with heap:=s.heap.push { cls:=.type "tuple",data:=.seq ((a.toList.drop (sIx a.size 0 lo)).take (sIx a.size a.size hi-sIx a.size 0 lo)).toArray } })
  (hsz:a.size<=sizeLine):wpAny (model prog w) A (getItem (.ref t) (.ref sl)) Q E s:=by
 have b:sizeOk (.seq ((a.toList.drop (sIx a.size 0 lo)).take (sIx a.size a.size hi-sIx a.size 0 lo)).toArray):=by
  show((a.toList.drop (sIx a.size 0 lo)).take (sIx a.size a.size hi-sIx a.size 0 lo)).toArray.size<=sizeLine;rw[yz,yN,XS,Y8];lk
 have o:sIx a.size a.size hi<=a.size:=sIx_le _ _ (yg _) hi;obtain⟨l,g,e,j⟩:=id i;have d:s.TypeIs (.ref sl) "slice":=⟨l,g,e⟩;unfold getItem
 try with_reducible show YF ?_
 first | show yq (yA ?_) | skip
 show yq (wpAny_sequenceKey c.typeIs (by decide) ?_);show yq (wpAny_callSpecial?_slot (name:=Str.ofString "__getitem__") c.typeIs xV
  (wpAny_call_entry xV c.typeIs entry_tuple_getitem ?_ (args_tuple_getitem _ _)))
 show wpAny _ _ (Builtin.Tuple.tupleItemsOf (.ref t)>>=_) _ _ s;show yq (tupleItemsOf_ c ?_);show yq (wpAny_typeOf d ?_);rw[yH (by decide)];show yq (sliceApplied_gen i pl n ?_)
 have f:¬ ((((sIx a.size 0 lo:Nat):Int)==0&&(1:Int)==1&&(sIx a.size a.size hi-sIx a.size 0 lo)==a.size)=true):=by
  intro q;rw[Yn,Yn] at q;have p:((sIx a.size 0 lo:Nat):Int)=0:=eq_of_beq q.1.1;have r:sIx a.size a.size hi-sIx a.size 0 lo=a.size:=eq_of_beq q.2;show hw ⟨by lk,by lk⟩
 show wpAny _ _ (if (((sIx a.size 0 lo:Nat):Int)==0&&(1:Int)==1&&(sIx a.size a.size hi-sIx a.size 0 lo)==a.size)=true then _ else _) _ _ s;rw[yB f,pick_gen]
 first
  | show yq (m:=Builtin.Tuple.tupleExact _) (xP (yA ⟨_,rfl,yA h⟩) b)
  | show yq (m:=Builtin.Tuple.tupleExact _) (xP (yq (yA (yA ⟨_,rfl,yA h⟩))) b)
  | show yq (yq (m:=Builtin.Tuple.tupleExact _) (xP (yA (yA ⟨_,rfl,yA h⟩)) b))
  | show yq (yq (m:=Builtin.Tuple.tupleExact _) (xP (yA ⟨_,rfl,yA h⟩) b))
end
end HT
namespace L2
open PySem PySem.Spec PyProof.Rows
variable{A:Around}{H H':Hp}{P:Program}{X:Cx}{a p:Addr}{h':Heap}{i:Int}{its its' us:List Value}{j n t':Nat}{kvs:List (List Key×V)}{o:Option V}{pins:List (Addr×Obj)}{pos:Pos}{r:R2}{s:Shared}{trs:List (TE×TE)}{u v:Value}{w:World}{x y:V}{xs:List V}{α:Type}{σ:St}
abbrev TO:=St->Hp->(Option Int->Hp->Prop)->Prop
def PO(X:Cx)(e:Option Expr)(t:TO):Prop:=
 ∀(pins:List (Addr×Obj)) (s:Shared) (σ:St) (H:Hp) (Q:Option Int->Hp->Prop),Inv X pins σ H s->t σ H Q ->
  wpAny (model X.prog X.w) X.A (evalPart e X.env) (λu s'=>∃ o H',Inv X pins σ H' s'/\IsPart u o/\Q o H') X.xe s
def qfi:TO:=λ_ H Q=>Q none H
def qhw(t:TE):TO:=fun σ H Q=>t σ H λx a=>∃ i,x=.int i/\Q (some i) a
theorem intsAre_of{ns:LQ}:∀{us:List Value},Vals (ns.map V.int) us->IntsAre us ns:=by
 induction ns with
 | nil=>intro us r;rw[kX] at r;cases r;show .nil
 | cons n ns ih =>
  intro us r;rw[Ys] at r
  cases r with
  | cons r1 r2 =>
   obtain⟨t,e⟩:=r1;subst e;show .cons n t (ih r2)
section
variable{X:Cx}{e:Expr}{te:TE}{lo hi:Option Expr}{tl th:TO}{pos p2:Pos}
theorem qd2:PO X none qfi:=by
 intro pins s σ H Q I h;rw[evalPart_none];show yA ⟨none,H,I,.none,h⟩
theorem qa5(h:PE X e te):PO X (some e) (qhw te):=by
 intro pins s σ H Q I hw;rw[evalPart_some];show thn (h pins s σ H _ I hw) λu f ⟨x,a,b,d,c⟩=>?_;obtain⟨i,rfl,q⟩:=c;obtain⟨t,rfl⟩:=d;show⟨some i,a,b,.int i t,q⟩
def SlR(X:Cx)(r:V->Option Int->Option Int->Hp->VK->Prop):Prop:=
 ∀(pins:List (Addr×Obj)) (s:Shared) (σ:St) (H:Hp) (x:V) (v b c:Value) (lo hi:Option Int) (a:Addr) (Q:VK),Inv X pins σ H s->RelV x v->s.heap.IsSliceOf a b c .none->IsPart b lo->IsPart c hi->r x lo hi H Q ->
  ∃ T id,typeLookup (.type T) "__getitem__"=pure (some (.builtin id))/\s.TypeIs v T/\wpAny (model X.prog X.w) X.A (getItem v (.ref a)) (EP X pins σ Q) X.xe s
def tSl(r:V->Option Int->Option Int->Hp->VK->Prop)(te:TE)(tl th:TO):TE:=fun σ H Q=>te σ H λx a=>tl σ a λl b=>th σ b λu c=>r x l u c Q
theorem qbU{r:V->Option Int->Option Int->Hp->VK->Prop}(z:SlR X r)(t:PE X e te)(hl:PO X lo tl)(C:PO X hi th):PE X (.Subscript e (.Slice lo hi none p2) pos) (tSl r te tl th):=by
 intro pins s σ H Q I h;show Subscript_ (thn (t pins s σ H _ I h) λv K ⟨x,g,j,J,E⟩=>?_);show wpAny_Slice (thn (hl pins K σ g _ j E) λc L ⟨l,i,m,pl,F⟩=>thn (C pins L σ i _ m F) λd a ⟨u,f,n,D,G⟩=>?_);rw[evalPart_none];show yA ?_;have o:Inv X pins σ f { a with heap:=a.heap.push { cls:=.type "slice",data:=.fields #[c,d,.none] } }:=n.kept (t':=a.toks) λb M q=>yu _ q;obtain⟨T,id,p,B,y⟩:=z pins { a with heap:=a.heap.push { cls:=.type "slice",data:=.fields #[c,d,.none] } } σ f x v c d l u a.heap.objs.size Q o J (Heap.IsSliceOf.new ..) pl D G;show wpAny (model X.prog X.w) X.A (subscriptTail e (.Slice lo hi none p2) v (.ref a.heap.objs.size)) (EP X pins σ Q) X.xe { a with heap:=a.heap.push { cls:=.type "slice",data:=.fields #[c,d,.none] } };show tail_any (ops:=[.ref a.heap.objs.size,v]) B p y (by with_unfolding_all rfl)
def qfj(xs:List V)(lo hi:Option Int):List V:=(xs.drop (HT.sIx xs.length 0 lo)).take (HT.sIx xs.length xs.length hi-HT.sIx xs.length 0 lo)
theorem qce(xs:List V)(lo hi:Option Int):(qfj xs lo hi).length<=xs.length:=by
 unfold qfj;rw[yN,XS];lk
inductive rSlT(K:yf)(x:V)(lo:Option Int)(hi:Option Int)(H:Hp)(Q:VK):Prop|mk (a xs:_) (_:x=.ref a) (_:SqT K H a xs) (_:¬ (HT.sIx xs.length 0 lo=0/\HT.sIx xs.length xs.length hi=xs.length)) (_:∀ p,H p=none->Q (.ref p) (upd H p (.tup (qfj xs lo hi))))
theorem sl_tup:SlR X (rSlT X.K):=by
 intro pins s σ H x v n p lo hi m Q I j f pl i h;obtain⟨a,xs,rfl,g,hw,q⟩:=h;cases j;obtain⟨its,r,d,e⟩:=I.tuple g;have c:its.toArray.size=xs.length:=by rw[yz];show r.length.symm
 show⟨"tuple",_,xV.lookup,d.typeIs,?_⟩;show HT.getItem_tuple_cut d f pl i (by rw[c];show hw) ?_ (by rw[c];show e);rw[c];show⟨.ref s.heap.objs.size,_,I.laid (t':=s.toks) (o:=.tup (qfj xs lo hi)) (λb l q=>yu _ q) (yg _) ?_,rfl,q _ (I.hok.fresh (yg _))⟩;show⟨yh (qce xs lo hi) e,_,(r.drop (HT.sIx xs.length 0 lo)).take (HT.sIx xs.length xs.length hi-HT.sIx xs.length 0 lo),IsTup.new _ _⟩
inductive rCatT(K:yf)(x:V)(y:V)(H:Hp)(Q:VK):Prop|mk (a b xs ys:_) (_:x=.ref a) (_:y=.ref b) (_:SqT K H a xs) (_:SqT K H b ys) (_:xs≠[]) (_:xs.length+ys.length<=sizeLine) (_:(ys=[]->Q (.ref a) H)) (_:(ys≠[]->∀ p,H p=none->Q (.ref p) (upd H p (.tup (xs++ys)))))
theorem Vals.nil_iff(r:Vals xs us):us=[]↔xs=[]:=by
 cases r with
 | nil=>simp
 | cons _ _=>simp
theorem op_catT:OpR X (binaryOp .Add) (rCatT X.K):=by
 intro pins s σ H x y v u Q I n p h;obtain⟨a,b,xs,ys,rfl,rfl,g,hb,i,e,l,m⟩:=h;cases n;cases p;obtain⟨its,d,j,_⟩:=I.tuple g;obtain⟨f,c,p2,_⟩:=I.tuple hb;show HT.cat_tup j p2 (λz=>i (d.nil_iff.mp z)) (λz=>⟨.ref a,H,I,rfl,l (c.nil_iff.mp z)⟩) (λz=>?_) (by rw[<- d.length,<- c.length];show e);show⟨.ref s.heap.objs.size,_,I.laid (t':=s.toks) (o:=.tup (xs++ys)) (λb r q=>yu _ q) (yg _) ?_,rfl,m (λw=>z (c.nil_iff.mpr w)) _ (I.hok.fresh (yg _))⟩;show⟨by rw[yx];show e,_,d.append c,IsTup.new _ _⟩
end
def ixN(n:Nat)(i:Int):Option Nat:=if 0<=i then(if i<n then some i.toNat else none) else if -(n:Int)<=i then some (i+n).toNat else none
def atI{α:Type}(xs:List α)(i:Int):Option α:=(ixN xs.length i).bind λj=>xs[j]?
theorem qfk(h:ixN n i=some j):seqIndex? i n=some j/\j<n/\-(n:Int)<=i/\i<n:=by
 unfold ixN at h;by_cases h0:0<=i
 .rw [yH h0] at h;by_cases h1:i<n
  .rw [yH h1] at h;have e:i.toNat=j:=yl h;show⟨by rw[seqIndex_of h0 h1,e],by lk,by lk,h1⟩
  .rw [yB h1] at h;cases h
 .rw [yB h0] at h;by_cases h1:-(n:Int)<=i
  .rw [yH h1] at h;have e:(i+n).toNat=j:=yl h;show⟨by rw[seqIndex_neg (by lk) h1,e],by lk,h1,by lk⟩
  .rw [yB h1] at h;cases h
theorem qd3{xs:List α}{v:α}(h:atI xs i=some v):∃ j,seqIndex? i xs.length=some j/\xs[j]?=some v/\j<xs.length/\-(xs.length:Int)<=i/\i<xs.length:=by
 unfold atI at h
 cases e:ixN xs.length i with
 | none=>rw[e] at h;cases h
 | some j =>
  rw[e] at h;obtain⟨h1,a,b,c⟩:=qfk e;show⟨j,h1,h,a,b,c⟩
theorem atI_nat{xs:List α}{v:α}(h:xs[j]?=some v):atI xs (j:Int)=some v:=by
 have a:j<xs.length:=(yc.mp h).1
 have e:ixN xs.length (j:Int)=some j:=by
  unfold ixN;rw[yH (by lk),yH (by lk)];simp
 unfold atI;rw[e];show h
def PlainIx(b:Expr):Prop:=∀ o i,subscripted b false o i=operate [o,i] (getItem o i)
def IxR(X:Cx)(r:R2):Prop:=
 ∀(b a:Expr) (pins:List (Addr×Obj)) (s:Shared) (σ:St) (H:Hp) (x y:V) (v u:Value) (Q:VK),Inv X pins σ H s->RelV x v->RelV y u->r x y H Q ->
  subscripted a false v u=operate [v,u] (getItem v u)->wpAny (model X.prog X.w) X.A (subscriptTail b a v u) (EP X pins σ Q) X.xe s
def MtR(X:Cx)(id:String)(r:V->List V->Hp->VK->Prop):Prop:=
 ∀(pins:List (Addr×Obj)) (s:Shared) (σ:St) (H:Hp) (x:V) (xs:List V) (v:Value) (us:List Value) (Q:VK),Inv X pins σ H s->RelV x v->Vals xs us->r x xs H Q ->
  wpAny (model X.prog X.w) X.A (call (.builtin id) (v::us)) (EP X pins σ Q) X.xe s
section
variable{X:Cx}{a b:Expr}{ta tb:TE}{pos:Pos}
theorem IxR.or{d:R2}(h:IxR X r)(h':IxR X d):IxR X (λx y H Q=>r x y H Q\/d x y H Q):=by
 intro b a pins s σ H x y v u Q I e f q c;rcases q with q | q
 .show h b a pins s σ H x y v u Q I e f q c
 .show h' b a pins s σ H x y v u Q I e f q c
theorem qB(f:IxR X r)(e:PE X a ta)(hb:PE X b tb)(g:PlainIx b):PE X (.Subscript a b pos) (tOp r ta tb):=by
 intro pins s σ H Q I h;show Subscript_ (qhY e hb I h λv u l x y c d i j q=>f a b pins l σ c x y v u Q d i j q (g _ _))
inductive rIxL(K:yf)(x:V)(y:V)(H:Hp)(Q:VK):Prop|mk (p xs i v:_) (_:x=.ref p) (_:y=.int i) (_:SqL K H p xs) (_:atI xs i=some v) (_:Q v H)
inductive rIxT(K:yf)(x:V)(y:V)(H:Hp)(Q:VK):Prop|mk (p xs i v:_) (_:x=.ref p) (_:y=.int i) (_:SqT K H p xs) (_:atI xs i=some v) (_:Q v H)
inductive rIxS(x:V)(y:V)(H:Hp)(Q:VK):Prop|mk (z i c:_) (_:x=.str z) (_:y=.int i) (_:z.length<=sizeLine) (_:atI z.cps.toList i=some c) (_:Q (.str ⟨#[c]⟩) H)
theorem ix_list:IxR X (rIxL X.K):=by
 intro e d pins s σ H x y v u Q I B C h g;obtain⟨p,xs,i,z,rfl,rfl,A,o,q⟩:=h;cases B;obtain⟨t,rfl⟩:=C;obtain⟨its,r,pl,E⟩:=I.list A;obtain⟨j,h1,l,D,m,n⟩:=qd3 o;obtain⟨w,f,c⟩:=r.get l;have hl:=r.length;have hn:=qcH;have a:EP X pins σ Q w s:=⟨z,H,I,c,q⟩;by_cases h0:0<=i
 .have b:i.toNat=j:=by
   rw[seqIndex_of h0 n] at h1;show yl h1
  show item_listR pl.isList h0 (by lk) (by rw[b];simpa using f) a g
 .have b:(i+(its.toArray.size:Int)).toNat=j:=by
   rw[seqIndex_neg (by lk) m] at h1;rw[yz,<- hl];show yl h1
  show subscriptTail_builtinR (x:=w) pl.isList.typeIs kC.lookup
   (wpAny_getItem_list_neg (Q:=λr s'=>r=w/\EP X pins σ Q r s') pl.isList (by lk) (by rw[yz]<;>lk) (by lk) (by rw[b];simpa using f) ⟨rfl,a⟩) g
theorem ix_tup:IxR X (rIxT X.K):=by
 intro d c pins s σ H x y v u Q I n o h m;obtain⟨p,xs,i,z,rfl,rfl,l,g,q⟩:=h;cases n;obtain⟨t,rfl⟩:=o;obtain⟨its,r,pl,D⟩:=I.tuple l;obtain⟨j,h1,f,A,B,C⟩:=qd3 g;obtain⟨w,e,b⟩:=r.get f;have hl:=r.length;have hn:=qcH;have a:EP X pins σ Q w s:=⟨z,H,I,b,q⟩;show subscriptTail_builtinR (x:=w) pl.typeIs slot_tuple_getitem.lookup
  (getItem_tuple (j:=j) (Q:=λr s'=>r=w/\EP X pins σ Q r s') pl (by lk) (by lk) (by rw[yz,<- hl];show h1) (by simpa using e) ⟨rfl,a⟩) m
theorem ix_str:IxR X rIxS:=by
 intro b a pins s σ H x y v u Q I o p h n;obtain⟨z,i,c,rfl,rfl,w,m,q⟩:=h;obtain⟨t,rfl⟩:=o;obtain⟨t',rfl⟩:=p;obtain⟨j,h1,f,r,g,l⟩:=qd3 m;have hl:z.cps.toList.length=z.length:=by simp[Str.length]
 rw[hl] at h1 g l;have hn:=qcH
 show tail_any (typeIs_str s z t) slot_str_getitem.lookup (getItem_str (c:=c) (by
  have d:decide (i < -(2 ^ 63:Int))=false:=yk (by lk);have e:decide (i ≥ 2 ^ 63)=false:=yk (by lk);rw[d,e,kJ]) (by rw[h1];simpa using f) ⟨.str ⟨#[c]⟩,H,I.tok _,⟨_,rfl⟩,q⟩) n
def rIx(K:yf):R2:=λx y H Q=>rIxL K x y H Q\/rIxT K x y H Q\/rIxS x y H Q
theorem ix_seq:IxR X (rIx X.K):=ix_list.or (ix_tup.or ix_str)
theorem mapSeq_set(its:List Value)(n j:Nat)(u:Value):Obj.mapSeq (·.setIfInBounds j u) { cls:=.type "list",data:=.seq its.toArray n }={ cls:=.type "list",data:=.seq (its.set j u).toArray n }:=by
 simp[Obj.mapSeq]
theorem Inv.lst(I:Inv X pins σ H s)(h:H p=some (.lst xs)) :
  ∃(its:List Value) (n:Nat),Vals xs its/\s.heap.get? p=some { cls:=.type "list",data:=.seq its.toArray n }/\xs.length<=sizeLine:=by
 obtain⟨z,its,n,r,e⟩:=I.hok p _ h;show⟨its,n,r,e,z⟩
theorem Inv.lstUpd{ys:List V}{n':Nat}{f:Obj->Obj}(I:Inv X pins σ H s)(h:H p=some (.lst xs))
  (c:s.heap.get? p=some { cls:=.type "list",data:=.seq its.toArray n }) (a:f { cls:=.type "list",data:=.seq its.toArray n }={ cls:=.type "list",data:=.seq its'.toArray n' }) (r:Vals ys its') (d:ys.length<=sizeLine) (t:Nat) :
  Inv X pins σ (upd H p (.lst ys)) { s with heap:=s.heap.update p f,toks:=t }:=by
 have e:(s.heap.update p f).get? p=some { cls:=.type "list",data:=.seq its'.toArray n' }:=by
  rw[xI f c (by rw[a]<;>rfl),a]
 show I.write (x:=p) (e:=p) (by rw[h];trivial) (.inl rfl) (λb u hb q=>(YA _ _ (Yv hb)).trans q) ⟨_,e⟩ ?_;show⟨d,its',n',r,e⟩
inductive rSetL(o:V)(i:V)(v:V)(H:Hp)(Q:(Hp->Prop)):Prop|mk (p xs k j:_) (_:o=.ref p) (_:i=.int k) (_:H p=some (.lst xs)) (_:ixN xs.length k=some j) (_:Q (upd H p (.lst (xs.set j v))))
theorem set_list:qhX X rSetL:=by
 intro pins s σ H o i v z iv u Q I w m x h;obtain⟨p,xs,k,j,rfl,rfl,f,g,q⟩:=h;cases w;obtain⟨t,rfl⟩:=m;obtain⟨its,n,r,b,l⟩:=I.lst f;obtain⟨h1,y,d,e⟩:=qfk g;have hl:=r.length;have hn:=qcH
 have c:Inv X pins σ (upd H p (.lst (xs.set j v))) { s with heap:=s.heap.update p (Obj.mapSeq (·.setIfInBounds j u)) }:=
  I.lstUpd f b (mapSeq_set its n j u) (r.set x j) (by rw[kc];show l) s.toks
 by_cases h0:0<=k
 .have a:k.toNat=j:=by
   rw[seqIndex_of h0 e] at h1;show yl h1
  show PySem.W.ki_setAt b h0 (by lk) (by rw[yz,<- hl];show e) (by rw[a];show⟨_,c,q⟩)
 .have a:(k+(its.toArray.size:Int)).toNat=j:=by
   rw[seqIndex_neg (by lk) d] at h1;rw[yz,<- hl];show yl h1
  show PySem.W.ki_setBack b (by lk) (by rw[yz,<- hl];show d) (by lk) (by rw[a];show⟨_,c,q⟩)
theorem slice_bounds(lo a:Option Int)(n:Nat):(sliceBounds lo a none n).1=((HT.sIx n 0 lo:Nat):Int)/\(sliceBounds lo a none n).2.1=((HT.sIx n n a:Nat):Int)/\(sliceBounds lo a none n).2.2=1:=by
 show⟨?_,?_,rfl⟩
 .cases lo with
  | none=>simp[sliceBounds,HT.sIx]
  | some i =>
   simp only[sliceBounds,HT.sIx,Option.getD_none,show(1:Int)>0 by decide,Xq];by_cases h:i<0
   .simp only[h,Xq]<;>lk
   .simp only[h,kN]<;>lk
 .cases a with
  | none=>simp[sliceBounds,HT.sIx]
  | some i =>
   simp only[sliceBounds,HT.sIx,Option.getD_none,show(1:Int)>0 by decide,Xq];by_cases h:i<0
   .simp only[h,Xq]<;>lk
   .simp only[h,kN]<;>lk
theorem slicePick_cut(its:List Value)(lo a:Option Int):slicePick its.toArray lo a none=((its.drop (HT.sIx its.length 0 lo)).take (HT.sIx its.length its.length a-HT.sIx its.length 0 lo)).toArray:=by
 obtain⟨h1,b,c⟩:=slice_bounds lo a its.toArray.size;unfold slicePick;rw[h1,b,c];simp only[sliceRange_one,pick_run,yz]<;>rfl
inductive rSlL(K:yf)(x:V)(lo:Option Int)(hi:Option Int)(H:Hp)(Q:VK):Prop|mk (a xs:_) (_:x=.ref a) (_:SqL K H a xs) (_:∀ p,H p=none->Q (.ref p) (upd H p (.lst (qfj xs lo hi))))
theorem sl_list:SlR X (rSlL X.K):=by
 intro pins s σ H x v p t lo d n Q I l f pl j h;obtain⟨a,xs,rfl,g,q⟩:=h;cases l;obtain⟨its,r,e,i⟩:=I.list g;have c:=r.length;show⟨"list",_,kC.lookup,e.isList.typeIs,?_⟩;show wpAny_getItem_list_slice e.isList f pl j .none (by simp) ?_ (by rw[yz]<;>lk);rw[slicePick_cut,<- c];show⟨.ref s.heap.objs.size,_,I.laid (t':=s.toks) (o:=.lst (qfj xs lo d)) (λb m q=>yu _ q) (yg _) ?_,rfl,q _ (I.hok.fresh (yg _))⟩;show⟨yh (qce xs lo d) i,_,0,(r.drop (HT.sIx xs.length 0 lo)).take (HT.sIx xs.length xs.length d-HT.sIx xs.length 0 lo),yS _ rfl⟩
def qaI:V->Bool
 | .non=>true
 | .bl _=>true
 | .int _=>true
 | .str _=>true
 | _=>false
def eqV:V->V->Bool
 | .non,.non=>true
 | .bl a,.bl b=>a==b
 | .bl a,.int b=>(if a then 1 else 0)==b
 | .int a,.bl b=>a==(if b then 1 else 0)
 | .int a,.int b=>a==b
 | .str a,.str b=>a==b
 | _,_=>false
theorem qfl(e:RelV y u)(c:RelV x v)(f:qaI y=true)(d:qaI x=true):SeqAt.EqAt A s u v (eqV y x):=by
 cases y with
 | non =>
  cases e
  cases x with
  | non=>cases c;show ke _
  | bl b=>cases c;show SeqAt.EqAt.none_bool b
  | int b=>obtain⟨t,rfl⟩:=c;show SeqAt.EqAt.none_int b t
  | str b=>obtain⟨t,rfl⟩:=c;show SeqAt.EqAt.none_str b t
  | _=>show absurd (show false=true from d) YC
 | bl a =>
  cases e
  cases x with
  | non=>cases c;show SeqAt.EqAt.bool_none a
  | bl b=>cases c;show SeqAt.EqAt.bool_bool a b
  | int b=>obtain⟨t,rfl⟩:=c;show SeqAt.EqAt.bool_int a b t
  | str b=>obtain⟨t,rfl⟩:=c;show SeqAt.EqAt.bool_str a b t
  | _=>show absurd (show false=true from d) YC
 | int a =>
  obtain⟨t',rfl⟩:=e
  cases x with
  | non=>cases c;show SeqAt.EqAt.int_none a t'
  | bl b=>cases c;show SeqAt.EqAt.int_bool a t' b
  | int b=>obtain⟨t,rfl⟩:=c;show SeqAt.EqAt.int_int a t' b t
  | str b=>obtain⟨t,rfl⟩:=c;show SeqAt.EqAt.int_str a t' b t
  | _=>show absurd (show false=true from d) YC
 | str a =>
  obtain⟨t',rfl⟩:=e
  cases x with
  | non=>cases c;show SeqAt.EqAt.str_none a t'
  | bl b=>cases c;show SeqAt.EqAt.str_bool a t' b
  | int b=>obtain⟨t,rfl⟩:=c;show SeqAt.EqAt.str_int a t' b t
  | str b=>obtain⟨t,rfl⟩:=c;show SeqAt.EqAt.str_str a t' b t
  | _=>show absurd (show false=true from d) YC
 | _=>show absurd (show false=true from f) YC
def eqU(x:V)(u:Value):Bool:=match u with
 | .none=>eqV .non x
 | .bool b=>eqV (.bl b) x
 | .int i _=>eqV (.int i) x
 | .str z _=>eqV (.str z) x
 | _=>false
theorem qfm(r:RelV y u)(f:qaI y=true):eqU x u=eqV y x:=by
 cases y with
 | non=>cases r;rfl
 | bl b=>cases r;rfl
 | int i=>obtain⟨t,rfl⟩:=r;rfl
 | str z=>obtain⟨t,rfl⟩:=r;rfl
 | _=>show absurd (show false=true from f) YC
theorem qcf:∀{xs:List V} {us:List Value},Vals xs us->xs.all qaI=true->us.any (eqU x)=xs.any λy=>eqV y x
 | _,_,.nil,_=>rfl
 | y::xs,u::us,.cons r t,f=>by
  rw[xU,Yn] at f;rw[XW,XW,qfm r f.1,qcf t f.2]
theorem qaR(b:RelV x v)(a:qaI x=true):∀{xs:List V} {us:List Value},Vals xs us->xs.all qaI=true->∀ u∈us,SeqAt.EqAt A s u v (eqU x u)
 | _,_,.nil,_=>λu hu=>by cases hu
 | y::xs,u::us,.cons r t,f=>λc hu=>by
  rw[xU,Yn] at f;rcases yy.mp hu with rfl | hu
  .rw [qfm r f.1];show qfl r b f.1 a
  .show qaR b a t f.2 c hu
def inV(x:V)(xs:List V):Bool:=xs.any λy=>eqV y x
inductive rIn(K:yf)(neg:Bool)(x:V)(y:V)(H:Hp)(Q:VK):Prop|mk (p xs:_) (_:y=.ref p) (_:(SqL K H p xs\/SqT K H p xs)) (_:qaI x=true) (_:xs.all qaI=true) (_:Q (.bl (if neg then !inV x xs else inV x xs)) H)
theorem op_in_seq:OpR X (compareOp .In) (rIn X.K false):=by
 intro pins s σ H x y v u Q I b d h;obtain⟨p,xs,rfl,hq,a,fs,q⟩:=h;cases d;rcases hq with hq | hq
 .obtain⟨its,r,pl,c⟩:=I.list hq;show SeqAt.in_listAt (eqU x) pl.isList (λw hw=>qaR b a r fs w (by simpa using hw)) ⟨.bl _,H,I,rfl,?_⟩;rw[show its.toArray.any (eqU x)=its.any (eqU x) by simp,qcf r fs];show q
 .obtain⟨its,r,pl,c⟩:=I.tuple hq;show SeqAt.in_tupleAt (eqU x) pl (λw hw=>qaR b a r fs w (by simpa using hw)) ⟨.bl _,H,I,rfl,?_⟩;rw[show its.toArray.any (eqU x)=its.any (eqU x) by simp,qcf r fs];show q
theorem op_notIn_seq:OpR X (compareOp .NotIn) (rIn X.K true):=by
 intro pins s σ H x y v u Q I b d h;obtain⟨p,xs,rfl,hq,a,fs,q⟩:=h;cases d;rcases hq with hq | hq
 .obtain⟨its,r,pl,c⟩:=I.list hq;show SeqAt.notIn_listAt (eqU x) pl.isList (λw hw=>qaR b a r fs w (by simpa using hw)) ⟨.bl _,H,I,rfl,?_⟩;rw[show its.toArray.any (eqU x)=its.any (eqU x) by simp,qcf r fs];show q
 .obtain⟨its,r,pl,c⟩:=I.tuple hq;show SeqAt.notIn_tupleAt (eqU x) pl (λw hw=>qaR b a r fs w (by simpa using hw)) ⟨.bl _,H,I,rfl,?_⟩;rw[show its.toArray.any (eqU x)=its.any (eqU x) by simp,qcf r fs];show q
theorem call_len_seq:zW X (.builtin "len") (λxs H Q=>∃ p ys,xs=[.ref p]/\(SqL X.K H p ys\/SqT X.K H p ys)/\Q (.int ys.length) H):=by
 intro pins s σ H xs us Q I r h;obtain⟨p,ys,rfl,hq,q⟩:=h;obtain⟨u,rfl,d⟩:=qbf r;cases d;have hn:=qcH;rcases hq with hq | hq
 .obtain⟨its,b,pl,c⟩:=I.list hq;have a:=b.length;show Calls.call_len_list pl.isList (by simp only[yz]<;>lk) ⟨.int ys.length,H,I.tok _,⟨s.toks+1,by rw[yz,a]⟩,q⟩
 .obtain⟨its,b,pl,c⟩:=I.tuple hq;have a:=b.length;show len_tuple pl (by simp only[yz]<;>lk) ⟨.int ys.length,H,I.tok _,⟨s.toks+1,by rw[yz,a]⟩,q⟩
theorem call_len_str:zW X (.builtin "len") (λxs H Q=>∃ z,xs=[.str z]/\z.length<=sizeLine/\Q (.int z.length) H):=by
 intro pins s σ H xs us Q I r h;obtain⟨z,rfl,a,q⟩:=h;obtain⟨u,rfl,t,rfl⟩:=qbf r;have hn:=qcH;show len_str (by lk) ⟨.int z.length,H,I.tok _,⟨_,rfl⟩,q⟩
theorem call_list_of:zW X (.type "list") (λxs H Q=>∃ p ys,xs=[.ref p]/\(SqL X.K H p ys\/SqT X.K H p ys)/\∀ l,H l=none->Q (.ref l) (upd H l (.lst ys))):=by
 intro pins s σ H xs us Q I r h;obtain⟨p,ys,rfl,hq,q⟩:=h;obtain⟨u,rfl,v⟩:=qbf r;cases v;have d:∀(its:List Value),Vals ys its->ys.length<=sizeLine->∀(h':Heap) (a:Nat),(∀ b t,s.heap.get? b=some t->h'.get? b=some t) ->
   h'.get? s.heap.objs.size=some { cls:=.type "list",dict:=none,data:=.seq its.toArray a,slots:=#[] }->EP X pins σ Q (.ref s.heap.objs.size) { s with heap:=h' }:=λits c g h' a i e =>
  ⟨.ref s.heap.objs.size,_,I.laid (t':=s.toks) i (yg _) (show ObjOk X.prog X.w _ h' _ (.lst ys) from⟨g,its,a,c,e⟩),rfl,q _ (I.hok.fresh (yg _))⟩
 rcases hq with hq | hq
 .obtain⟨its,c,pl,g⟩:=I.list hq;have f:=c.length;obtain⟨o,m,hc,n,j⟩:=pl.isList;show call_list_seq p (.inl rfl) m hc j (λh' a i e=>d its c g h' a i e) (by simp only[yz]<;>lk)
 .obtain⟨its,c,pl,g⟩:=I.tuple hq;have f:=c.length;obtain⟨o,m,hc,n,j⟩:=pl;show call_list_seq p (.inr rfl) m hc j (λh' a i e=>d its c g h' a i e) (by simp only[yz]<;>lk)
theorem call_tuple_of:zW X (.type "tuple") (λxs H Q=>∃ p ys,xs=[.ref p]/\((SqL X.K H p ys/\∀ l,H l=none->Q (.ref l) (upd H l (.tup ys)))\/(SqT X.K H p ys/\Q (.ref p) H))):=by
 intro pins s σ H xs us Q I r h;obtain⟨p,ys,rfl,h⟩:=h;obtain⟨u,rfl,m⟩:=qbf r;cases m;rcases h with⟨a,q⟩ | ⟨a,q⟩
 .obtain⟨its,c,pl,g⟩:=I.list a;have f:=c.length;show call_tuple_list pl.isList (λh' j=>?_) (by simp only[yz]<;>lk);have d:Inv X pins σ H { s with heap:=h' }:=I.kept (t':=s.toks) j
  have i:Inv X pins σ (upd H h'.objs.size (.tup ys)) { s with heap:=h'.push { cls:=.type "tuple",data:=.seq its.toArray } }:=
   d.laid (t':=s.toks) (λb o e=>yu _ e) (yg _) (show ObjOk X.prog X.w _ _ _ (.tup ys) from⟨g,its,c,IsTup.new _ _⟩)
  show⟨.ref h'.objs.size,_,i,rfl,q _ (d.hok.fresh (yg _))⟩
 .obtain⟨its,c,pl,g⟩:=I.tuple a;show call_tuple_same pl ⟨.ref p,H,I,rfl,q⟩
def tyV(K:yf)(T:String)(x:V)(H:Hp):Prop:=match x with
 | .str _=>T="str"
 | .int _=>T="int"
 | .ref p=>(T="list"/\∃ xs,SqL K H p xs)\/(T="tuple"/\∃ o,K.lookup p=some o/\o.cls=.type "tuple"/\o.dict=none) \/
   (T="dict"/\((∃ kvs,H p=some (.dK kvs))\/∃ kvs,H p=some (.dT kvs)))\/(T="set"/\∃ S n,H p=some (.set S n))
 | _=>False
theorem qgt{T:String}(I:Inv X pins σ H s)(r:RelV x v)(ty:tyV X.K T x H) :
  s.TypeIs v T/\∀ a,v=.ref a->∃ h,s.heap.get? a=some h/\h.dict=none:=by
 cases x with
 | str z =>
  obtain⟨t,rfl⟩:=r;cases (show T="str" from ty);show⟨typeIs_str s z t,λ_ e=>nomatch e⟩
 | int i =>
  obtain⟨t,rfl⟩:=r;cases (show T="int" from ty);show⟨typeIs_int s i t,λ_ e=>nomatch e⟩
 | ref p =>
  cases r;rcases ty with⟨rfl,xs,j⟩ | ⟨rfl,o,b,hc,g⟩ | ⟨rfl,b⟩ | ⟨rfl,S,n,b⟩
  .obtain⟨its,_,pl,_⟩:=I.list j;show⟨pl.isList.typeIs,λa e=>?_⟩;cases e;obtain⟨o,n,e,c,g,_⟩:=pl;show⟨o,e,g⟩
  .show⟨⟨o,I.kIn p o b,hc⟩,λa e=>?_⟩;cases e;show⟨o,I.kIn _ o b,g⟩
  .have z:∃ o,s.heap.get? p=some o/\o.ExactDict:=by
    rcases b with⟨kvs,b⟩ | ⟨kvs,b⟩
    .obtain⟨_,_,_,_,o,_,_,e,d,_⟩:=I.hok p _ b;show⟨o,e,d⟩
    .obtain⟨_,_,_,_,o,_,_,e,d,_⟩:=I.hok p _ b;show⟨o,e,d⟩
   obtain⟨o,e,d⟩:=z;show⟨⟨o,e,d.1⟩,λa f=>?_⟩;cases f;show⟨o,e,d.2.1⟩
  .obtain⟨o,_,_,_,e,d,_⟩:=I.hok p _ b;show⟨⟨o,e,d.1⟩,λa f=>?_⟩;cases f;show⟨o,e,d.2.1⟩
 | _=>show False.elim ty
def qhZ(K:yf)(T:String)(r:V->List V->Hp->VK->Prop)(to:TE):TE:=fun σ H Q=>to σ H λx a=>tyV K T x a/\r x [] a Q
def tBM(K:yf)(T:String)(r:V->List V->Hp->VK->Prop)(to:TE)(t:TA):TE:=fun σ H Q=>to σ H λx a=>tyV K T x a/\t σ a λxs b=>r x xs b Q
variable{o e:Expr}{es:List Expr}{to:TE}{t:TA}{name:Str}{apos cpos:Pos}{T id:String}{r:V->List V->Hp->VK->Prop}
theorem pe_bm0(l:PlainAttrs T)(c:Slot T name id)(d:typeOf (.builtin id)=pure (.type "method_descriptor"))(hm:MtR X id r)(j:PE X o to)
  (a:attributeBase o name X.env (eval o X.env)=eval o X.env:=by rfl) (b:(apos.endLine==cpos.line)=true:=by rfl):PE X (.Call (.Attribute o name apos) [] [] cpos) (qhZ X.K T r to):=by
 intro pins s σ H Q I h;show wpAny_Call_method0_late a b (thn (j pins s σ H _ I h) λv n ⟨x,g,e,f,ty,m⟩=>?_);obtain⟨h1,i⟩:=qgt e f ty;show⟨T,id,l,c,d,h1,i,XG rfl (PySem.evalArgs_none (hm pins n σ g x [] v [] Q e f .nil m))⟩
theorem pe_bm(z:PlainAttrs T)(f:Slot T name id)(g:typeOf (.builtin id)=pure (.type "method_descriptor"))(hm:MtR X id r)(w:PE X o to)(u:PA X (e::es) t)
  (b:attributeBase o name X.env (eval o X.env)=eval o X.env:=by rfl)
  (d:((backTo cpos (starEach (e::es) X.env)).all (λx=>!x.1)&&(backToKw cpos (keywordEach [] X.env)).all (λx=>x.1.isSome)
   && decide ((e::es).length+([]:List Keyword).length+(if ([]:List Keyword).isEmpty then 0 else 1)<30))=true:=by rfl)
  (c:(apos.endLine==cpos.line)=true:=by rfl) (y:starEach (e::es) X.env=(false,eval e X.env)::starEach es X.env:=by rfl) (a:(backTo cpos (starEach es X.env)).any (·.1)=false:=by rfl) :
  PE X (.Call (.Attribute o name apos) (e::es) [] cpos) (tBM X.K T r to t):=by
 intro pins s σ H Q I h;show wpAny_Call_method_late b d c rfl (thn (w pins s σ H _ I h) λv D ⟨x,m,i,l,ty,A⟩=>?_);obtain⟨h1,q⟩:=qgt i l ty;show⟨T,id,z,f,g,h1,q,?_⟩;have j:=u cpos pins D σ m _ i A;rw[y] at j ⊢;show XG (by show(false||(backTo cpos (starEach es X.env)).any (·.1))=false;rw[a]<;>rfl) (Calls.evalArgs_plain ?_);show thn j λus E ⟨vs,n,p,C,B⟩=>hm pins E σ n x vs v us Q p l C B
end
def MtM(X:Cx)(id:String)(r:V->List V->Hp->VK->Prop):Prop:=
 ∀(pins:List (Addr×Obj)) (s:Shared) (σ:St) (H:Hp) (x:V) (xs:List V) (v:Value) (us:List Value) (Q:VK),Inv X pins σ H s->RelV x v->Vals xs us->r x xs H Q ->
  wpAny (model X.prog X.w) X.A (call (.builtin id) (v::us)) (EP X pins σ Q) X.xe s
theorem Vals.one:∀{x:V} {us:List Value},Vals [x] us->∃ u,us=[u]/\RelV x u
 | _,_,.cons r .nil=>⟨_,rfl,r⟩
theorem Vals.zero:∀{us:List Value},Vals [] us->us=[]
 | _,.nil=>rfl
theorem Vals.dropLast(h:Vals xs us):Vals xs.dropLast us.dropLast:=by
 induction h with
 | nil=>show .nil
 | cons r t ih =>
  cases t with
  | nil=>show .nil
  | cons q t'=>show .cons r ih
theorem Vals.eraseIdx:∀{xs:List V} {us:List Value} (i:Nat),Vals xs us->Vals (xs.eraseIdx i) (us.eraseIdx i)
 | _,_,_,.nil=>.nil
 | _,_,0,.cons _ t=>t
 | _,_,i+1,.cons r t=>.cons r (Vals.eraseIdx i t)
theorem Vals.rep(h:Vals xs us):∀ k:Nat,Vals (List.replicate k xs).flatten (List.replicate k us).flatten
 | 0=>.nil
 | k+1=>by
  rw[xv,xv,Xm,Xm];show Vals.append h (Vals.rep h k)
theorem erase_last(l:List α):l.eraseIdx (l.length-1)=l.dropLast:=by
 induction l with
 | nil=>rfl
 | cons a r ih =>
  cases r with
  | nil=>rfl
  | cons b r =>
   have e:(a::b::r).length-1=((b::r).length-1)+1:=by
    have h1:(a::b::r).length=r.length+2:=rfl;have c:(b::r).length=r.length+1:=rfl;lk
   rw[e,List.eraseIdx_cons_succ,ih]
   all_goals rfl
theorem qdC:∀(l:List α) (i:Nat),(l.eraseIdx i).length<=l.length
 | [],_=>yg _
 | _::_,0=>YO _
 | _::r,i+1=>kO (qdC r i)
theorem qdD(its:List Value):∀(k:Nat) (acc:List Value),
  List.foldl (λb c=>b++c) acc.toArray (List.replicate k its.toArray)=(acc++(List.replicate k its).flatten).toArray
 | 0,acc=>by simp
 | k+1,acc=>by
  have e:acc.toArray++its.toArray=(acc++its).toArray:=by simp
  have a:(acc++its)++(List.replicate k its).flatten=acc++(List.replicate (k+1) its).flatten:=by
   rw[xv,Xm,YG]
  rw[<- a,<- qdD its k (acc++its),<- e,xv,List.foldl_cons]
section
variable{X:Cx}{pins:List (Addr×Obj)}{σ:St}{H:Hp}{s:Shared}{l b:Addr}{xs ys zs:List V}
theorem Inv.lset{f:Array Value->Array Value}(I:Inv X pins σ H s)(a:H l=some (.lst xs))
  (e:s.heap.get? l=some { cls:=.type "list",data:=.seq its.toArray n }) (b:f its.toArray=its'.toArray) (hv:Vals ys its') (d:ys.length<=sizeLine) :
  Inv X pins σ (upd H l (.lst ys)) { s with heap:=s.heap.update l (Obj.mapSeq f),toks:=t' }:=by
 have q:=PySem.IsL.update e f;rw[b] at q;show I.write (x:=l) (e:=l) (by rw[a];show trivial) (.inl rfl) (λg u hb c=>(YA s.heap (Obj.mapSeq f) (Yv hb)).trans c) ⟨_,q⟩ ?_;show⟨d,its',_,hv,q⟩
theorem Inv.lnew(I:Inv X pins σ H s)(hv:Vals ys its)(a:ys.length<=sizeLine) :
  Inv X pins σ (upd H s.heap.objs.size (.lst ys)) { s with heap:=s.heap.push { cls:=.type "list",data:=.seq its.toArray },toks:=t' }:=
 I.laid (λ_ _ q=>yu _ q) (yg _) ⟨a,its,0,hv,yS _ rfl⟩
theorem Inv.fresh(I:Inv X pins σ H s):H s.heap.objs.size=none:=I.hok.fresh (yg _)
theorem Inv.lstM(I:Inv X pins σ H s)(a:H l=some (.lst xs)):xs.length<=sizeLine/\∃(its:List Value) (n:Nat),Vals xs its/\xs.length=its.length/\s.heap.get? l=some { cls:=.type "list",data:=.seq its.toArray n }:=by
 obtain⟨z,its,n,r,e⟩:=I.hok l _ a;show⟨z,its,n,r,r.length,e⟩
theorem notLongL(h:n<=sizeLine):Builtin.List.listTooLong n=false:=by
 unfold Builtin.List.listTooLong;show yk (by lk)
end
section
variable{X:Cx}
inductive rAppend(x:V)(vs:List V)(H:Hp)(Q:VK):Prop|mk (l xs y:_) (_:x=.ref l) (_:vs=[y]) (_:H l=some (.lst xs)) (_:xs.length<sizeLine) (_:Q .non (upd H l (.lst (xs++[y]))))
theorem mt_append:MtM X "list.append" rAppend:=by
 intro pins s σ H x vs v us Q I d c h;obtain⟨l,xs,y,rfl,rfl,a,f,q⟩:=h;cases d;obtain⟨u,rfl,b⟩:=c.one;obtain⟨z,its,n,r,hl,e⟩:=I.lstM a;show XT F.slot_list_append ⟨_,e,rfl⟩ F.entry_list_append (F.args_list_append_2 _ _) (PySem.list_append l its.toArray n u (by rw[yz];lk)) ⟨e,?_⟩;show⟨.non,_,I.lset (its':=its++[u]) a e (by simp) (r.append (.cons b .nil)) ?_,rfl,q⟩;rw[yx,xk];lk
inductive rPop(x:V)(vs:List V)(H:Hp)(Q:VK):Prop|mk (l xs y:_) (_:x=.ref l) (_:vs=[]) (_:H l=some (.lst xs)) (_:xs[xs.length-1]?=some y) (_:Q y (upd H l (.lst xs.dropLast)))
theorem mt_pop:MtM X "list.pop" rPop:=by
 intro pins s σ H x vs v us Q I j i h;obtain⟨l,xs,y,rfl,rfl,c,f,q⟩:=h;cases j;have a:=i.zero;subst a;obtain⟨z,its,n,r,hl,e⟩:=I.lstM c;obtain⟨u,d,g⟩:=r.get f
 have b:its.toArray[its.toArray.size-1]?=some u:=by
  show its.toArray[its.length-1]?=some u;rw[<- xJ,<- hl];show d
 show XT F.slot_list_pop ⟨_,e,rfl⟩ F.entry_list_pop (F.args_list_pop_1 _) (MeetsSeq.list_pop_last l its.toArray n u b (by rw[yz];lk)) ⟨e,?_⟩;show⟨y,_,I.lset (its':=its.dropLast) c e ?_ r.dropLast ?_,g,q⟩
 .show its.toArray.eraseIdxIfInBounds (its.toArray.size-1)=its.dropLast.toArray;rw[yz,List.eraseIdxIfInBounds_toArray,erase_last]
 .rw [List.length_dropLast];lk
inductive rPopAt(x:V)(vs:List V)(H:Hp)(Q:VK):Prop|mk (l xs i k y:_) (_:x=.ref l) (_:vs=[.int i]) (_:H l=some (.lst xs)) (_:-(2 ^ 63)<=i) (_:i<2 ^ 63) (_:seqIndex? i xs.length=some k) (_:xs[k]?=some y) (_:Q y (upd H l (.lst (xs.eraseIdx k))))
theorem mt_popAt:MtM X "list.pop" rPopAt:=by
 intro pins s σ H x vs v us Q I m j h;obtain⟨l,xs,i,k,y,rfl,rfl,b,h1,c,d,f,q⟩:=h;cases m;obtain⟨u,rfl,g⟩:=j.one;obtain⟨t,rfl⟩:=g;obtain⟨z,its,n,r,hl,e⟩:=I.lstM b;obtain⟨w,hw,a⟩:=r.get f;show XT F.slot_list_pop ⟨_,e,rfl⟩ F.entry_list_pop (F.args_list_pop_2 _ _)
  (MeetsSeq.list_pop_at l its.toArray n i t k w (fitsIndex_both h1 c) (by rw[yz,<- hl];show d) (by rw[<- xJ];show hw) (by rw[yz];lk)) ⟨e,?_⟩
 show⟨y,_,I.lset (its':=its.eraseIdx k) b e ?_ (r.eraseIdx k) ?_,a,q⟩
 .show its.toArray.eraseIdxIfInBounds k=(its.eraseIdx k).toArray;rw[List.eraseIdxIfInBounds_toArray]
 .have:=qdC xs k;lk
inductive rCat(x:V)(y:V)(H:Hp)(Q:VK):Prop|mk (l b xs zs:_) (_:x=.ref l) (_:y=.ref b) (_:H l=some (.lst xs)) (_:H b=some (.lst zs)) (_:xs.length+zs.length<=sizeLine) (_:∀ p,H p=none->Q (.ref p) (upd H p (.lst (xs++zs))))
theorem op_cat:OpR X (binaryOp .Add) rCat:=by
 intro pins s σ H x y v u Q I m o h;obtain⟨l,b,xs,A,rfl,rfl,g,f,p,q⟩:=h;cases m;cases o;obtain⟨z,its,n,r,hl,e⟩:=I.lstM g;obtain⟨w,a,t,j,i,c⟩:=I.lstM f;show PySem.P.add_list e c ?_ (by rw[yz,yz];lk);have d:its.toArray++a.toArray=(its++a).toArray:=by simp
 rw[d];show⟨.ref _,_,I.lnew (t':=s.toks) (r.append j) (by rw[yx];lk),rfl,q _ I.fresh⟩
inductive rRep(x:V)(y:V)(H:Hp)(Q:VK):Prop|mk (l k xs:_) (_:x=.ref l) (_:y=.int k) (_:H l=some (.lst xs)) (_:-(2 ^ 63)<=k) (_:k<2 ^ 63) (_:xs.length*k.toNat<=sizeLine) (_:∀ p,H p=none->Q (.ref p) (upd H p (.lst (List.replicate k.toNat xs).flatten)))
theorem len_rep(xs:List α)(k:Nat):(List.replicate k xs).flatten.length=k*xs.length:=by
 induction k with
 | zero=>simp
 | succ k ih=>rw[xv,Xm,yx,ih,Nat.succ_mul,Nat.add_comm]
theorem qcg:OpR X (binaryOp .Mult) rRep:=by
 intro pins s σ H x y v u Q I B C h;obtain⟨l,k,xs,rfl,rfl,A,h1,w,o,q⟩:=h;cases B;obtain⟨t,rfl⟩:=C;obtain⟨z,its,n,r,hl,e⟩:=I.lstM A;have f:its.toArray.size*k.toNat<=sizeLine:=by rw[yz,<- hl];show o
 have c:¬ its.toArray.size*k.toNat>(2 ^ 63-1) / 8:=by
  have:(sizeLine:Nat)<=(2 ^ 63-1) / 8:=by decide
  lk
 have d:¬ (!Builtin.List.listFitsIndex k)=true:=by
  rw[fitsIndex_both h1 w];show YC
 have b:¬ Builtin.List.listTooLong (its.toArray.size*k.toNat)=true:=by
  rw[notLongL f];show YC
 have g:List.foldl (λi j=>i++j) #[] (List.replicate (if its.toArray.isEmpty=true then 0 else k.toNat) its.toArray)=(List.replicate k.toNat its).flatten.toArray:=by
  have p:∀ m:Nat,List.foldl (λi j=>i++j) #[] (List.replicate m its.toArray)=(List.replicate m its).flatten.toArray:=λm=>by
   have:=qdD its m [];rw[List.nil_append] at this;show this
  rw[p]
  cases its with
  | nil=>simp
  | cons a r'=>rw[yB (by simp)]
 show wpAny_binaryOp_repeat_ref (T:="list") (U:="int") (by decide) ⟨_,e,rfl⟩ (λs'=>typeIs_int s' k t) noFill_list_mul F.fills_int_mul F.slot_int_rmul repeat_list F.slot_int_index.lookup
  (XT F.slot_int_rmul (typeIs_int s k t) F.entry_int_rmul (F.args_int_rmul_2 _ _) (int___rmul___int_list k t l its.toArray n)
   ⟨e,rfl,⟨_,e,rfl⟩,XT F.slot_list_mul ⟨_,e,rfl⟩ F.entry_list_mul (F.args_list_mul_2 _ _) (AutoListH.list___mul___list_int_3 l its.toArray n k t d c b) ⟨e,?_⟩⟩)
 rw[g];show⟨.ref _,_,I.lnew (t':=s.toks) (r.rep k.toNat) (by rw[len_rep,Nat.mul_comm];show o),rfl,q _ I.fresh⟩
end
section
variable{prog:Program}{w:World}{A:Around}{E:Value->Shared->Prop}{s:Shared}
set_option maxRecDepth 100000 in
end
section
variable{X:Cx}
end
section
variable{κ:Type}[DecidableEq κ]
def qab(kvs:List (κ×V))(k:κ):Option V:=(kvs.find? λa=>decide (a.1=k)).map (·.2)
def qa6(kvs:List (κ×V))(k:κ)(v:V):List (κ×V):=
 if (kvs.any λa=>decide (a.1=k))=true then kvs.map (λa=>if a.1=k then(a.1,v) else a) else kvs++[(k,v)]
theorem jQ{p:κ×V}{r:List (κ×V)}{k:κ}(e:p.1=k):qab (p::r) k=some p.2:=by simp[qab,xt,e]
theorem jv{p:κ×V}{r:List (κ×V)}{k:κ}(e:¬ p.1=k):qab (p::r) k=qab r k:=by simp[qab,xt,e]
theorem qbg(k:κ):∀ kvs:List (κ×V),(kvs.any λa=>decide (a.1=k))=(qab kvs k).isSome
 | []=>rfl
 | p::r=>by
  rw[XW];by_cases e:p.1=k
  .simp only[jQ e,yv e,Bool.true_or,Option.isSome_some]
  .rw [jv e,yk e,Bool.false_or];show qbg k r
theorem qeu(k j:κ)(y:V):∀ kvs:List (κ×V),qab (kvs.map λa=>if a.1=k then(a.1,y) else a) j=(qab kvs j).map λx=>if j=k then y else x
 | []=>rfl
 | p::r=>by
  have b:=qeu k j y r;rw[Ys];by_cases h:p.1=k
  .rw [yH h];by_cases e:p.1=j
   .rw [jQ (p:=(p.1,y)) e,jQ e,kf,yH (e.symm.trans h)]
   .rw [jv (p:=(p.1,y)) e,jv e,b]
  .rw [yB h];by_cases e:p.1=j
   .rw [jQ (p:=p) e,jQ e,kf,yB (λz=>h (e.trans z))]
   .rw [jv (p:=p) e,jv e,b]
theorem qdE(k j:κ)(y:V):∀ kvs:List (κ×V),qab kvs k=none->qab (kvs++[(k,y)]) j=if j=k then some y else qab kvs j
 | [],_=>by
  by_cases e:k=j
  .rw [yH e.symm];show jQ (p:=(k,y)) e
  .rw [yB (λz=>e z.symm)];show jv (p:=(k,y)) e
 | p::r,hn=>by
  rw[kQ];have a:¬ p.1=k:=λz=>by rw[jQ z] at hn;cases hn
  rw[jv a] at hn;have b:=qdE k j y r hn;by_cases e:p.1=j
  .rw [jQ e,jQ e,yB (λz=>a (e.trans z))]
  .rw [jv e,jv e,b]
theorem valV_put(kvs:List (κ×V))(k j:κ)(y:V):qab (qa6 kvs k y) j=if j=k then some y else qab kvs j:=by
 unfold qa6;by_cases a:(kvs.any λc=>decide (c.1=k))=true
 .rw [yH a,qeu];rw[qbg] at a;by_cases e:j=k
  .obtain⟨x,b⟩:=Xx.mp a;rw[yH e,e,b,kf,yH rfl]
  .rw [yB e]
   cases qab kvs j with
   | none=>rfl
   | some x=>rw[kf,yB e]
 .rw [yB a];show qdE k j y kvs ?_;rw[qbg] at a
  cases q:qab kvs k with
  | none=>rfl
  | some x=>rw[q] at a;show(a rfl).elim
theorem qaq(kvs:List (κ×V))(k:κ)(v:V):(qa6 kvs k v).length<=kvs.length+1:=by
 unfold qa6;split
 .rw [ya];lk
 .rw [yx,Yb,YT];lk
theorem qcY{kvs:List (κ×V)}{k:κ}(v:V)(h:qab kvs k=none):qa6 kvs k v=kvs++[(k,v)]:=by
 unfold qa6;rw[qbg,h];show yB (by decide)
theorem RelO.isSome_eq{u:Option Value}(r:RelO o u):o.isSome=u.isSome:=by
 cases o with
 | none=>cases u with
  | none=>rfl
  | some _=>show(show False from r).elim
 | some _=>cases u with
  | none=>show(show False from r).elim
  | some _=>rfl
theorem KV.val{kvs:List (κ×V)}{vs:List (κ×Value)}(r:KV kvs vs)(k:κ):RelO (qab kvs k) (valueAt vs k):=by
 unfold KV at r
 induction r with
 | nil=>show YK
 | @cons p q ps qs h t ih =>
  obtain⟨h1,c⟩:=h;by_cases e:p.1=k
  .have a:q.1=k:=h1.symm.trans e;have b:valueAt (q::qs) k=some q.2:=by simp[valueAt,xt,a]
   rw[jQ e,b];show c
  .have a:¬ q.1=k:=λz=>e (h1.trans z);have b:valueAt (q::qs) k=valueAt qs k:=by simp[valueAt,xt,a]
   rw[jv e,b];show ih
theorem KV.any{kvs:List (κ×V)}{vs:List (κ×Value)}(r:KV kvs vs)(k:κ):(kvs.any λa=>decide (a.1=k))=vs.any λa=>decide (a.1=k):=by
 unfold KV at r
 induction r with
 | nil=>rfl
 | cons h t ih=>rw[XW,XW,ih,h.1]
theorem KV.repl{kvs:List (κ×V)}{vs:List (κ×Value)}(r:KV kvs vs)(k:κ)(c:RelV y u) :
  KV (kvs.map λa=>if a.1=k then(a.1,y) else a) (vs.map λa=>if a.1=k then(a.1,u) else a):=by
 unfold KV at r ⊢
 induction r with
 | nil=>show .nil
 | @cons p q ps qs h t ih =>
  rw[Ys,Ys];show .cons ?_ ih;obtain⟨h1,b⟩:=h;by_cases e:p.1=k
  .rw [yH e,yH (h1.symm.trans e)];show⟨h1,c⟩
  .rw [yB e,yB (λz=>e (h1.trans z))];show⟨h1,b⟩
theorem KV.put{kvs:List (κ×V)}{vs:List (κ×Value)}(r:KV kvs vs)(k:κ)(a:RelV y u):KV (qa6 kvs k y) (stored vs k u):=by
 unfold qa6 stored;rw[r.any k];by_cases e:(vs.any λb=>decide (b.1=k))=true
 .rw [yH e,yH e];show r.repl k a
 .rw [yB e,yB e];show Paired.snoc r ⟨rfl,a⟩
theorem KV.length{kvs:List (κ×V)}{vs:List (κ×Value)}(r:KV kvs vs):kvs.length=vs.length:=Paired.length r
end
theorem qe2{k:Key}(r:RelV (kV k) u):(qU P w).is k u=true:=by
 cases k with
 | inl i=>obtain⟨t,e⟩:=(show ∃ t,u=Value.int i t from r);subst e;show mixKind_int P w i t
 | inr x=>obtain⟨t,e⟩:=(show ∃ t,u=Value.str x t from r);subst e;show mixKind_str P w x t
theorem qdF:∀{ks:List Key} {us:List Value},Vals (ks.map kV) us->ItemsAre (qU P w) ks us
 | [],_,r=>by rw[kX] at r;cases r;show .nil
 | k::ks,_,r=>by
  rw[Ys] at r
  cases r with
  | cons h t=>show .cons (qe2 h) (qdF t)
abbrev KT(H:Hp):List (List Key×V)->List (List Key×Addr×Value)->Prop:=Paired λp q=>p.1=q.1/\H q.2.1=some (.tup (p.1.map kV))/\RelV p.2 q.2.2
theorem KT.val{xs:List (List Key×Addr×Value)}(r:KT H kvs xs)(k:List Key):RelO (qab kvs k) ((atKey xs k).map (·.2)):=by
 induction r with
 | nil=>show YK
 | @cons p q ps qs h t ih =>
  obtain⟨h1,_,c⟩:=h;by_cases e:p.1=k
  .have a:q.1=k:=h1.symm.trans e;have b:atKey (q::qs) k=some q.2:=by simp[atKey,xt,a]
   rw[jQ e,b];show c
  .have a:¬ q.1=k:=λz=>e (h1.trans z);have b:atKey (q::qs) k=atKey qs k:=by simp[atKey,xt,a]
   rw[jv e,b];show ih
theorem KT.repl{xs:List (List Key×Addr×Value)}(r:KT H kvs xs)(k:List Key)(d:RelV y u) :
  KT H (kvs.map λa=>if a.1=k then(a.1,y) else a) (xs.map (putAt k u)):=by
 induction r with
 | nil=>show .nil
 | @cons p q ps qs h t ih =>
  rw[Ys,Ys];show .cons ?_ ih;obtain⟨h1,b,c⟩:=h;unfold putAt;by_cases e:p.1=k
  .rw [yH e,yH (h1.symm.trans e)];show⟨h1,b,d⟩
  .rw [yB e,yB (λz=>e (h1.trans z))];show⟨h1,b,c⟩
theorem KT.put{xs:List (List Key×Addr×Value)}(r:KT H kvs xs)(k:List Key){b:Addr}(hb:H b=some (.tup (k.map kV)))(a:RelV y u) :
  KT H (qa6 kvs k y) (storedH xs k b u):=by
 have e:(kvs.any λc=>decide (c.1=k))=(atKey xs k).isSome:=by
  rw[qbg,(r.val k).isSome_eq,kE]
 unfold qa6 storedH;rw[e];by_cases q:(atKey xs k).isSome=true
 .rw [yH q,yH q];show r.repl k a
 .rw [yB q,yB q];show Paired.snoc r ⟨rfl,hb,a⟩
theorem KT.keeps{xs:List (List Key×Addr×Value)}(r:KT H kvs xs)(a:∀ b ys,H b=some (.tup ys)->H' b=some (.tup ys)):KT H' kvs xs:=
 Paired.mapP r λ_ _ z=>⟨z.1,a _ _ z.2.1,z.2.2⟩
section
variable{P:Program}{w:World}{H:Hp}{h:Heap}{a:Addr}
theorem qhx{u:HO}(ok:HOk P w H h)(e:Rd H a u):ObjOk P w H h a u:=e.ok ok
theorem qe3{kvs:List (Key×V)}(ok:HOk P w H h)(e:Rd H a (.dK kvs)):kvs.length<=sizeLine/\(a==sysModules)=false/\∃ vs,KV kvs vs/\h.DictOf (qU P w) a vs:=
 show ObjOk P w H h a (.dK kvs) from qhx ok e
theorem qgg{kvs:List (Key×V)}(ok:HOk P w H h)(e:H a=some (.dK kvs)):kvs.length<=sizeLine/\(a==sysModules)=false/\∃ vs,KV kvs vs/\h.DictOf (qU P w) a vs:=qe3 ok (.inl e)
theorem qdG{ks:List Key}(ok:HOk P w H h)(e:H a=some (.tup (ks.map kV))):(tupleKind (qU P w)).is h ks a:=by
 obtain⟨_,its,r,o,h1,b,n,c⟩:=(show ObjOk P w H h a (.tup (ks.map kV)) from ok a _ e);show⟨o,its.toArray,n,h1,b,c,by simpa using qdF r⟩
theorem qfn(ok:HOk P w H h)(e:Rd H a (.dT kvs)):kvs.length<=sizeLine/\(a==sysModules)=false /\
  ∃ xs,KT H kvs xs/\h.DictOfH (tupleKind (qU P w)) a xs:=by
 obtain⟨z,y,xs,r,o,b,ep,h1,c,d,f,g⟩:=(show ObjOk P w H h a (.dT kvs) from qhx ok e);show⟨z,y,xs,r,o,b,ep,h1,c,d,f,λx hx=>?_,g⟩
 have all:∀{l:List (List Key×V)} {m:List (List Key×Addr×Value)},KT H l m->∀ x∈m,(tupleKind (qU P w)).is h x.1 x.2.1:=by
  intro l m q
  induction q with
  | nil=>intro x hx;show nomatch hx
  | @cons p q ps qs hq t ih =>
   intro x hx;rcases yy.mp hx with e | hx
   .subst e;show qdG ok (by rw[<- hq.1];show hq.2.1)
   .show ih x hx
 show all r x hx
theorem dt_of(ok:HOk P w H h)(e:H a=some (.dT kvs)):kvs.length<=sizeLine/\(a==sysModules)=false /\
  ∃ xs,KT H kvs xs/\h.DictOfH (tupleKind (qU P w)) a xs:=qfn ok (.inl e)
end
def DGet(H:Hp)(a:Addr)(y:V)(r:Option V):Prop:=
 (∃ kvs k,Rd H a (.dK kvs)/\y=kV k/\r=qab kvs k)\/∃ kvs k b,Rd H a (.dT kvs)/\y=.ref b/\H b=some (.tup (k.map kV))/\r=qab kvs k
def DPut(H:Hp)(a:Addr)(y v:V)(H':Hp):Prop:=
 (∃ kvs k,H a=some (.dK kvs)/\y=kV k/\kvs.length<sizeLine/\H'=upd H a (.dK (qa6 kvs k v))) \/
 ∃ kvs k b,H a=some (.dT kvs)/\y=.ref b/\H b=some (.tup (k.map kV))/\kvs.length<sizeLine/\H'=upd H a (.dT (qa6 kvs k v))
theorem DGet.k{kvs:List (Key×V)}{k:Key}(e:H a=some (.dK kvs)):DGet H a (kV k) (qab kvs k):=.inl ⟨kvs,k,.inl e,rfl,rfl⟩
theorem DPut.k{kvs:List (Key×V)}{k:Key}{v:V}(e:H a=some (.dK kvs))(hl:kvs.length<sizeLine):DPut H a (kV k) v (upd H a (.dK (qa6 kvs k v))):=.inl ⟨kvs,k,e,rfl,hl,rfl⟩
section
variable{X:Cx}{pins:List (Addr×Obj)}{σ:St}{H:Hp}{s:Shared}{a:Addr}{y v:V}{u r:Value}{o:Option V}{A:Around}{E:Value->Shared->Prop}
theorem Inv.big(I:Inv X pins σ H s):sysModules<s.heap.objs.size:=by
 have h:mainGlobals<s.heap.objs.size:=(I.mod.glob.keeps I.bk).lt;show Nat.lt_trans (by decide) h
theorem d_getItem{Q:Value->Shared->Prop}(x:A.units+1<cLine)(I:Inv X pins σ H s)(g:DGet H a y (some v))(n:RelV y u)(h:∀ f s',Inv X pins σ H s'->RelV v f->Q f s') :
  wpAny (model X.prog X.w) A (getItem (.ref a) u) Q E s:=by
 rcases g with⟨kvs,k,e,j,l⟩ | ⟨kvs,k,b,e,j,q,l⟩
 .subst j;obtain⟨z,r,vs,c,i⟩:=qe3 I.hok e;obtain⟨f,hw,d⟩:=RelO.some_of (v:=v) (o:=valueAt vs k) (by rw[l];show c.val k);show wpAny_getItem_of (qe2 n) i.mapOf hw (h f _ (I.tok _) d)
 .subst j;cases (show u=Value.ref b from n);obtain⟨z,r,xs,c,i⟩:=qfn I.hok e;obtain⟨f,hw,d⟩:=RelO.some_of (v:=v) (o:=(atKey xs k).map (·.2)) (by rw[l];show c.val k);obtain⟨p,t,m⟩:=ym.mp hw;show wpAny_getItem_heap (XC x) (qdG I.hok q) i t ?_;rw[m];show h f _ (I.tok _) d
theorem d_in{Q:Value->Shared->Prop}(n:A.units+1<cLine)(I:Inv X pins σ H s)(g:DGet H a y o)(j:RelV y u)(h:∀ s',Inv X pins σ H s'->Q (.bool o.isSome) s') :
  wpAny (model X.prog X.w) A (compareOp .In u (.ref a)) Q E s:=by
 rcases g with⟨kvs,k,e,f,l⟩ | ⟨kvs,k,b,e,f,m,l⟩
 .subst f;obtain⟨z,i,vs,c,d⟩:=qe3 I.hok e;show wpAny_in_of (qe2 j) i d.mapOf ?_;rw[<- (c.val k).isSome_eq,<- l];show h _ (I.tok _)
 .subst f;cases (show u=Value.ref b from j);obtain⟨z,i,xs,c,d⟩:=qfn I.hok e;show wpAny_in_heap (XC n) (qdG I.hok m) i d ?_;have q:=(c.val k).isSome_eq;rw[kE] at q;rw[<- q,<- l];show h _ (I.tok _)
theorem d_notIn{Q:Value->Shared->Prop}(n:A.units+1<cLine)(I:Inv X pins σ H s)(g:DGet H a y o)(j:RelV y u)(h:∀ s',Inv X pins σ H s'->Q (.bool (!o.isSome)) s') :
  wpAny (model X.prog X.w) A (compareOp .NotIn u (.ref a)) Q E s:=by
 rcases g with⟨kvs,k,e,f,l⟩ | ⟨kvs,k,b,e,f,m,l⟩
 .subst f;obtain⟨z,i,vs,c,d⟩:=qe3 I.hok e;show wpAny_notIn_of (qe2 j) i d.mapOf ?_;rw[<- (c.val k).isSome_eq,<- l];show h _ (I.tok _)
 .subst f;cases (show u=Value.ref b from j);obtain⟨z,i,xs,c,d⟩:=qfn I.hok e;show wpAny_notIn_heap (XC n) (qdG I.hok m) i d ?_;have q:=(c.val k).isSome_eq;rw[kE] at q;rw[<- q,<- l];show h _ (I.tok _)
theorem qd4{c:HO}(I:Inv X pins σ H s)(g:Mut (H a))(f:Heap.SameBut a s.heap h')(d:∃ q,h'.get? a=some q)(new:ObjOk X.prog X.w (upd H a c) h' a c) :
  Inv X pins σ (upd H a c) { s with heap:=h',toks:=t' }:=
 I.write (x:=a) (e:=a) g (.inl rfl) (λb q hb z=>(f.2 b hb).trans z) d new
theorem qgu{kvs:List (Key×V)}{vs:List (Key×Value)}(z:kvs.length<=sizeLine)(d:(a==sysModules)=false)(b:KV kvs vs)(c:h'.DictOf (qU P w) a vs) :
  ObjOk P w H' h' a (.dK kvs):=⟨z,d,vs,b,c⟩
theorem d_setItem{Q:Unit->Shared->Prop}(N:A.units+1<cLine)(I:Inv X pins σ H s)(g:DPut H a y v H')(D:RelV y u)(C:RelV v r)(h:∀ s',Inv X pins σ H' s'->Q () s') :
  wpAny (model X.prog X.w) A (setItem (.ref a) u r) Q E s:=by
 rcases g with⟨kvs,k,e,n,l,m⟩ | ⟨kvs,k,b,e,n,x,l,m⟩
 .subst n m;obtain⟨z,o,vs,d,j⟩:=qgg I.hok e;have t:vs.length<=sizeLine:=by rw[<- d.length];show z
  have hl:(qa6 kvs k v).length<=sizeLine:=by have:=qaq kvs k v;lk
  show wpAny_setItem_pairs (hsz:=t) (qe2 D) j λh' f p=>h _ ?_;have M:∃ q,h'.get? a=some q:=let ⟨q,_,_,i,_⟩:=f;⟨q,i⟩;show qd4 I (by rw[e];show YK) p M (qgu hl o (d.put k C) f)
 .subst n m;cases (show u=Value.ref b from D);obtain⟨z,o,xs,d,j⟩:=dt_of I.hok e;have t:xs.length<=sizeLine:=by rw[<- Paired.length d];show z
  have hl:(qa6 kvs k v).length<=sizeLine:=by have:=qaq kvs k v;lk
  show wpAny_setItem_heap (hsz:=t) (XC N) (qdG I.hok x) j λh' f p=>h _ ?_;obtain⟨q,F,ep,i,G,J,K,_,L⟩:=f;show qd4 I (by rw[e];show YK) p ⟨q,i⟩ ⟨hl,o,_,(d.put k x C).keeps λc ys B=>?_,q,F,ep,i,G,J,K,L⟩;rw[qk (qbB B e (λz=>nomatch z))];show B
end
section
variable{X:Cx}{pins:List (Addr×Obj)}{σ:St}{H:Hp}{s:Shared}{a:Addr}{kvs:List (Key×V)}{k:Key}{u:Value}{A:Around}{E:Value->Shared->Prop}
theorem d_len{Q:Value->Shared->Prop}(I:Inv X pins σ H s)(e:Rd H a (.dK kvs))(h:∀ t s',Inv X pins σ H s'->Q (.int kvs.length t) s'):wpAny (model X.prog X.w) A (call (.builtin "len") [.ref a]) Q E s:=by
 obtain⟨z,d,vs,b,c⟩:=qe3 I.hok e;show call_len_dict d c (by rw[<- b.length];rw[xi] at z;lk) ?_;rw[<- b.length];show h _ _ (I.tok _)
end
theorem dict_typeIs(I:Inv X pins σ H s)(g:DGet H a y o):s.TypeIs (.ref a) "dict":=by
 rcases g with⟨kvs,k,e,_,_⟩ | ⟨kvs,k,b,e,_,_,_⟩
 .obtain⟨_,_,vs,_,c⟩:=qe3 I.hok e;show c.typeIs
 .obtain⟨_,_,xs,_,c⟩:=qfn I.hok e;show c.typeIs
section
variable{X:Cx}{o i e value:Expr}{pos pos' tpos:Pos}{td ty tv:TE}
end
theorem qev(h:Heap)(hb:sysModules<h.objs.size):ObjOk P w H (h.push { cls:=.type "dict",data:=.dict #[] }) h.objs.size (.dK []):=
 ⟨Yi _,Yr.mpr (Yv (Yk hb)),[],.nil,Heap.DictOf.new h⟩
def tDNewK:TE:=λ_ H Q=>∀ p,H p=none->Q (.ref p) (upd H p (.dK []))
section
variable{X:Cx}{pos:Pos}
theorem qbV:PE X (.Dict [] [] pos) tDNewK:=λpins s σ H Q I h =>
 wpAny_Dict_empty ⟨.ref s.heap.objs.size,_,I.laid (a:=s.heap.objs.size) (o:=.dK []) (t':=s.toks) (λ_ _ q=>yu _ q) (yg _) (qev s.heap I.big),rfl,h _ (I.hok.fresh (yg _))⟩
end
def qfo:List (TE×TE)->St->Hp->(List (V×V)->Hp->Prop)->Prop
 | [],_,H,Q=>Q [] H
 | (tk,tv)::r,σ,H,Q=>tk σ H λx a=>tv σ a λy b=>qfo r σ b λps c=>Q ((x,y)::ps) c
abbrev VV:List (V×V)->List (Value×Value)->Prop:=Paired λp q=>RelV p.1 q.1/\RelV p.2 q.2
def PPs(X:Cx)(pos:Pos)(b:List (Option Expr))(a:List Expr)(trs:List (TE×TE)):Prop:=
 ∀(pins:List (Addr×Obj)) (s:Shared) (σ:St) (H:Hp) (Q:List (V×V)->Hp->Prop),Inv X pins σ H s->qfo trs σ H Q ->
  wpAny (model X.prog X.w) X.A (evalPairs (pairTrees b a X.env pos)) (λvs s'=>∃ ps H',Inv X pins σ H' s'/\VV ps vs/\Q ps H') X.xe s
theorem pps_nil:PPs X pos [] [] []:=λpins s σ H Q I h=>pairTrees_nil_walk ⟨[],H,I,.nil,h⟩
theorem pps_cons{k v:Expr}{ks:List (Option Expr)}{vs:List Expr}{tk b:TE}(j:PE X k tk)(hv:PE X v b)(l:PPs X pos ks vs trs) :
  PPs X pos (some k::ks) (v::vs) ((tk,b)::trs):=λpins s σ H Q I h =>
 pairTrees_cons_walk (thn (j pins s σ H _ I h) λu r ⟨x,c,f,p,m⟩=>thn (hv pins r σ c _ f m) λz t ⟨y,d,g,q,n⟩ =>
  thn (l pins t σ d _ g n) λA w ⟨ps,e,i,a,o⟩=>⟨(x,y)::ps,e,i,.cons ⟨p,q⟩ a,o⟩)
def j5(kvs more:List (Key×V)):List (Key×V):=more.foldl (λacc a=>qa6 acc a.1 a.2) kvs
theorem KV.merge:∀{more:List (Key×V)} {a:List (Key×Value)} {kvs:List (Key×V)} {vs:List (Key×Value)},KV more a->KV kvs vs->KV (j5 kvs more) (merged vs a):=by
 intro more a kvs vs r;unfold KV at r
 induction r generalizing kvs vs with
 | nil=>intro q;show q
 | @cons p q ps qs h t ih =>
  intro b
  have e:KV (qa6 kvs p.1 p.2) (stored vs q.1 q.2):=by
   have:=b.put p.1 h.2;rw[<- h.1];show this
  show ih e
theorem zw:∀(more kvs:List (Key×V)),(j5 kvs more).length<=kvs.length+more.length
 | [],kvs=>by show kvs.length<=kvs.length+0;lk
 | p::r,kvs=>by
  have h1:=zw r (qa6 kvs p.1 p.2);have a:=qaq kvs p.1 p.2;show(j5 (qa6 kvs p.1 p.2) r).length<=_;rw[Yb];lk
theorem qcJ:∀{kvs:List (Key×V)} {f:List (Value×Value)},VV (kvs.map λe=>(kV e.1,e.2)) f->∃ d,Carries (qU P w) f d/\KV kvs d
 | [],_,r=>by rw[kX] at r;cases r;show⟨[],YK,.nil⟩
 | p::kvs,_,r=>by
  rw[Ys] at r
  cases r with
  | @cons a b as bs h t =>
   have z:∃ d,Carries (qU P w) bs d/\KV kvs d:=qcJ t;obtain⟨d,c,q⟩:=z;obtain⟨i,g⟩:=b;show⟨(p.1,g)::d,⟨qe2 h.1,rfl,c⟩,.cons ⟨rfl,h.2⟩ q⟩
def tDisp(trs:List (TE×TE)):TE:=fun σ H Q=>∀ p,H p=none->qfo trs σ (upd H p (.dK [])) λps a=>a p=some (.dK [])/\∃ kvs:List (Key×V),ps=kvs.map (λb=>(kV b.1,b.2))/\kvs.length<=15/\Q (.ref p) (upd a p (.dK (j5 [] kvs)))
theorem pe_disp{b:List (Option Expr)}{d:List Expr}(h:PPs X pos b d trs)(g:b.all (·.isSome)=true)(hl:b.length=d.length)(h0:b≠[])
  (i:b.length<=15):PE X (.Dict b d pos) (tDisp trs):=by
 intro pins s σ H Q I q;have hn:=I.hok.fresh (yg s.heap.objs.size);have m:=I.laid (a:=s.heap.objs.size) (o:=.dK []) (h':=s.heap.push { cls:=.type "dict",data:=.dict #[] }) (t':=s.toks) (λ_ _ q=>yu _ q) (yg _) (qev s.heap I.big);show wpAny_Dict_walk (knd:=qU X.prog X.w) g hl h0 i (thn (h pins _ σ _ _ m (q _ hn)) λE D ⟨ps,B,l,j,e,kvs,ep,C,v⟩=>?_);subst ep;obtain⟨y,c,rk⟩:=qcJ (P:=X.prog) (w:=X.w) j;obtain⟨z,p,A,x,n⟩:=qgg l.hok e;cases x;show⟨y,c,n,λh' f t=>⟨.ref s.heap.objs.size,_,?_,rfl,v⟩⟩
 have u:(j5 [] kvs).length<=sizeLine:=by
  have h1:=zw kvs [];rw[YT] at h1;rw[xi];lk
 have r:∃ q,h'.get? s.heap.objs.size=some q:=let ⟨q,_,_,hq,_⟩:=f;⟨q,hq⟩;show qd4 l (by rw[e];show YK) t r (qgu u p (rk.merge .nil) f)
def IsD(H:Hp)(a:Addr):Prop:=(∃ kvs,Rd H a (.dK kvs))\/∃ kvs,Rd H a (.dT kvs)
section
variable{X:Cx}{pins:List (Addr×Obj)}{σ:St}{H:Hp}{s:Shared}{a:Addr}{y d:V}{u r:Value}{o:Option V}{A:Around}{E:Value->Shared->Prop}
end
def tDGet2(e ty f:TE):TE:=fun σ H Q=>e σ H λx b=>∃ a,x=.ref a/\IsD b a/\ty σ b λy d=>f σ d λz c=>∃ o,DGet c a y o/\Q (o.getD z) c
section
variable{X:Cx}{o e f:Expr}{apos cpos:Pos}{td ty tx:TE}
end
section
variable{X:Cx}{pins:List (Addr×Obj)}{σ:St}{H:Hp}{s:Shared}{a:Addr}{kvs:List (Key×V)}{A:Around}{E:Value->Shared->Prop}
end
section
variable{X:Cx}{pins:List (Addr×Obj)}{σ:St}{H:Hp}{s:Shared}{a:Addr}{y:V}{u:Value}{A:Around}{E:Value->Shared->Prop}
end
end L2
namespace Att
open PySem PySem.W PySem.Calls PyProof.Rows
variable{P:Params}{h:Heap}{l:OpenLaw}{n:Nat}
theorem ints_of_wellAll:∀(ns:LQ) (vs:List Value),WellAll P h vs (ns.map WData.int)->IntsAre vs ns:=by
 intro ns
 induction ns with
 | nil =>
  intro vs w;rw[kX] at w;cases w;show .nil
 | cons n ns ih =>
  intro vs w;rw[Ys] at w
  cases w with
  | cons a b =>
   cases a;show .cons _ _ (ih _ b)
theorem script_of(hn:l.most=some n){args:List WData}{c:List Value}
  (b:l.row.toRowW.claim.pre args=true) (j:WellAll P h c args) :
  ∃ a vs ns,c=[Value.ref a]/\args=[WData.list (ns.map WData.int)]/\h.get? a=some { cls:=.type "list",data:=.seq vs.toArray }/\IntsAre vs ns/\ns.length<=n:=by
 have i:WShape.hasAll [] args [.list .int]=true:=(pre_splitW b).1;have hc:l.pre.holds [] { args:=args }=true:=(pre_splitW b).2;obtain⟨d,r,rfl,h1,m⟩:=hasAllW_cons i;obtain rfl:=hasAllW_nil m;obtain⟨xs,rfl,o⟩:=hasW_list h1;obtain⟨ns,rfl⟩:=items_int o
 have e:ns.length<=n:=by
  unfold OpenLaw.pre at hc
  have f:(WTm.not (.lt (.lit (.int (n:Int))) (.len (.arg 0)))).holds [] { args:=[.list (ns.map .int)] }=true:=by
   have f:=(holds_andW hc).1;rw[hn] at f;show f
  have g:=condW_of f (w_not (w_lt w_lit (w_len_list (w_arg rfl))));rw[ya] at g;show XU λq=>?_;have p:(n:Int)<((ns.length:Nat):Int):=by lk
  first
   | (rw[yv p] at g;show absurd g (by decide))
   | (simp at g;lk)
 cases j with
 | cons w1 w2 =>
  cases w2
  cases w1 with
  | list ho hall=>show⟨_,_,ns,rfl,rfl,ho,ints_of_wellAll ns _ hall,e⟩
theorem post_true(l:OpenLaw)(args:List WData):l.row.toRowW.claim.post args (.bool true) args=true:=
 postW_of (r:=l.row.toRowW) (X:=(true==true))
  (show WShape.has [] (.bool true) .bool=true by first | rfl | decide | simp[WShape.has,WShape.arms,WShape.armsAll])
  (show(WTm.eq .res (.lit (.bool true))).value [] { args:=args,res:=some (.bool true),after:=args }=some (.bool (true==true)) from w_eq_bool (w_res rfl) w_lit) rfl
theorem attach_call{q:Program}{loose:LS}{XP:(Str->Option Value)->Heap->Prop}{YP:World->Heap->Prop}{d:DefRec}
  (hn:l.most=some n) (u:d.params.defaults=[])
  (call:∀(w:World) (c b:Shared) (s y:Str->Option Value) (h:Addr) (o:Obj) (z p e:Value) (a:Addr) (vs:List Value) (ns:LQ),
   Ground q loose [] XP w c s y b.heap->YP w b.heap ->
   b.heap.get? h=some o->o.data=.func (docDef d.name d.params d.body d.scope z p e)->b.heap.CodeRec p d.name->s d.name=some (.ref h) ->
   b.heap.get? a=some { cls:=.type "list",data:=.seq vs.toArray }->IntsAre vs ns->ns.length<=n->b.gens=#[] ->
   codeAny (model l.prog w) callerA (.call (.ref h) ⟨[.ref a],[]⟩) (λr s'=>r=.ok (.ret (.bool true))/\OldK b.heap s'.heap/\s'.os=b.os/\AllBare s'.gens) b) :
  WalkO q loose XP YP l.row.toRowW d [] (λf vs=>PySem.call f vs):=by
 intro w c b s y G Y h o z p e D kV L I t A v J args C as m B N x K;obtain rfl:D=.none:=Dflts.none A u;obtain rfl:kV=.none:=Dflts.noKw A;obtain⟨a,vs,ns,rfl,rfl,j,g,i⟩:=script_of hn m x;show enter_call (Xg (call w c b s y h o z p e a vs ns G Y L (fd_plain I) t v j g i J) λr s' M=>?_);obtain⟨rfl,E,F,H⟩:=M;show⟨.inl ⟨.bool true,.bool true,[],rfl,λ_=>rfl,.bool true,post_true l _,λ_=>⟨List.Pairwise.nil,λ_ hm=>(nomatch hm)⟩⟩,E,F,H⟩
section
variable{prog:Program}{w:World}{A:Around}{E:Value->Shared->Prop}{s:Shared}{K:Frag}
end
end Att
namespace L2
open PySem PySem.Spec PyProof.Rows
variable{A B:Prop}{H:Hp}{f:Addr}{fd:FuncData}{n:Nat}{ps:LS}{qual x:Str}{sp:Sp}{st:Stmt}
theorem qch:∀{vs:List Value} {ns:LQ},IntsAre vs ns->Vals (ns.map V.int) vs
 | _,_,.nil=>.nil
 | _,_,.cons n t h=>.cons ⟨t,rfl⟩ (qch h)
def qh0(H:Hp):Prop:=∀ b,H b=none\/∃ o xs,H b=some (.frz o (.lst xs))
theorem law_call{P:Program}{w:World}{K:yf}{D R:Str->Option Value}{CX:CXT}{k:Nat}{J a:Addr}{c:Shared}{vs:List Value}{ns:LQ}
  (T:K.In c.heap) (y:c.heap.Ns mainGlobals D) (hb:c.heap.Ns builtinsNs R) (M:∀ x:Str,x≠"__name__"->R x=bootBuiltins x) (t:c.heap.NoLimit) (hg:c.gens=#[])
  (G:c.heap.get? a=some { cls:=.type "list",data:=.seq vs.toArray }) (Y:IntsAre vs ns) (hl:ns.length<=sizeLine) (hr:Room k callerA)
  (F:∀ base:Heap,K.In base->base.Ns mainGlobals D->FnOk P w K D base CX k J fd [x] sp) (i:∀(s:Shared) (u:Value),BindsTo s fd ⟨[u],[]⟩ [(x,u)])
  (O:∀ H:Hp,qh0 H->SqL K H a (ns.map V.int)->sp [.ref a] H (λv _=>v=.bl true) λ_ _ _=>False)
  (L:∀ H e s',CX [] H c (λ_ _ _=>False) e s'->False) :
  codeAny (model P w) callerA (.call (.ref J) ⟨[.ref a],[]⟩) (λr s'=>r=.ok (.ret (.bool true))/\OldK c.heap s'.heap/\s'.os=c.os/\AllBare s'.gens) c:=by
 have Z:=qch Y;have C:=Y.length;have g:∀ H:Hp,qh0 H->SqL K H a (ns.map V.int)->HOk P w H c.heap->(∀ b,H b≠none->b=a)->(H a≠none->K.lookup a=none) ->
   codeAny (model P w) callerA (.call (.ref J) ⟨[.ref a],[]⟩) (λr s'=>r=.ok (.ret (.bool true))/\OldK c.heap s'.heap/\s'.os=c.os/\AllBare s'.gens) c:=by
  intro H X hS A W hK;have base_of:∀{b:Addr} {o:Obj},c.heap.get? b=some o->H b=none->(qgc c.heap H).get? b=some o:=λe n=>hidT_get e n
  have S:∀{b:Addr} {o:Obj} {l:Array DictEntry} {ep:Nat},c.heap.get? b=some o->o.data=.dict l ep->H b=none:=λ{b o l ep} e d=>by
   cases q:H b with
   | none=>rfl
   | some u =>
    have I:b=a:=W b (by rw[q];simp);subst I;rw[G] at e;cases e;have d':Data.seq vs.toArray _=Data.dict l ep:=d;cases d'
  have f:∀{b:Addr} {m:Str->Option Value},c.heap.Ns b m->(qgc c.heap H).Ns b m:=λ{b m} ⟨o,l,ep,e,d,r⟩=>⟨o,l,ep,base_of e (S e d),d,r⟩
  have p:K.In (qgc c.heap H):=λb o e=>base_of (T b o e) (by
   cases q:H b with
   | none=>rfl
   | some u =>
    have I:b=a:=W b (by rw[q];simp);subst I;rw[hK (by rw[q];simp)] at e;cases e)
  have hM:Mod K D (qgc c.heap H):=⟨p,f y,⟨R,f hb,M⟩,let ⟨mc,h1,h2⟩:=t;⟨mc,f h1,h2⟩⟩;have e0:Env0 P w K D (qgc c.heap H) callerA [] c H:=⟨rfl,hM,λb o e=>of_hidT e,Kd (hidT_size _ _),trivial,λb hb=>absurd (show b∈([]:LI) from hb) (by simp),A,.of_eq hg⟩;show Xg ((F _ p (f y)).run callerA [] c H ⟨[.ref a],[]⟩ [.ref a] [.ref a] _ _ hr e0 (i c (.ref a)) (.cons rfl .nil) (O H X hS)) λr s' h=>?_
  cases r with
  | error e=>show(L H e s' h).elim
  | ok fl =>
   cases fl with
   | next=>show False.elim h
   | brk=>show False.elim h
   | cont=>show False.elim h
   | ret u =>
    obtain⟨v,H',os,j,un,B,r',q⟩:=h;have q':v=.bl true:=q;subst q';obtain rfl:u=Value.bool true:=r';show⟨rfl,OldK.of_keep λb o e=>?_,os,j⟩
    cases q:H b with
    | none=>show un.keep b o e q (by intro z;show absurd (show b∈([]:LI) from z) (by simp)) (by simp)
    | some u =>
     rcases X b with z | ⟨ob,xs,z⟩
     .rw [q] at z;cases z
     .have z2:=un.frzs b ob _ z;obtain⟨U,_⟩:=A b _ z;obtain⟨e2,_⟩:=B b _ z2;rw[e] at U;cases U;show e2
 cases N:K.lookup a with
 | some o =>
  have e:=T a o N;rw[G] at e;cases e;show g (λ_=>none) (λ_=>.inl rfl) (.inr ⟨_,vs.toArray,_,N,rfl,rfl,rfl,by rw[yz,C];show hl,by simpa using Z⟩) (λb u z=>by have E:(none:Option HO)=some u:=z;cases E) (λb z=>absurd rfl z) λz=>absurd rfl z
 | none =>
  show g (λb=>if b=a then some (.frz { cls:=.type "list",data:=.seq vs.toArray } (.lst (ns.map V.int))) else none) (λb=>?_) (.inl (.inr ⟨{ cls:=.type "list",data:=.seq vs.toArray },yH rfl⟩)) (λb u z=>?_) (λb z=>?_) λ_=>N
  .by_cases hb:b=a
   .show .inr ⟨_,_,yH hb⟩
   .show .inl (yB hb)
  .by_cases hb:b=a
   .have E:=(yH hb).symm.trans z;cases E;subst hb;show⟨G,by rw[ya];show hl,vs,_,Z,G⟩
   .have E:=(yB hb).symm.trans z;cases E
  .by_cases hb:b=a
   .show hb
   .show absurd (yB hb) z
theorem walk_of{l:PySem.W.OpenLaw}{k:Nat}{q:Program}{loose:LS}{XP:(Str->Option Value)->Heap->Prop}{YP:World->Heap->Prop}{d:DefRec}{K:Params->yf}{CX:World->CXT}{sp:World->Sp}
  (hn:l.most=some n) (A:n<=sizeLine) (y:d.params.defaults=[]) (P:Room k callerA)
  (M:∀(w:World) (h:Heap),YP w h->(K w.params).In h)
  (F:∀(w:World) (j:Str->Option Value) (r:Addr) (h:Heap),(K w.params).In h->h.Ns mainGlobals j->j d.name=some (.ref r) ->
   ∃ fd:FuncData,(∀(s:Shared) (u:Value),BindsTo s fd ⟨[u],[]⟩ [(x,u)]) /\
    ∀ base:Heap,(K w.params).In base->base.Ns mainGlobals j->FnOk l.prog w (K w.params) j base (CX w) k r fd [x] (sp w))
  (B:∀(w:World) (H:Hp) (a:Addr) (ns:LQ),ns.length<=n->qh0 H->SqL (K w.params) H a (ns.map V.int)->sp w [.ref a] H (λv _=>v=.bl true) λ_ _ _=>False)
  (t:∀(w:World) (H:Hp) (s:Shared) (e:Value) (s':Shared),CX w [] H s (λ_ _ _=>False) e s'->False) :
  PySem.W.WalkO q loose XP YP l.row.toRowW d [] (λf vs=>PySem.call f vs):=by
 show Att.attach_call hn y λw D p j X r o Z R E a vs ns G Y U S N z m i c O=>?_;have C:=M w _ Y;obtain⟨fd,hb,I⟩:=F w j r _ C G.T.g z;show law_call C G.T.g G.T.b G.T.builtins G.T.nolimit O m i (yh c A) P I hb (λH J L=>B w H a ns c J L) λH e s'=>t w H p e s'
abbrev CX0:CXT:=λ_ _ _ _ _ _=>False
abbrev E0:XK:=λ_ _ _=>False
theorem qr{X:Cx}:qaH CX0 X E0:=λ_ _ _ _ _ _ _ h=>h.elim
structure Fun(K:yf)(x qual:Str)(st:Stmt)(f:Addr)(fd:FuncData):Prop where
 ex:∃(oc:Value) (od:Option Addr) (kV doc pm:Value) (an:Option Addr) (cdv ct:Value) (osl:Array (Option Value)),
  fd=PySem.W.fnOf x qual (qa7 st) (zk st) (qf st) .none kV doc pm an cdv ct/\K.lookup f=some ⟨oc,od,.func fd,osl⟩/\PySem.W.codeIn K cdv qual=true
 kp:PySem.W.keepIn K (.ref f)=true
section
variable{P:Program}{w:World}{K:yf}{mg:Str->Option Value}{base:Heap}
theorem Fun.ok{N:LS}{k:Nat}(F:Fun K x qual st f fd)(S:FnScope N ps (qf st)) (c:∀(b:Value) (A:Around) (a:List Env) (s:Shared) (H:Hp) (vs:List V) (Q:VK) (E:XK),Room k (A.deeper (envOfC qual (qf st) s.heap.objs.size f b))->sp vs H Q E ->
   ∃ t,PSs (qgs CX0 P w K mg base N qual (qf st) f b A a s H E).nox (zk st) t/\t { nx:=λ_ H'=>Q .non H',rt:=Q } (start N vs) H) (g:∀ vs H Q E,sp vs H Q E->vs.length=ps.length:=by intro _ _ _ _ h;cases h;subst_vars;rfl):wqqg (k+1) f fd ps sp:=by
 obtain⟨o,od,kV,i,p,n,b,ct,m,rfl,l,d⟩:=F.ex;show qhv l d S g λA a s H vs Q E j e=>?_;obtain⟨t,h,q⟩:=c b A a s H vs Q E j e;show⟨t,h.nox,q⟩
theorem Fun.binds(F:Fun K x qual st f fd)
  (h:∀(kV b d:Value) (c:Option Addr) (a ct:Value) (us:List Value),us.length=ps.length->bindArgs (PySem.W.fnOf x qual (qa7 st) (zk st) (qf st) .none kV b d c a ct) ⟨us,[]⟩=pure (ps.zip us)):Binds K fd ps []:=by
 obtain⟨j,od,kV,b,d,c,a,ct,g,rfl,i,e⟩:=F.ex;show .all (h kV b d c a ct)
theorem fun_mk{h:Value}{od e:Option Addr}{d:Array (Option Value)}{kV b g a ct:Value}(l:K.lookup f=some ⟨h,od,.func (PySem.W.fnOf x qual (qa7 st) (zk st) (qf st) .none kV b g e a ct),d⟩)
  (c:PySem.W.codeIn K a qual=true) (k:PySem.W.keepIn K (.ref f)=true):Fun K x qual st f (PySem.W.fnOf x qual (qa7 st) (zk st) (qf st) .none kV b g e a ct):=⟨⟨h,od,kV,b,g,e,a,ct,d,rfl,l,c⟩,k⟩
end
theorem qg(h:n<=1000):n<sizeLine:=Xh h (by decide)
section
variable{X:Cx}
theorem pv(i:Nat){b:Pos}(c:X.N[i]?=some x:=by rfl)(hv:Vis X.env.scope x:=by first | show yF rfl | show Xl (yF rfl) | show Xl (Xl rfl))(d:(x==("__debug__":Str))=false:=by decide)
  (a:(x==("__classdict__":Str))=false:=by decide):PE X (.Name x b) (qd1 i):=pe_var c hv d a
theorem call_lenD:zW X (.builtin "len") (λxs H Q=>∃ a kvs,xs=[V.ref a]/\H a=some (.dK kvs)/\Q (.int kvs.length) H):=by
 intro b s f H xs us Q I r h;obtain⟨a,kvs,rfl,d,q⟩:=h;obtain⟨u,rfl,e⟩:=qbf r;cases e;show d_len I (.inl d) λt s' c=>⟨.int kvs.length,H,c,⟨t,rfl⟩,q⟩
end
theorem jp(h:A):if true=true then A else B:=by
 rw[yH rfl];show h
theorem qI{c:Prop}[Decidable c](h1:c->A)(a:¬ c->B):if c then A else B:=by
 by_cases h:c
 .rw [yH h];show h1 h
 .rw [yB h];show a h
def Same(H H':Hp):Prop:=∀ b o,H b=some o->H' b=some o
theorem Same.refl(H:Hp):Same H H:=λ_ _ h=>h
theorem Same.trans{d e:Hp}(a:Same H d)(b:Same d e):Same H e:=λc o h=>b c o (a c o h)
theorem Same.free{H':Hp}(e:Same H H'){l:Addr}(h:H' l=Option.none):H l=Option.none:=by
 cases q:H l with
 | none=>rfl
 | some o =>
  rw[e l o q] at h;cases h
section
variable{κ:Type}[DecidableEq κ]
end
end L2
set_option maxHeartbeats 4000000
namespace L2
open PySem PySem.Spec PyProof.Rows
variable{A:Around}{C D a a0 c e f it p:Addr}{E:Value->Shared->Prop}{H H':Hp}{M:Model}{N ps:LS}{P prog:Program}{QO:Option Int->Hp->Prop}{R:It->Hp->Prop}{T:String}{X:Cx}{acc:List (Str×Addr)}{b expr:Bool}{dx:Option Addr}{elt iter tg:Expr}{env:Env}{fd:FuncData}{fl t u:Value}{fp zs:LI}{g:TG}{h h':Heap}{i j:Int}{ifs:List Expr}{its l us:List Value}{ixs:LN}{n nl:Nat}{names:List (Str×NameKind)}{od:Option Obj}{ox:Obj}{pins:List (Addr×Obj)}{pl:Sem Bool}{pos:Pos}{qual x z:Str}{s:Shared}{sc scope:Scope}{sp:Sp}{tc:TT}{te:TE}{tk:Tok}{v y:V}{vs xs ys:List V}{w:World}{wi:TI}{σ:St}
section
variable{prog:Program}{w:World}{A:Around}{R:Result->Shared->Prop}{s:Shared}
theorem compLoop_own{a:Expr}{it acc:Value}(I:Nat->Shared->Prop)
  (d:∀ n s,I n s->wpAny (model prog w) A (pyNext it) (λr f=>match r with
   | none=>R (.ok .next) f
   | some v=>wpAny (model prog w) A (letOwnedTupleGo a it v) (λ_ b=>wpAny (model prog w) A (assign a env v) (λ_ j =>
     wpAny (model prog w) A (forIn ifs true λc r=>if r=true then do let ok <- isTrue c env (eval c env);pure (ForInStep.yield ok) else pure (ForInStep.yield r)) (λok g =>
      if ok=true then wpAny (model prog w) A (eval elt env) (λx l =>
       wpAny (model prog w) A (call (.builtin "list.append") [acc,x]) (λ_ o=>∃ m,m<n/\I m o) (λ_ _=>False) l) (λ_ _=>False) g
      else ∃ m,m<n/\I m g) (λ_ _=>False) j) (λ_ _=>False) b) (λ_ _=>False) f) (λ_ _=>False) s)
  (n:Nat) (h:I n s) :
  codeAny (model prog w) A (.compLoop (.ListComp elt [⟨a,iter,ifs,0⟩] scope pos) 0 it acc env) R s:=by
 show codeAny_loop rfl I (λn s u=>?_) n h;show wpAny _ A ((compTurn (.ListComp elt [⟨a,iter,ifs,0⟩] scope pos) 0 it acc env).onRaise (λx=>do noteFrame x env;theTreesLotGoes x)) _ _ s;show wpAny_noted ?_;rw[compTurn_list];show yq (Xw (yq (YD (d n s u) (λr f h1=>?_) λ_ _ h'=>h'.elim)))
 cases r with
 | none=>show yA h1
 | some v =>
  show yq (YD h1 (λ_ b e=>?_) λ_ _ h'=>h'.elim);show yq (YD e (λ_ j p=>yq (YD p (λok g i=>?_) λ_ _ h'=>h'.elim)) λ_ _ h'=>h'.elim)
  cases ok with
  | false=>show yA ⟨rfl,i⟩
  | true =>
   show yq (yq (YD i (λx l q=>yq (YD q (λ_ o t=>yA (yA ⟨rfl,t⟩)) λ_ _ h'=>h'.elim)) λ_ _ h'=>h'.elim))
end
def qV(env:Env):List (Str×NameKind)->List (Str×Addr)->List (Str×Addr)
 | [],acc=>acc
 | (n,k)::r,acc=>qV env r (if (k==.free)=true then(n,(env.cells.lookup n).getD 0)::acc else acc)
theorem qar:∀{names:List (Str×NameKind)} {acc:List (Str×Addr)} {x:Str} {c:Addr},(qV env names acc).lookup x=some c ->
  ((x,NameKind.free)∈names/\c=(env.cells.lookup x).getD 0)\/acc.lookup x=some c
 | [],_,_,_,h=>.inr h
 | (n,k)::r,acc,x,c,h=>by
  unfold qV at h;rcases qar h with⟨h1,f⟩ | h1
  .show .inl ⟨yw _ h1,f⟩
  .by_cases a:(k==NameKind.free)=true
   .rw [yH a,xZ] at h1
    cases b:x==n with
    | true =>
     rw[b] at h1;have e:x=n:=Yq.mp b;have d:k=.free:=Yq.mp a;subst e d;show .inl ⟨yC,(yl h1).symm⟩
    | false =>
     rw[b] at h1;show .inr h1
   .rw [yB a] at h1;show .inr h1
theorem qbh:∀{names:List (Str×NameKind)} {acc:List (Str×Addr)} {x:Str},(∃ c,acc.lookup x=some c)->∃ c,(qV env names acc).lookup x=some c
 | [],_,_,h=>h
 | (n,k)::r,acc,x,h=>by
  unfold qV;apply qbh;by_cases a:(k==NameKind.free)=true
  .rw [yH a,xZ]
   cases b:x==n with
   | true=>show⟨_,rfl⟩
   | false=>show h
  .rw [yB a];show h
theorem qas:∀{names:List (Str×NameKind)} {acc:List (Str×Addr)} {x:Str},(x,NameKind.free)∈names->∃ c,(qV env names acc).lookup x=some c
 | [],_,_,h=>by cases h
 | (n,k)::r,acc,x,h=>by
  unfold qV;rcases yy.mp h with e | e
  .cases e;apply qbh;rw[show(NameKind.free==NameKind.free)=true from rfl,yH rfl,xZ,xD];show⟨_,rfl⟩
  .show qas e
theorem qbi(h:∀ n,(n,NameKind.free)∈scope.names->∃ c,env.cells.lookup n=some c):closureFor scope env=pure (qV env scope.names []):=by
 have key:∀(names:List (Str×NameKind)) (acc:List (Str×Addr)),(∀ n,(n,NameKind.free)∈names->∃ c,env.cells.lookup n=some c) ->
   (forIn names acc (λ(x:Str×NameKind) (r:List (Str×Addr))=>(if (x.2==NameKind.free)=true then(cellOf env x.1>>=λc=>pure (ForInStep.yield ((x.1,c)::r))) else pure (ForInStep.yield r):Sem (ForInStep (List (Str×Addr))))))=(pure (qV env names acc):Sem (List (Str×Addr))):=by
  intro names
  induction names with
  | nil=>intro acc _;rfl
  | cons x r ih =>
   intro acc hn;obtain⟨n,k⟩:=x;rw[List.forIn_cons];unfold qV;by_cases a:(k==NameKind.free)=true
   .have b:k=.free:=Yq.mp a;subst b;obtain⟨c,hc⟩:=hn n yC;have d:cellOf env n=pure c:=by unfold cellOf;rw[hc]
    simp only[a,Xq,d,hc,Option.getD_some];show ih _ λm hm=>hn m (yw _ hm)
   .simp only[a,kN];show ih _ λm hm=>hn m (yw _ hm)
 have e:=key scope.names [] h;unfold closureFor;show Eq.trans (congrArg (λm=>m>>=pure) e) rfl
@[reducible] def Cx.comp(X:Cx)(N:LS)(scope:Scope)(C:Addr)(s0:Shared)(H0:Hp)(ex:LI):Cx where
 prog:=X.prog
 w:=X.w
 K:=X.K
 mg:=X.mg
 base:=X.base
 A:=X.A
 N:=N
 s₀:=s0
 H₀:=H0
 env:=compEnvC scope (cellsFrom (C+1) scope.names (qV X.env scope.names [])) C X.env
 outer:=X.stack
 stack:=X.stack
 ex:=ex
 fn:=λx=>scope.names.lookup x==some NameKind.cell
 calm:=X.calm
 pn:=[]
 xe:=λ_ _=>False
theorem jL:∀(names:List (Str×NameKind)) (n:Nat) (acc:List (Str×Addr)),cellsFrom n names acc=cellsFrom n names []++acc
 | [],_,_=>rfl
 | (m,k)::r,n,acc=>by
  unfold cellsFrom;split
  .rw [jL r (n+1) ((m,n)::acc),jL r (n+1) [(m,n)],YG];rfl
  .show jL r n acc
theorem qbj:∀{names:List (Str×NameKind)} {n:Nat} {x:Str},(x,NameKind.cell)∈names->∃ c,(cellsFrom n names []).lookup x=some c
 | (m,k)::r,n,x,h=>by
  unfold cellsFrom;rcases yy.mp h with e | e
  .cases e;rw[yH (show(NameKind.cell==NameKind.cell)=true from rfl),jL,xE]
   cases q:(cellsFrom (n+1) r []).lookup m with
   | some c=>show⟨c,rfl⟩
   | none=>show⟨n,by show List.lookup m [(m,n)]=some n;rw[xZ,xD]⟩
  .split
   .rw [jL,xE];obtain⟨c,hc⟩:=qbj (n:=n+1) e;show⟨c,by rw[hc];rfl⟩
   .show qbj e
theorem qci:∀{names:List (Str×NameKind)} {n:Nat} {x:Str} {c:Addr},(x,c)∈cellsFrom n names []->(x,NameKind.cell)∈names
 | (m,k)::r,n,x,c,h=>by
  unfold cellsFrom at h;split at h
  .rename_i hk
   rw[jL] at h;rcases yK.mp h with z | z
   .show yw _ (qci z)
   .have e:(x,c)=(m,n):=yr.mp z;cases e;rw[Yq.mp hk];show yC
  .show yw _ (qci h)
theorem qcj(h:(cellsFrom n names acc).lookup x=some c):(x,c)∈cellsFrom n names []\/acc.lookup x=some c:=by
 rw[jL,xE] at h
 cases e:(cellsFrom n names []).lookup x with
 | some d=>rw[e] at h;cases h;show .inl (mem_of_lookup e)
 | none=>rw[e] at h;show .inr h
theorem cells_some(h:(x,NameKind.cell)∈names\/∃ c,acc.lookup x=some c):∃ c,(cellsFrom n names acc).lookup x=some c:=by
 rw[jL,xE]
 cases e:(cellsFrom n names []).lookup x with
 | some d=>show⟨d,rfl⟩
 | none =>
  rcases h with z | ⟨c,hc⟩
  .obtain⟨d,a⟩:=qbj (n:=n) z;rw[e] at a;cases a
  .show⟨c,hc⟩
section
variable{M:Model}{A:Around}{E:Value->Shared->Prop}{s:Shared}
theorem newEnvK{c:Addr}{b:List (Str×Addr)}{f:Option Addr}{e:Value}{d:Env}{a:Addr}{Q:Env->Shared->Prop}
  (i:Q (newEnv scope s.heap.objs.size c (cellsFrom (s.heap.objs.size+1) scope.names b) qual f e (some d) a) { s with heap:=pushCells (s.heap.push { cls:=.type "dict",data:=.dict #[] }) scope.names }) :
  wpAny M A (newFunctionEnv scope c b [] qual f e (some d) a) Q E s:=by
 simp only[newFunctionEnv,Option.isSome_some,Xq];show yq (wpAny_alloc ?_);show yq (wpAny_layCells _ (λname kind g=>by cases h:kind==NameKind.cell<;>simp[h]) _ _ _ _ ?_);rw[show({ s with heap:=s.heap.push { cls:=.type "dict",data:=.dict #[] } }:Shared).heap.objs.size=s.heap.objs.size+1 from xq ..];rw[List.forIn_nil];show yq (yA (yA i))
end
structure CompOk(sc scope:Scope):Prop where
 kind:scope.kind=.function
 cel:∀ y∈scope.names,y.2=.cell->scope.names.lookup y.1=some .cell
 loc:∀ y∈scope.names,y.2=.local->scope.names.lookup y.1=some .local
 free:∀ y∈scope.names,y.2=.free->sc.names.lookup y.1=some .cell\/sc.names.lookup y.1=some .free
 once:∀ y∈scope.names,y.2=.free->scope.names.lookup y.1=some .free
def qgh(sc scope:Scope):Bool:=decide (scope.kind=.function)&&scope.names.all λy=>match y.2 with
 | .local=>scope.names.lookup y.1==some .local
 | .free=>(sc.names.lookup y.1==some .cell||sc.names.lookup y.1==some .free)&&scope.names.lookup y.1==some .free
 | .cell=>scope.names.lookup y.1==some .cell
 | _=>true
theorem qew(h:qgh sc scope=true):CompOk sc scope:=by
 unfold qgh at h;rw[Yn] at h;have b:=Yp.mp h.2;show⟨yj h.1,λy a e=>?_,λy a e=>?_,λy a e=>?_,λy a e=>?_⟩
 .have:=b y a;rw[e] at this;show Yq.mp this
 .have:=b y a;rw[e] at this;show Yq.mp this
 .have:=b y a;rw[e,Yn,xu] at this;show this.1.imp Yq.mp Yq.mp
 .have:=b y a;rw[e,Yn] at this;show Yq.mp this.2
def qh1(nl:Nat)(ixs:LN)(N XN:LS)(names:List (Str×NameKind)):Bool:=(List.range ixs.length).all λk=>match ixs[k]?,N[nl+k]? with
 | some j,some x=>XN[j]?==some x&&names.any λy=>y.1==x&&y.2==.free
 | _,_=>true
theorem qfp{XN:LS}(h:qh1 nl ixs N XN names=true)(k j:Nat)(x:Str)(h1:ixs[k]?=some j)(c:N[nl+k]?=some x):XN[j]?=some x/\(x,NameKind.free)∈names:=by
 have d:k<ixs.length:=(yc.mp h1).1;have:=Yp.mp h k (Yu.mpr d);rw[h1,c] at this;simp only[Yn] at this;show⟨Yq.mp this.1,?_⟩;obtain⟨⟨n,g⟩,f,e⟩:=xn.mp this.2;rw[Yn] at e;have a:n=x:=Yq.mp e.1;have b:g=.free:=Yq.mp e.2;subst a b;show f
def qfc(nl:Nat)(ixs:LN)(σ:St):St:=List.replicate nl none++ixs.map λj=>(σ[j]?).getD none
theorem capS_len(nl:Nat)(ixs:LN)(σ:St):(qfc nl ixs σ).length=nl+ixs.length:=by
 unfold qfc;rw[yx,YV,ya]
theorem qex{i:Nat}(h:(qfc nl ixs σ)[i]?=some (some v)):nl<=i/\∃ j,ixs[i-nl]?=some j/\σ[j]?=some (some v):=by
 unfold qfc at h;by_cases a:i<nl
 .rw [yP (by rw[YV];show a),XD] at h;split at h<;>cases h
 .rw [yX (by rw[YV];lk),YV,yd] at h;show⟨by lk,?_⟩
  cases e:ixs[i-nl]? with
  | none=>rw[e] at h;cases h
  | some j =>
   rw[e] at h;have h':(σ[j]?).getD none=some v:=yl h
   cases q:σ[j]? with
   | none=>rw[q] at h';cases h'
   | some u =>
    rw[q] at h';show⟨j,rfl,by rw[q];show congrArg some h'⟩
def qgi(env:Env)(y:Str×NameKind):Str×NameKind:=if (y.2==NameKind.free&&env.scope.kind==.function&&env.kindOf y.1==some .cell)=true then(y.1,NameKind.cell) else(y.1,y.2)
theorem relF_fst(env:Env)(y:Str×NameKind):(qgi env y).1=y.1:=by unfold qgi;split<;>rfl
theorem relF_snd(env:Env)(y:Str×NameKind):(qgi env y).2=y.2\/((qgi env y).2=.cell/\y.2=.free):=by
 unfold qgi;split
 .rename_i h
  rw[Yn,Yn] at h;show .inr ⟨rfl,Yq.mp h.1.1⟩
 .show .inl rfl
theorem zM:∀{names:List (Str×NameKind)} {x:Str} {k:NameKind},(names.map (qgi env)).lookup x=some k->∃ b,names.lookup x=some b/\(x,b)∈names/\(k=b\/(k=.cell/\b=.free))
 | [],_,_,h=>by cases h
 | (n,k1)::r,x,k,h=>by
  rw[Ys,show qgi env (n,k1)=((qgi env (n,k1)).1,(qgi env (n,k1)).2) from rfl,xZ,relF_fst] at h;rw[xZ]
  cases c:x==n with
  | true =>
   have e:x=n:=Yq.mp c;subst e;have a:(x==(x,k1).1)=true:=c;rw[a] at h;have h':=yl h;show⟨k1,rfl,yC,?_⟩;rcases relF_snd env (x,k1) with z | ⟨z1,z2⟩
   .show .inl (h'.symm.trans z)
   .show .inr ⟨h'.symm.trans z1,z2⟩
  | false =>
   have a:(x==(n,k1).1)=false:=c;rw[a] at h;obtain⟨b,d,f,g⟩:=zM h;show⟨b,d,yw _ f,g⟩
section
variable{X:Cx}{pins:List (Addr×Obj)}{σ:St}{H:Hp}{s:Shared}
theorem comp_free_of{cl:List (Str×Addr)}(h:(compEnvC scope cl C X.env).kindOf x=some .cell\/(compEnvC scope cl C X.env).kindOf x=some .free):(x,NameKind.cell)∈scope.names\/(x,NameKind.free)∈scope.names:=by
 rcases h with h | h
 .obtain⟨a,_,hm,e | ⟨_,e⟩⟩:=zM (env:=X.env) (names:=scope.names) h
  .rw [<- e] at hm;show .inl hm
  .rw [e] at hm;show .inr hm
 .obtain⟨a,_,hm,e | ⟨e,_⟩⟩:=zM (env:=X.env) (names:=scope.names) h
  .rw [<- e] at hm;show .inr hm
  .cases e
theorem Inv.comp{S:Obj}{h1:Heap}{tk:Nat}(I:Inv X pins σ H s)(O:CompOk X.env.scope scope)
  (hN:N.length=nl+ixs.length) (G:∀(k j:Nat) (x:Str),ixs[k]?=some j->N[nl+k]?=some x->X.N[j]?=some x/\(x,NameKind.free)∈scope.names)
  (M:∀ b∈fp,qdZ X pins H b) (J:∀ b∈fp,b<s.heap.objs.size) (L:s.heap.objs.size<=C) (W:s.heap.objs.size<=D) (Y:D≠C) (ac:h1.Ns C λ_=>none) (k:∀ b o,s.heap.get? b=some o->h1.get? b=some o)
  (ad:h1.get? D=some S) (aa:∀ v,S.data≠.cell v) (B:CellsOk h1 (C+1) (cellsFrom (C+1) scope.names [])):Inv (X.comp N scope C s H fp) [(D,S)] (qfc nl ixs σ) H { s with heap:=h1,toks:=tk }:=by
 have a:∀ x c,(qV X.env scope.names []).lookup x=some c->X.env.cells.lookup x=some c/\(x,NameKind.free)∈scope.names:=λx c h=>by
  rcases qar h with⟨h1,K⟩ | h1
  .obtain⟨F,l⟩:=I.ok.has x (by
    rcases O.free _ h1 rfl with z | z
    .show .inl z
    .show .inr z)
   rw[l] at K;show⟨by rw[l,K];rfl,h1⟩
  .cases h1
 have big:∀ c:Addr,C+1<=c->s.heap.objs.size<=c:=λc h=>yh L (Nat.le_of_succ_le h);have R:∀{P:Prop} {c:Addr},C+1<=c->c<s.heap.objs.size->P:=λh g=>absurd (yi g (big _ h)) (Yw _)
 have all:∀ x c,(cellsFrom (C+1) scope.names (qV X.env scope.names [])).lookup x=some c->((x,c)∈cellsFrom (C+1) scope.names []/\C+1<=c/\h1.IsCell c none)\/(X.env.cells.lookup x=some c/\c<s.heap.objs.size):=λx c h=>by
  rcases qcj h with z | z
  .show .inl ⟨z,(B.empty _ _ z).2,(B.empty _ _ z).1⟩
  .obtain⟨_,q⟩:=I.cell x c (a x c z).1;show .inr ⟨(a x c z).1,q.lt⟩
 show⟨⟨I.ok.mod,O.kind,I.ok.glob,I.ok.blt,L,λx y c h1 K=>?inj,λx hx=>cells_some ((comp_free_of hx).imp id qas),λx c z h=>?cab,I.ok.hd,I.ok.frames,.inl rfl,
   λb hb=>⟨Yk (yi (J b hb) L),λx c e=>?exf⟩,I.bs,yh I.ok.bsz I.sz,λb o e hb=>?_,λb hb z=>?_,I.stack,I.stkFree⟩,
  rfl,I.bare,Un.kept k,⟨_,ac,λi x v e1 e2 e3=>?_⟩,λx c e=>?_,I.hok.fresh L,λx c e=>?fre,λp hp=>?_,I.hok.kept k,?_⟩
 case inj =>
  rcases all x c h1 with⟨r,f,_⟩ | ⟨r,f⟩<;>rcases all y c K with⟨T,U,_⟩ | ⟨T,U⟩
  .show name_of_addr B.apart r T
  .show R f U
  .show R U f
  .show I.ok.inj x y c r T
 case cab =>
  rcases all x c h with⟨_,f,_⟩ | ⟨r,f⟩
  .show big _ f
  .exfalso;obtain⟨d,E⟩:=qbj (n:=C+1) (mem_of_lookup (Yq.mp z));have h:(cellsFrom (C+1) scope.names (qV X.env scope.names [])).lookup x=some c:=h;rw[jL,xE,E] at h;cases h;show R (B.empty _ _ (mem_of_lookup E)).2 f
 case exf =>
  rcases all x c e with⟨_,f,_⟩ | ⟨r,_⟩
  .show λz=>R f (by rw[z];show J b hb)
  .show(M b hb).2.2.2.2.1 x c r
 case fre =>
  rcases all x c e with⟨_,f,_⟩ | ⟨r,_⟩
  .show I.hok.fresh (big _ f)
  .show I.freeC x c r
 .rcases(M b hb).2.2.2.1 with z | z
  .show I.ok.noex b o e z
  .have:=(I.ok.bs b o e).1;show absurd (yi (yM this) z) (Yw _)
 .rcases yy.mp (I.stkSub b z) with e | e
  .show(M b hb).2.1 e
  .show(M b hb).2.2.1 e
 .obtain⟨hi,j,hj,hv⟩:=qex e2;obtain⟨hx,t⟩:=G (i-nl) j x hj (by rw[Nat.add_sub_cancel' hi];show e1);obtain⟨m,hn,hl⟩:=I.loc;have B:=O.free _ t rfl
  obtain⟨u,ru,lk⟩:=hl j x v hx hv (by
   rcases B with z | z
   .show .inr (.inl z)
   .show .inr (.inr z))
  show⟨u,ru,?_⟩;rcases lk with⟨ab,_⟩ | ⟨_,c,hc,A⟩
  .have w:X.env.scope.names.lookup x=some .local:=ab;rcases B with z | z<;>· rw[z] at w;cases w
  .obtain⟨F,l⟩:=qas (env:=X.env) (acc:=[]) t
   have e:F=c:=by
    have:=(a x F l).1;rw[hc] at this;show(yl this).symm
   subst e
   have Z:(cellsFrom (C+1) scope.names (qV X.env scope.names [])).lookup x=some F:=by
    rw[jL,xE]
    cases q:(cellsFrom (C+1) scope.names []).lookup x with
    | none=>show l
    | some d=>have:=O.cel _ (qci (mem_of_lookup q)) rfl;rw[O.once _ t rfl] at this;cases this
   show .inr ⟨?_,F,Z,?_⟩
   .rcases e3 with z | z | z
    .obtain⟨k0,z3,_,e | ⟨e,_⟩⟩:=zM (env:=X.env) (names:=scope.names) z
     .rw [O.once _ t rfl] at z3;cases z3;cases e
     .cases e
    .show .inl z
    .show .inr z
   .obtain⟨o,ho,E⟩:=A;show⟨o,k _ _ ho,E⟩
 .rcases all x c e with⟨_,_,a3⟩ | ⟨r,_⟩
  .show⟨none,a3⟩
  .obtain⟨v,o,ho,E⟩:=I.cell x c r;show⟨v,o,k _ _ ho,E⟩
 .have e:p=(D,S):=by simpa using hp
  subst e;show⟨ad,I.hok.fresh W,Y,λz=>?_,aa⟩;rcases yy.mp (I.stkSub D z) with e | e
  .show absurd (show X.env.locals<D from yi I.lt W) (by rw[e];show Yw _)
  .show I.nofs W e
 .show(qfc nl ixs σ).length=N.length;rw[capS_len,hN]
theorem Inv.compBack{s':Shared}{h:St}(I:Inv X pins σ H s)(f:∀ b∈fp,qdZ X pins H b)(r:s.heap.objs.size<=C)(i:s.heap.objs.size<=D)
  (J:Inv (X.comp N scope C s H fp) [(D,{ cls:=.type "list",data:=.seq its.toArray n })] h H' s') (hv:Vals ys its) (l:ys.length<=sizeLine):Inv X pins σ (upd H' D (.lst ys)) s':=by
 obtain⟨p,d,m,_,_⟩:=J.pin (D,{ cls:=.type "list",data:=.seq its.toArray n }) (yQ _ (yr.mpr rfl));have g:∀ b o,s.heap.get? b=some o->b≠D:=λb o e=>Yk (yi (yM e) i);have a:=J.base;show I.call' (ch:=fp) J.os ⟨a.keep,a.slot,λb o e n j=>?_,a.there,λb xs e=>?_,λb o u e=>?_,λb ps e=>?_⟩ (λb u e=>?_) J.bare λb hb=>⟨(f b hb).2.2.2.1,(f b hb).2.1,(f b hb).2.2.2.2.1,(f b hb).2.2.2.2.2⟩
 .rw [qk (g b o e)];show a.free b o e n j
 .have q:=a.tups b xs e;rw[qk (qM q d)];show q
 .have q:=a.frzs b o u e;rw[qk (qM q d)];show q
 .obtain⟨more,q⟩:=a.tbls b ps e;show⟨more,by rw[qk (qM q d)];show q⟩
 .by_cases hb:b=D
  .subst hb;rw[qb] at e;cases e;show⟨l,its,n,hv,p⟩
  .rw [qk hb] at e;show(J.hok b u e).stay (λc v _ q=>q) (λc q=>by rw[qk (qM q d)];show q) λc xs q=>by rw[qk (qM q d)];show q
end
def qie:TT:=λ_ H Q=>Q true H
def qgj(wi:TI)(g:TG)(tc:TT)(te:TE)(nl:Nat)(ixs:LN):TE:=fun σ H Q=>wi σ H λJ e =>
 ∃ W:Nat->Nat->List V->Hp->Prop,(∃ m,W 0 m [] e)/\∀ i m ys H,W i m ys H ->
  (J.stop i H/\ys.length<=sizeLine/\∀ p,H p=none->Q (.ref p) (upd H p (.lst ys))) \/
  (J.go i H/\∃ M:List V->Hp->Prop,(∀ ys' H',M ys' H'->∃ d,d<m/\W (i+1) d ys' H')/\∀ x H',J.yld i H x H'->g x (qfc nl ixs σ) H' λa f=>tc a f λb c =>
   if b=true then te a c λv h=>ys.length<sizeLine/\M (ys++[v]) h else M ys c)
def qfq(nl:Nat)(g:TG):Prop:=∀ x σ H Q,g x σ H Q->g x σ H λa b=>Q a b/\a.length=σ.length/\∀ i,nl<=i->a[i]?=σ[i]?
theorem qE{i:Nat}(h:i<nl:=by decide):qfq nl (qcB i):=λx σ H Q q=>⟨q,kc ..,λj a=>xp (by lk)⟩
def qhy(X:Cx)(ifs:List Expr)(tc:TT):Prop:=
 ∀(pins:List (Addr×Obj)) (s:Shared) (σ:St) (H:Hp) (Q:Bool->Hp->Prop),Inv X pins σ H s->tc σ H Q ->
  wpAny (model X.prog X.w) X.A (forIn ifs true λc r=>if r=true then do let ok <- isTrue c X.env (eval c X.env);pure (ForInStep.yield ok) else pure (ForInStep.yield r)) (TP X pins σ Q) X.xe s
theorem jh:qhy X [] qie:=λpins s σ H Q I h=>wpAny_tests_nil ⟨H,I,h⟩
theorem qP{c:Expr}(h:PT X c tc):qhy X [c] tc:=λpins s σ H Q I q=>wpAny_tests_one (h pins s σ H Q I q)
section
variable{X:Cx}{pins:List (Addr×Obj)}{σ:St}{H:Hp}{s:Shared}
theorem qcK{tn:Nat->Heap->Prop}{J:It}{Q:V->Hp->Prop}
  {RR:Value->Addr->Result->Shared->Prop} (I:Inv X pins σ H s) (hc:X.calm=true) (O:CompOk X.env.scope scope)
  (hN:N.length=nl+ixs.length) (ai:∀(k j:Nat) (x:Str),ixs[k]?=some j->N[nl+k]?=some x->X.N[j]?=some x/\(x,NameKind.free)∈scope.names)
  (T:Turn X.prog X.w X.K tg J fp it tn) (st:tn 0 s.heap) (hf:∀ b∈fp,qdZ X pins H b)
  (hg:∀ C s0 H0 ex,PG (X.comp N scope C s0 H0 ex) tg g) (gk:qfq nl g) (hi:∀ C s0 H0 ex,qhy (X.comp N scope C s0 H0 ex) ifs tc) (he:∀ C s0 H0 ex,PE (X.comp N scope C s0 H0 ex) elt te)
  (h:∃ W:Nat->Nat->List V->Hp->Prop,(∃ m,W 0 m [] H)/\∀ i m ys H,W i m ys H ->
   (J.stop i H/\ys.length<=sizeLine/\∀ p,H p=none->Q (.ref p) (upd H p (.lst ys))) \/
   (J.go i H/\∃ M:List V->Hp->Prop,(∀ ys' H',M ys' H'->∃ m',m'<m/\W (i+1) m' ys' H')/\∀ x H',J.yld i H x H'->g x (qfc nl ixs σ) H' λap a=>tc ap a λb H3 =>
    if b=true then te ap H3 λv H4=>ys.length<sizeLine/\M (ys++[v]) H4 else M ys H3))
  (aw:∀(D C:Addr) (s':Shared) (H':Hp) (R:St) (ys:List V) (its:List Value) (n:Nat),s.heap.objs.size<=C->s.heap.objs.size<=D->Inv (X.comp N scope C s H fp) [(D,{ cls:=.type "list",data:=.seq its.toArray n })] R H' s'->Vals ys its->ys.length<=sizeLine ->
   (∀ p,H' p=none->Q (.ref p) (upd H' p (.lst ys)))->RR (.ref D) C (.ok .next) s') :
  wpAny (model X.prog X.w) X.A (newList []) (λacc s3=>wpAny (model X.prog X.w) X.A (newFunctionEnv scope X.env.globals (qV X.env scope.names []) [] X.env.qual none .none (some X.env)) (λU s4 =>
   codeAny (model X.prog X.w) X.A (.compStart (.ListComp elt [⟨tg,iter,ifs,0⟩] scope pos) 0 (.ref it) acc { U with scope:=relabel scope X.env }) (RR acc U.locals) s4) E s3) E s:=by
 obtain⟨W,⟨m0,w0⟩,ao⟩:=h;show xP (newEnvK ?_);dsimp only;generalize ab:s.heap.push { cls:=.type "list",dict:=none,data:=.seq ([]:List Value).toArray }=a;have Z:(pushCells (a.push { cls:=.type "dict",data:=.dict #[] }) scope.names).Ns a.objs.size λ_=>none:=(Heap.Ns.new a (.type "dict")).keeps (pushCells_keeps _ _);have F:=cellsFrom_ok scope.names (a.push { cls:=.type "dict",data:=.dict #[] }) (a.objs.size+1) [] ⟨λ_ _ hm=>(nomatch hm),List.Pairwise.nil⟩ (by rw[xq];show yg _);rw[xq] at F;have ac:∀ b o,a.get? b=some o->(pushCells (a.push { cls:=.type "dict",data:=.dict #[] }) scope.names).get? b=some o:=λb o e=>pushCells_keeps _ _ b o (yu _ e);generalize pushCells (a.push { cls:=.type "dict",data:=.dict #[] }) scope.names=h1 at Z F ac ⊢;have hC:a.objs.size=s.heap.objs.size+1:=by rw[<- ab,xq]
 have av:s.heap.objs.size≠a.objs.size:=by rw[hC];show Yk (XM _)
 have Y:s.heap.objs.size<=a.objs.size:=by rw[hC];show YO _
 have f:∀ b,b<s.heap.objs.size->b≠a.objs.size/\b≠s.heap.objs.size:=λb hb=>⟨by rw[hC];show Yk (Nat.lt_succ_of_lt hb),Yk hb⟩;have ad:∀ b o,s.heap.get? b=some o->h1.get? b=some o:=λb o e=>ac b o (ab ▸ yu _ e);have ag:h1.get? s.heap.objs.size=some { cls:=.type "list",data:=.seq ([]:List Value).toArray }:=ac _ _ (ab ▸ yS _ rfl)
 have B:∀ b∈fp,b<s.heap.objs.size:=λb hb=>by
  obtain⟨o,ho,_⟩:=T.obj 0 _ st b hb;show yM ho
 have aa:∀ s3:Shared,s3={ s with heap:=h1 } ->
   codeAny (model X.prog X.w) X.A (.compLoop (.ListComp elt [⟨tg,iter,ifs,0⟩] scope pos) 0 (.ref it) (.ref s.heap.objs.size) (compEnvC scope (cellsFrom (a.objs.size+1) scope.names (qV X.env scope.names [])) a.objs.size X.env)) (RR (.ref s.heap.objs.size) a.objs.size) s3:=by
  rintro s3 rfl;have I0:=I.comp (N:=N) (C:=a.objs.size) (D:=s.heap.objs.size) (h1:=h1) (tk:=s.toks) O hN ai hf B Y (yg _) av Z ad ag (λv z=>by cases z) F
  have t:∀{H':Hp} {R:St} {s':Shared} {pl:List (Addr×Obj)},Inv (X.comp N scope a.objs.size s H fp) pl R H' s'->(∀ p∈pl,p.1=s.heap.objs.size)->(∀ b∈fp,H' b=none)->∀ b∈fp,qdZ (X.comp N scope a.objs.size s H fp) pl H' b:=λ{H' R s' pl} J ay hn b hb =>
   ⟨hn b hb,(f b (B b hb)).1,λz=>(by
     rcases yy.mp (I.stkSub b z) with e | e
     .show(hf b hb).2.1 e
     .show(hf b hb).2.2.1 e),.inl hb,J.ok.exf b hb |>.2,λp L z=>by
    have e:=ay p (by simpa using L);rw[e] at z;show(f b (B b hb)).2 z.symm⟩
  show compLoop_own (λk s'=>∃ i H' ys its n,Inv (X.comp N scope a.objs.size s H fp) [(s.heap.objs.size,{ cls:=.type "list",data:=.seq its.toArray n })] (qfc nl ixs σ) H' s'/\tn i s'.heap/\(∀ b∈fp,H' b=none)/\Vals ys its/\W i k ys H') ?_ m0
   ⟨0,H,[],[],0,I0,T.keep _ _ _ st λb _ o e=>ad b o e,λb hb=>(hf b hb).1,.nil,w0⟩
  rintro k s' ⟨i,H',ys,its,n,J1,am,af,v1,w1⟩
  have one:∀ p∈[((s.heap.objs.size,{ cls:=.type "list",data:=.seq its.toArray n }):Addr×Obj)],p.1=s.heap.objs.size:=λp L=>by
   have e:p=_:=yr.mp L;rw[e]
  rcases ao i k ys H' w1 with⟨an,hz,q⟩ | ⟨go,M,hM,step⟩
  .show thn (T.done (X.comp N scope a.objs.size s H fp) rfl rfl rfl hc i _ s' _ H' _ J1 (t J1 one af) am an) λr s4 ⟨hr,J4⟩=>?_;subst hr;show aw _ _ s4 H' _ ys its n Y (yg _) J4 v1 hz q
  .show thn (T.item (X.comp N scope a.objs.size s H fp) rfl rfl rfl hc i _ s' _ H' _ J1 (t J1 one af) am go) λr s4 ⟨u,hr,h4⟩=>?_;subst hr;show thn h4 λ_ s5 ⟨x,H5,J5,r5,y5,ae,ar⟩=>?_;have aq:=J5.pinned (t J5 one ar) (T.obj _ _ ae);show thn (hg _ _ _ _ _ s5 _ H5 x u _ aq r5 (gk _ _ _ _ (step x H5 y5))) λ_ s6 ⟨S,H6,J6,q6,l6,k6⟩=>?_;show thn (hi _ _ _ _ _ s6 S H6 _ J6 q6) λok s7 ⟨H7,J7,q7⟩=>?_;have l:∀{P:Shared} {H8:Hp} {ys':List V} {k':Nat},Inv (X.comp N scope a.objs.size s H fp) ([((s.heap.objs.size,{ cls:=.type "list",data:=.seq its.toArray n }):Addr×Obj)]++qdt fp s5.heap) S H8 P ->
     (∀ b o,b≠s.heap.objs.size->P.heap.get? b=some o->P.heap.get? b=some o)->tn (i+1) P.heap/\∀ b∈fp,H8 b=none:=λ{P H8 ys' k'} J8 _=>by
    show⟨T.keep _ _ _ ae λb hb o e=>(J8.pin (b,o) (yQ _ (yQ _ (qaQ hb e)))).1,λb hb=>?_⟩;obtain⟨o,e,d⟩:=T.obj _ _ ae b hb;show(J8.pin (b,o) (yQ _ (yQ _ (qaQ hb e)))).2.1
   have wk:∀(j:Nat) v,(qfc nl ixs σ)[j]?=some (some v)->S[j]?=some (some v):=λj v e=>by
    obtain⟨hj,_⟩:=qex e;rw[k6 j hj];show e
   cases ok with
   | false =>
    rw[yB YC] at q7 ⊢;obtain⟨m',hm,w7⟩:=hM _ _ q7;obtain⟨ba,as⟩:=l (ys':=ys) (k':=0) J7 (λ_ _ _ e=>e);show⟨m',hm,i+1,H7,ys,its,n,J7.unpinned.weak l6.symm wk,ba,as,v1,w7⟩
   | true =>
    rw[yH rfl] at q7 ⊢;show thn (he _ _ _ _ _ s7 S H7 _ J7 q7) λy P ⟨v,H8,J8,r8,bc,mq⟩=>?_;obtain⟨m',hm,w8⟩:=hM _ _ mq;obtain⟨bb,au⟩:=l (ys':=ys) (k':=0) J8 (λ_ _ _ e=>e);have J9:=J8.unpinned;obtain⟨pD,nD,al,az,_⟩:=J9.pin (s.heap.objs.size,{ cls:=.type "list",data:=.seq its.toArray n }) (yQ _ (yr.mpr rfl));show wpAny_list_append_plain (hsz:=by rw[yz,<- v1.length];lk) ⟨n,pD⟩ λh9 G ak=>?_;obtain⟨n9,G⟩:=G;have e9:(its.toArray.push y)=(its++[y]).toArray:=by simp
    rw[e9] at G
    have Ja:Inv (X.comp N scope a.objs.size s H fp) [] (qfc nl ixs σ) H8 { P with heap:=h9,toks:=P.toks }:=
     ((J9.pins_of (pins':=[]) λp L=>absurd L (by simp)).turned (it:=s.heap.objs.size) (h':=h9) (t':=P.toks) (λb o hb e=>(ak.2 b hb).trans e) nD al (.inr (yg _))
      (λx c e z=>by
       rcases qcj e with w | e
       .have:=(F.empty _ _ w).2;rw[z,hC] at this;show absurd (yh (YO _) this) (Nat.not_succ_le_self _)
       have:=qar e;rcases this with⟨ax,hcc⟩ | hcc
       .obtain⟨c',ah⟩:=I.ok.has x (by
         rcases O.free _ ax rfl with q | q
         .show .inl q
         .show .inr q)
        rw[ah] at hcc;have aj:c=c':=hcc;obtain⟨_,q⟩:=I.cell x c' ah;rw[<- aj,z] at q;show absurd q.lt (Yw _)
       .cases hcc) (λp L=>absurd L (by simp))).weak l6.symm wk
    show⟨m',hm,i+1,H8,ys++[v],its++[y],n9,Ja.pins_of λp L=>?_,?_,au,v1.append (.cons r8 .nil),w8⟩
    .have e:p=_:=yr.mp L;subst e;show⟨G,nD,al,az,λv z=>by cases z⟩
    .show T.keep _ _ _ bb λb hb o e=>(ak.2 b (f b (B b hb)).2).trans e
 show codeAny_compStart_list (aa _ rfl) (T.self _ 0 _ _ _ (T.keep _ _ _ st λb _ o e=>ad b o e) (aa _ rfl))
end
section
variable{X:Cx}{tg elt iter:Expr}{ifs:List Expr}{scope:Scope}{pos:Pos}{N:LS}{nl:Nat}{ixs:LN}{wi:TI}{g:TG}{tc:TT}{te:TE}
theorem qG{XN:LS}(N:LS)(nl:Nat)(ixs:LN)(F:X.env.scope=sc)(y:X.N=XN)(hc:X.calm=true)(M:qgh sc scope=true)(U:N.length=nl+ixs.length)(d:qh1 nl ixs N XN scope.names=true)
  (hi:PI X tg iter wi) (Z:∀ C t i j,PG (X.comp N scope C t i j) tg g) (P:qfq nl g) (ht:∀ C t i j,qhy (X.comp N scope C t i j) ifs tc) (Y:∀ C t i j,PE (X.comp N scope C t i j) elt te)
  (hs:∀ x,foldedSetIterable iter X.env x=pure x:=by intro _;rfl):PE X (.ListComp elt [⟨tg,iter,ifs,0⟩] scope pos) (qgj wi g tc te nl ixs):=by
 intro pins s σ H Q I h;subst F y;have O:=qew M;have r:=qfp d;rw[eval_ListComp]
 have E:=qbi (scope:=scope) (env:=X.env) λn hn=>I.ok.has n (by
  rcases O.free _ hn rfl with z | z
  .show .inl z
  .show .inr z)
 show wpAny_comprehension_free (use:=none) rfl hs E O.kind O.loc (thn (hi pins s σ H _ I h) λv s1 h1=>thn h1 λaa s2 R=>?_);obtain⟨it,fp,tn,J,H2,e,f,T,K,L,W⟩:=R;subst e;show qcK (Q:=Q) (RR:=λacc C=>compPost (model X.prog X.w) X.A X.xe none (EP X pins σ Q) acc C) f hc O U r T K L Z P ht Y W ?_;intro D C s' H' ab ys its n l S u hv hz q;obtain⟨m,hn,_⟩:=id u.loc;have B:=f.compBack L l S u hv hz;obtain⟨_,nD,G,_,_⟩:=u.pin (D,{ cls:=.type "list",data:=.seq its.toArray n }) (yQ _ (yr.mpr rfl));show⟨m,hn,λh' sb=>⟨.ref D,_,?_,rfl,q D nD⟩⟩;show B.turned (it:=C) (h':=h') (t':=s'.toks) (λb o hb e=>(sb.2 b hb).trans e) ((qk (H:=H') (a:=D) (b:=C) (o:=.lst ys) (Yv G)).trans u.free) (xO (yi f.lt l)) (.inr (yh f.sz l)) (λx c e z=>?_) (λp hp z=>?_)
 .obtain⟨_,q⟩:=f.cell x c e;show absurd (yi q.lt (by rw[z];show l)) (Yw _)
 .show absurd (yi (yM (f.pin p hp).1) (by rw[z];show l)) (Yw _)
theorem qbE{i:Nat}{y:Str}{r f:Pos}{XN:LS}(N:LS)(nl:Nat)(ixs:LN)(W:X.env.scope=sc)(E:X.N=XN)(hc:X.calm=true)(O':qgh sc scope=true)(hN:N.length=nl+ixs.length)(l:qh1 nl ixs N XN scope.names=true)
  (P:X.N.Nodup) (S:X.N[i]?=some y) (hy:X.env.scope.names.lookup y=some .local)
  (hi:PI X tg iter wi) (hg:∀ C G t u,PG (X.comp N scope C G t u) tg g) (gk:qfq nl g) (ht:∀ C G t u,qhy (X.comp N scope C G t u) ifs tc) (he:∀ C G t u,PE (X.comp N scope C G t u) elt te)
  (Y:swapsWith (.ListComp elt [⟨tg,iter,ifs,0⟩] scope pos) (some (.Name y r)) f.line X.env=pure true:=by rfl)
  (hs:∀ x,foldedSetIterable iter X.env x=pure x:=by intro _;rfl):PS X (.Assign [.Name y r] (.ListComp elt [⟨tg,iter,ifs,0⟩] scope pos) f) (qhj (qgj wi g tc te nl ixs) (qcB i)):=by
 intro pins s σ H L I h;subst W E;have O:=qew O';have F:=qfp l
 have R:=qbi (scope:=scope) (env:=X.env) λn hn=>I.ok.has n (by
  rcases O.free _ hn rfl with z | z
  .show .inl z
  .show .inr z)
 rw[exec_Assign_Name_used _ _ _ _ Y];show yq (Xw (yq ?_));show wpAny _ X.A (do let _ <- comprehension (.ListComp elt [⟨tg,iter,ifs,0⟩] scope pos) scope X.env _ (newList []) false (eval iter X.env) (some (assign (.Name y r) X.env))) _ _ s;show yq (YD (wpAny_comprehension_free (use:=some (assign (.Name y r) X.env)) (Q:=λ_ s'=>SP X pins L .next s') rfl hs R O.kind O.loc
  (thn (hi pins s σ H _ I h) λv s1 h1=>thn h1 λac s2 h2=>?_)) (λ_ s' hq=>yA (yA hq)) λ_ _ e=>e)
 obtain⟨it,fp,tn,J,H2,e,d,T,ab,f2,hW⟩:=h2;subst e;show qcK (Q:=λv H'=>qcB i v σ H' L.nx) (RR:=λacc C=>compPost (model X.prog X.w) X.A X.xe (some (assign (.Name y r) X.env)) (λ_ s'=>SP X pins L .next s') acc C) d hc O hN F T ab f2 hg gk ht he hW ?_;intro D C s' H' ad ys its n j hD K hv hz q;obtain⟨m,hn,_⟩:=id K.loc;have B:=d.compBack f2 j hD K hv hz;obtain⟨_,nD,Z,_,_⟩:=K.pin (D,{ cls:=.type "list",data:=.seq its.toArray n }) (yQ _ (yr.mpr rfl));show wpAny _ X.A (assign (.Name y r) X.env (.ref D)) _ _ _;show wpAny_assign_Name (qdr (i:=i) (x:=y) (v:=.ref D) B P S (.inl hy) rfl (λaa B' U=>?_) (.inr hy));obtain⟨a,sa,ha⟩:=U
 have M:C≠a:=by
  rintro rfl;rcases ha with z | z
  .show absurd (show X.env.locals<C from yi d.lt j) (by rw[z];show Yw _)
  .obtain⟨_,q⟩:=d.cell y C z;show absurd (yi q.lt j) (Yw _)
 show⟨m,hn.sameBut sa M,λh' sb=>⟨_,_,?_,q D nD⟩⟩;show B'.turned (it:=C) (h':=h') (t':=aa.toks) (λb o hb e=>(sb.2 b hb).trans e) ((qk (H:=H') (a:=D) (b:=C) (o:=.lst ys) (Yv Z)).trans K.free) (xO (yi d.lt j)) (.inr (yh d.sz j)) (λx c e z=>?_) (λp hp z=>?_)
 .obtain⟨_,q⟩:=d.cell x c e;show absurd (yi q.lt (by rw[z];show j)) (Yw _)
 .show absurd (yi (yM (d.pin p hp).1) (by rw[z];show j)) (Yw _)
end
def Its(x:Str):It:=⟨λi _=>i<x.cps.size,λi H v H'=>H'=H/\∃ c,x.cps[i]?=some c/\v=.str ⟨#[c]⟩,λi _=>i=x.cps.size⟩
theorem qey{K:yf}{t:Tok}(W:∀ A:Around,A.handled=none->Walks P w A it [it] [it] x.cps.size (SignAt x) λi h=>h.IsStrIter it T x t i)
  (J:∀(A:Around) (i:Nat) (s:Shared) (Q:Value->Shared->Prop) (E:Value->Shared->Prop),s.heap.IsStrIter it T x t i->Q (.ref it) s->wpAny (model P w) A (pyIter (.ref it)) Q E s)
  (B:∀ v,letOwnedTupleGo tg (.ref it) v=pure ()):Turn P w K tg (Its x) [it] it (λi h=>h.IsStrIter it T x t i) where
 mem:=by simp
 obj:=λi h st b hb=>by
  have e:b=it:=by simpa using hb
  subst e;obtain⟨o,e,c,d⟩:=st;show⟨o,e,λv z=>by rw[d] at z;cases z⟩
 keep:=λi h h' st k=>by
  obtain⟨o,e,r⟩:=st;show⟨o,k it (by simp) o e,r⟩
 item:=by
  intro X p hw n hc i pins s σ H E I a st y;subst p hw n;obtain⟨f,g,G,j,l,m⟩:=a it (by simp);show(W X.A (I.ok.hd hc)).item i s _ _ y st λv h' tk hv D C=>?_;obtain⟨c,u,q,rfl⟩:=hv;have F:Inv X pins σ H { s with heap:=h',toks:=tk }:=I.turned (λb o hb e=>C b o (by simpa using hb) e) f g j l m;show⟨_,rfl,xj (B _) ⟨.str ⟨#[c]⟩,H,F,⟨u,rfl⟩,⟨rfl,c,q,rfl⟩,D,λb hb=>(a b hb).1⟩⟩
 done:=by
  intro X p hw n hc i pins s σ H E I a st y;subst p hw n;obtain⟨f,g,G,j,l,m⟩:=a it (by simp);have e:i=x.cps.size:=y;subst e;show(W X.A (I.ok.hd hc)).done s _ _ st λh' tk C=>⟨rfl,I.turned (λb o hb e=>C b o (by simpa using hb) e) f g j l m⟩
 self:=J
section
variable{X:Cx}{tg:Expr}
end
section
variable{K:yf}{a:Addr}{xs:List V}{g:TG}{tc:TT}{te:TE}{σ':St}{H1:Hp}{Q:V->Hp->Prop}
def qd5(J:It)(g:TG)(tc:TT)(te:TE)(σ':St)(H1:Hp)(Q:V->Hp->Prop):Prop:=
 ∃ W:Nat->Nat->List V->Hp->Prop,(∃ m,W 0 m [] H1)/\∀ i m ys H,W i m ys H ->
   (J.stop i H/\ys.length<=sizeLine/\∀ p,H p=none->Q (.ref p) (upd H p (.lst ys))) \/
   (J.go i H/\∃ M:List V->Hp->Prop,(∀ ys' H',M ys' H'->∃ d,d<m/\W (i+1) d ys' H')/\∀ x H',J.yld i H x H'->g x σ' H' λa e=>tc a e λb c =>
    if b=true then te a c λv f=>ys.length<sizeLine/\M (ys++[v]) f else M ys c)
theorem qx(c:Nat->List V->Hp->Prop)(h0:c 0 [] H1)(hl:∀ i ys H,i<=xs.length->c i ys H->SqL K H a xs)
  (r:∀ i x ys H,xs[i]?=some x->c i ys H->g x σ' H λf j=>tc f j λb h=>if b=true then te f h λv l=>ys.length<sizeLine/\c (i+1) (ys++[v]) l else c (i+1) ys h)
  (n:∀ ys H,c xs.length ys H->ys.length<=sizeLine/\∀ p,H p=none->Q (.ref p) (upd H p (.lst ys))):qd5 (Itl K a) g tc te σ' H1 Q:=by
 show⟨λi m ys H=>m=xs.length-i/\i<=xs.length/\c i ys H,⟨xs.length,by simp,Yi _,h0⟩,?_⟩;rintro i m ys H ⟨rfl,o,p⟩;have q:=hl i ys H o p;by_cases d:i<xs.length
 .show .inr ⟨⟨xs,xs[i],q,by simp[d]⟩,c (i+1),λys' H' s=>⟨xs.length-(i+1),by lk,rfl,d,s⟩,λx H' y=>?_⟩;obtain⟨e,y⟩:=y;subst e;show r i x ys _ (y xs q) p
 .have e:i=xs.length:=by lk
  subst e;show .inl ⟨⟨xs,q,yg _⟩,n ys H p⟩
theorem comp_tup(c:Nat->List V->Hp->Prop)(h0:c 0 [] H1)(hl:∀ i ys H,i<=xs.length->c i ys H->SqT K H a xs)
  (r:∀ i x ys H,xs[i]?=some x->c i ys H->g x σ' H λf j=>tc f j λb h=>if b=true then te f h λv l=>ys.length<sizeLine/\c (i+1) (ys++[v]) l else c (i+1) ys h)
  (n:∀ ys H,c xs.length ys H->ys.length<=sizeLine/\∀ p,H p=none->Q (.ref p) (upd H p (.lst ys))):qd5 (Itt K a) g tc te σ' H1 Q:=by
 show⟨λi m ys H=>m=xs.length-i/\i<=xs.length/\c i ys H,⟨xs.length,by simp,Yi _,h0⟩,?_⟩;rintro i m ys H ⟨rfl,o,p⟩;have q:=hl i ys H o p;by_cases d:i<xs.length
 .show .inr ⟨⟨xs,xs[i],q,by simp[d]⟩,c (i+1),λys' H' s=>⟨xs.length-(i+1),by lk,rfl,d,s⟩,λx H' y=>?_⟩;obtain⟨e,y⟩:=y;subst e;show r i x ys _ (y xs q) p
 .have e:i=xs.length:=by lk
  subst e;show .inl ⟨⟨xs,q,yg _⟩,n ys H p⟩
theorem qcL{lo:Int}(a:Nat->List V->Hp->Prop)(h0:a 0 [] H1)
  (o:∀ i ys H,i<n->a i ys H->g (.int (lo+i)) σ' H λd h=>tc d h λb f=>if b=true then te d f λv j=>ys.length<sizeLine/\a (i+1) (ys++[v]) j else a (i+1) ys f)
  (l:∀ ys H,a n ys H->ys.length<=sizeLine/\∀ p,H p=none->Q (.ref p) (upd H p (.lst ys))):qd5 (Itr lo n) g tc te σ' H1 Q:=by
 show⟨λi m ys H=>m=n-i/\i<=n/\a i ys H,⟨n,by simp,Yi _,h0⟩,?_⟩;rintro i m ys H ⟨rfl,r,p⟩;by_cases c:i<n
 .show .inr ⟨c,a (i+1),λys' H' q=>⟨n-(i+1),by lk,rfl,c,q⟩,λx H' y=>?_⟩;obtain⟨e,y⟩:=y;subst e y;show o i ys _ c p
 .have e:i=n:=by lk
  subst e;show .inl ⟨yg _,l ys H p⟩
theorem qez(a:Nat->List V->Hp->Prop)(h0:a 0 [] H1)
  (o:∀ i c ys H,x.cps[i]?=some c->a i ys H->g (.str ⟨#[c]⟩) σ' H λf j=>tc f j λb h=>if b=true then te f h λv l=>ys.length<sizeLine/\a (i+1) (ys++[v]) l else a (i+1) ys h)
  (n:∀ ys H,a x.cps.size ys H->ys.length<=sizeLine/\∀ p,H p=none->Q (.ref p) (upd H p (.lst ys))):qd5 (Its x) g tc te σ' H1 Q:=by
 show⟨λi m ys H=>m=x.cps.size-i/\i<=x.cps.size/\a i ys H,⟨x.cps.size,by simp,Yi _,h0⟩,?_⟩;rintro i m ys H ⟨rfl,r,p⟩;by_cases d:i<x.cps.size
 .show .inr ⟨d,a (i+1),λys' H' q=>⟨x.cps.size-(i+1),by lk,rfl,d,q⟩,λv H' y=>?_⟩;obtain⟨e,c,hc,y⟩:=y;subst e y;show o i c ys _ hc p
 .have e:i=x.cps.size:=by lk
  subst e;show .inl ⟨rfl,n ys H p⟩
end
def qdH:V->Option Value
 | .ty n=>some (.type n)
 | .ref a=>some (.ref a)
 | _=>none
theorem qcM{c:Value}(h:qdH y=some c)(r:RelV y u):u=c:=by
 cases y with
 | ty n=>cases h;show r
 | ref a=>cases h;show r
 | _=>cases h
section
variable{X:Cx}{pins:List (Addr×Obj)}{σ:St}{H:Hp}{s:Shared}
theorem TyOf.kit{x:V}(I:Inv X pins σ H s)(b:RelV x u)(ty:TyOf X.K H x t):∃ P:Heap->Prop,PySem.W.KitX X.K u t P/\P s.heap/\u≠.builtin "__main__.__loader__#opaque":=by
 cases ty with
 | non=>cases (show u=Value.none from b);show⟨_,PySem.W.kitx_none,YK,(λz=>nomatch z)⟩
 | bl y=>cases (show u=Value.bool y from b);show⟨_,PySem.W.kitx_bool,YK,(λz=>nomatch z)⟩
 | int i=>obtain⟨t,q⟩:=(show ∃ t,u=Value.int i t from b);cases q;show⟨_,PySem.W.kitx_int,YK,(λz=>nomatch z)⟩
 | str y=>obtain⟨t,q⟩:=(show ∃ t,u=Value.str y t from b);cases q;show⟨_,PySem.W.kitx_str,YK,(λz=>nomatch z)⟩
 | flt y=>obtain⟨t,q⟩:=(show ∃ t,u=Value.float y t from b);cases q;show⟨_,PySem.W.kitx_float,YK,(λz=>nomatch z)⟩
 | @lst a xs ea =>
  cases (show u=Value.ref a from b);obtain⟨_,_,n,_,h1⟩:=(show ObjOk X.prog X.w H s.heap a (.lst xs) from I.hok a _ ea);show⟨_,PySem.W.kitx_list,⟨_,h1,rfl⟩,(λz=>nomatch z)⟩
 | @frz a ob xs ea =>
  cases (show u=Value.ref a from b);obtain⟨_,_,_,n,_,h1⟩:=(show ObjOk X.prog X.w H s.heap a (.frz ob (.lst xs)) from I.hok a _ ea);show⟨_,PySem.W.kitx_list,⟨_,h1,rfl⟩,(λz=>nomatch z)⟩
 | @tup a xs ea =>
  cases (show u=Value.ref a from b);obtain⟨_,_,_,p⟩:=(show ObjOk X.prog X.w H s.heap a (.tup xs) from I.hok a _ ea);obtain⟨o,h1,c,_⟩:=p;show⟨_,PySem.W.kitx_tuple,⟨o,h1,c⟩,(λz=>nomatch z)⟩
 | @dK a kvs ea =>
  cases (show u=Value.ref a from b);obtain⟨_,_,vs,_,p⟩:=(show ObjOk X.prog X.w H s.heap a (.dK kvs) from I.hok a _ ea);obtain⟨o,d,ep,h1,c,_⟩:=p;show⟨_,PySem.W.kitx_dict,⟨o,h1,c.1⟩,(λz=>nomatch z)⟩
 | @dT a kvs ea =>
  cases (show u=Value.ref a from b);obtain⟨_,_,xs,_,o,d,ep,h1,c,_⟩:=(show ObjOk X.prog X.w H s.heap a (.dT kvs) from I.hok a _ ea);show⟨_,PySem.W.kitx_dict,⟨o,h1,c.1⟩,(λz=>nomatch z)⟩
 | @ins a C dx fs ea cl ha hn htk hm =>
  cases (show u=Value.ref a from b);obtain⟨e,O,_⟩:=qbC I.hok ea;obtain⟨od,J,_⟩:=O.look;show⟨_,PySem.W.kitx_own (cl.get _) cl.hd ha hn htk hm,J,(λz=>nomatch z)⟩
end
section
variable{X:Cx}
theorem qck:∀{ys:List V} {a us:List Value},ys.map qdH=a.map some->Vals ys us->us=a
 | [],[],_,_,.nil=>rfl
 | [],_::_,_,h,_=>by cases h
 | y::ys,[],_,h,_=>by cases h
 | y::ys,c::a,_,h,.cons r t=>by
  rw[Ys,Ys] at h
  injection h with h1 h2
  rw[qcM h1 r,qck h2 t]
theorem qeA:∀{bs:List Bool} {us:List Value},Vals (bs.map V.bl) us->us=bs.map Value.bool
 | [],_,.nil=>rfl
 | b::bs,_,.cons r t=>by
  have e:=qeA t;rw[e];cases r;rfl
def qif(K:yf):List V->Hp->VK->Prop:=λxs H Q=>∃(p:Addr) (bs:List Bool),xs=[.ref p]/\SqL K H p (bs.map V.bl)/\Q (.bl (bs.all id)) H
theorem call_all(hc:X.calm=true):zW X (.builtin "all") (qif X.K):=by
 intro pins s σ H xs us Q I r h;obtain⟨p,bs,rfl,n,q⟩:=h;obtain⟨u,rfl,w⟩:=qbf r;cases w;obtain⟨its,x,pl,y⟩:=I.list n;have e:=qeA x;subst e;have j:X.A.in1.handled=none:=I.ok.hd hc;show call_all_walk (XH pl.isList ?_)
 have f:p≠s.heap.objs.size:=by
  obtain⟨o,m,_⟩:=pl.isList;show Yk (yM m)
 show⟨s.heap.objs.size,_,_,_,_,_,λi=>(bs[i]?).getD false,rfl,Walks.list j s.heap.objs.size p f (bs.map Value.bool).toArray,⟨⟨_,yS _ rfl,rfl,rfl⟩,pl.isList.at λo e=>yu _ e⟩,λi v s Q E hv t=>?_,λh' tk l=>?_⟩
 .have a:(bs.map Value.bool)[i]?=some v:=by simpa using hv
  rw[yd] at a
  cases e:bs[i]? with
  | none=>rw[e] at a;cases a
  | some b =>
   rw[e] at a;cases a;have c:Q ((bs[i]?).getD false) s:=t;rw[e] at c;show yA c
 .have e:((List.range (bs.map Value.bool).toArray.size).all λi=>(bs[i]?).getD false)=bs.all id:=by
   rw[yz,ya]
   have key:∀ bs:List Bool,((List.range bs.length).all λi=>(bs[i]?).getD false)=bs.all id:=by
    intro bs
    induction bs with
    | nil=>rfl
    | cons b r ih =>
     rw[Yb,List.range_succ_eq_map,xU,xA,xU,<- ih];rfl
   show key bs
  rw[e];show⟨.bl _,H,?_,rfl,q⟩;have g:Inv X pins σ H { s with heap:=s.heap.push { cls:=.type "list_iterator",data:=.fields #[.ref p,.int 0 0] } }:=I.kept (t':=s.toks) λb o e=>yu _ e;have d:=I.fpOk (b:=s.heap.objs.size) (yg _) (I.hok.fresh (yg _));show g.turned (it:=s.heap.objs.size) (h':=h') (t':=tk) (λb o hb e=>l b o (by simpa using hb) e) d.1 d.2.1 d.2.2.2.1 d.2.2.2.2.1 d.2.2.2.2.2
theorem op_le_str:OpR X (compareOp .LtE) (λx y H Q=>∃ i j,x=.str i/\y=.str j/\Q (.bl (!decide (j.cps.toList<i.cps.toList))) H):=by
 intro pins s σ H x y v u Q I a b h;obtain⟨i,j,rfl,rfl,q⟩:=h;obtain⟨t,rfl⟩:=a;obtain⟨t',rfl⟩:=b;show PySem.P.le_str (qeq I q (by rfl))
def qh2:R2:=λx y H Q=>match x,y with
 | .int i,.int j=>Q (.bl (decide (i<=j))) H
 | .str i,.str j=>Q (.bl (!decide (j.cps.toList<i.cps.toList))) H
 | _,_=>False
theorem qeB:OpR X (compareOp .LtE) qh2:=by
 intro pins s σ H x y v u Q I a b h
 cases x with
 | int i=>cases y with
  | int j=>show op_le pins s σ H _ _ v u Q I a b ⟨i,j,rfl,rfl,h⟩
  | _=>show False.elim h
 | str i=>cases y with
  | str j=>show op_le_str pins s σ H _ _ v u Q I a b ⟨i,j,rfl,rfl,h⟩
  | _=>show False.elim h
 | _=>show False.elim h
theorem op_is_bl:OpR X (compareOp .Is) (λx y H Q=>∃ i j,x=.bl i/\y=.bl j/\Q (.bl (i==j)) H):=by
 intro pins s σ H x y v u Q I a b h;obtain⟨i,j,rfl,rfl,q⟩:=h;cases a;cases b;show wpAny_is_plain (by cases i<;>cases j<;>rfl) (qeq I q (by cases i<;>cases j<;>rfl))
def qh3:R2:=λx y H Q=>match x,y with
 | .bl i,.bl j=>Q (.bl (i==j)) H
 | x,.non=>Q (.bl (decide (x=.non))) H
 | _,_=>False
theorem qig:OpR X (compareOp .Is) qh3:=by
 intro pins s σ H x y v u Q I a b h
 cases y with
 | non=>show op_isN pins s σ H x _ v u Q I a b ⟨rfl,by cases x<;>show h⟩
 | bl j=>cases x with
  | bl i=>show op_is_bl pins s σ H _ _ v u Q I a b ⟨i,j,rfl,rfl,h⟩
  | _=>show False.elim h
 | _=>cases x<;>show False.elim h
theorem op_rep_str:OpR X (binaryOp .Mult) (λx y H Q=>∃ z k,x=.str z/\y=.int k/\MulOk z k/\Q (.str (Txt.mul z k)) H):=by
 intro pins s σ H x y v u Q I a b h;obtain⟨z,k,rfl,rfl,hm,q⟩:=h;obtain⟨t,rfl⟩:=a;obtain⟨t',rfl⟩:=b;show SB.mul hm λt' k'=>⟨.str _,H,I.tok _,⟨_,rfl⟩,q⟩
def qhz:R2:=λx y H Q=>match x,y with
 | .int i,.int j=>CMul i j/\Q (.int (i*j)) H
 | .str z,.int k=>MulOk z k/\Q (.str (Txt.mul z k)) H
 | .ref a,.int k=>rRep (.ref a) (.int k) H Q
 | _,_=>False
theorem qd6:OpR X (binaryOp .Mult) qhz:=by
 intro pins s σ H x y v u Q I b c h
 cases y with
 | int j=>cases x with
  | int i=>show op_mul pins s σ H _ _ v u Q I b c ⟨i,j,rfl,rfl,h.1,h.2⟩
  | str i=>show op_rep_str pins s σ H _ _ v u Q I b c ⟨i,j,rfl,rfl,h.1,h.2⟩
  | ref a=>show qcg pins s σ H _ _ v u Q I b c h
  | _=>show False.elim h
 | _=>cases x<;>show False.elim h
def qgk(K:yf):R2:=λx y H Q=>match x,y with
 | .int i,.int j=>Q (.int (i+j)) H
 | .str i,.str j=>i.length+j.length<=sizeLine/\Q (.str (i++j)) H
 | .ref a,.ref b=>rCat (.ref a) (.ref b) H Q\/rCatT K (.ref a) (.ref b) H Q
 | _,_=>False
theorem u_add:OpR X (binaryOp .Add) (qgk X.K):=by
 intro pins s σ H x y v u Q I c d h
 cases x with
 | int i=>cases y with
  | int j=>show op_add pins s σ H _ _ v u Q I c d ⟨i,j,rfl,rfl,h⟩
  | _=>show False.elim h
 | str i=>cases y with
  | str j=>show op_add_str pins s σ H _ _ v u Q I c d ⟨i,j,rfl,rfl,h.1,h.2⟩
  | _=>show False.elim h
 | ref a=>cases y with
  | ref b=>show h.elim (λh=>op_cat pins s σ H _ _ v u Q I c d h) λh=>op_catT pins s σ H _ _ v u Q I c d h
  | _=>show False.elim h
 | _=>show False.elim h
def qd7(K:yf):List V->Hp->VK->Prop:=λxs H Q=>match xs with
 | [.str z]=>z.length<=sizeLine/\Q (.int z.length) H
 | [.ref p]=>(∃ ys,(SqL K H p ys\/SqT K H p ys)/\Q (.int ys.length) H)\/∃ kvs,H p=some (.dK kvs)/\Q (.int kvs.length) H
 | _=>False
theorem call_lenU:zW X (.builtin "len") (qd7 X.K):=by
 intro pins s σ H xs us Q I r h
 match xs,h with
 | [.str z],h=>show call_len_str pins s σ H _ us Q I r ⟨z,rfl,h.1,h.2⟩
 | [.ref p],.inl ⟨ys,h,q⟩=>show call_len_seq pins s σ H _ us Q I r ⟨p,ys,rfl,h,q⟩
 | [.ref p],.inr ⟨kvs,h,q⟩=>show call_lenD pins s σ H _ us Q I r ⟨p,kvs,rfl,h,q⟩
theorem sl_str:SlR X (λx lo c H Q=>∃ z,x=.str z/\z.length<=sizeLine/\Q (.str (Txt.slice z lo c)) H):=by
 intro pins s σ H x v g m lo c f Q I e a pl d h;obtain⟨z,rfl,b,q⟩:=h;obtain⟨t,rfl⟩:=e;show⟨"str",_,F.slot_str_getitem.lookup,typeIs_str _ _ _,?_⟩
 cases pl with
 | none =>
  cases d with
  | none=>show Xa (l:=none) (u:=none) (st:=none) a rfl (kg ⟨yh (kY z _ _) b,λt' k=>⟨.str _,H,I.tok _,⟨_,rfl⟩,q⟩⟩)
  | int j uj=>show Xa (l:=none) (u:=some (j,uj)) (st:=none) a rfl (kg ⟨yh (kY z _ _) b,λt' k=>⟨.str _,H,I.tok _,⟨_,rfl⟩,q⟩⟩)
 | int i ui =>
  cases d with
  | none=>show Xa (l:=some (i,ui)) (u:=none) (st:=none) a rfl (kg ⟨yh (kY z _ _) b,λt' k=>⟨.str _,H,I.tok _,⟨_,rfl⟩,q⟩⟩)
  | int j uj=>show Xa (l:=some (i,ui)) (u:=some (j,uj)) (st:=none) a rfl (kg ⟨yh (kY z _ _) b,λt' k=>⟨.str _,H,I.tok _,⟨_,rfl⟩,q⟩⟩)
def qh4(K:yf):V->Option Int->Option Int->Hp->VK->Prop:=λx lo b H Q=>match x with
 | .str z=>z.length<=sizeLine/\Q (.str (Txt.slice z lo b)) H
 | .ref a=>rSlL K (.ref a) lo b H Q\/rSlT K (.ref a) lo b H Q
 | _=>False
theorem u_sl:SlR X (qh4 X.K):=by
 intro pins s σ H x v g i lo b f Q I e c pl d h
 cases x with
 | str z=>show sl_str pins s σ H _ v g i lo b f Q I e c pl d ⟨z,rfl,h.1,h.2⟩
 | ref a=>show h.elim (λh=>sl_list pins s σ H _ v g i lo b f Q I e c pl d h) λh=>sl_tup pins s σ H _ v g i lo b f Q I e c pl d h
 | _=>show False.elim h
theorem qfr:∀{ys:LS} {us:List Value},Vals (ys.map V.str) us->StrsAre us ys
 | [],_,.nil=>.nil
 | y::ys,_,.cons r t=>by
  obtain⟨tk,rfl⟩:=r;show .cons y tk (qfr t)
def qhA(K:yf):V->List V->Hp->VK->Prop:=λx vs H Q=>∃(z:Str) (p:Addr) (ys:LS),x=.str z/\vs=[.ref p]/\SqL K H p (ys.map V.str)/\(ys.map (·.length)).sum+ys.length*z.length<=16777216/\Q (.str (Txt.join z ys)) H
theorem mt_join:MtR X "str.join" (qhA X.K):=by
 intro pins s σ H x vs v us Q I e d h;obtain⟨z,p,ys,rfl,rfl,a,b,q⟩:=h;obtain⟨t,rfl⟩:=e;obtain⟨u,rfl,c⟩:=d.one;cases c;obtain⟨its,r,pl,_⟩:=I.list a;show join_list pl.isList (by simpa using qfr r) b λt' k=>⟨.str _,H,I.tok _,⟨_,rfl⟩,q⟩
def qhQ(K:yf)(te:TE):TI:=fun σ H R=>te σ H λv b=>match v with
 | .str x=>R (Its x) b
 | .ref a=>((∃ xs,SqL K b a xs)/\R (Itl K a) b)\/((∃ xs,SqT K b a xs)/\R (Itt K a) b)
 | _=>False
theorem pi_any{e:Expr}(u:PE X e te)(g:∀ it v,letOwnedTupleGo tg it v=pure ():=by intro _ _;rfl):PI X tg e (qhQ X.K te):=by
 intro pins s σ H R I h;show thn (u pins s σ H _ I h) λv c ⟨y,f,d,r,j⟩=>?_
 cases y with
 | str x =>
  obtain⟨t,rfl⟩:=r
  have fp:∀ b∈[c.heap.objs.size],qdZ X pins f b:=λb hb=>by
   have e:b=c.heap.objs.size:=by simpa using hb
   subst e;show d.fpOk (yg _) (d.hok.fresh (yg _))
  cases n:x.cps.all (· < 128)
  .show wpAny_pyIter_wide n ⟨c.heap.objs.size,[c.heap.objs.size],_,_,f,rfl,d.kept (t':=c.toks) λb o e=>yu _ e,
    qey (T:="str_iterator") (λA l=>Walks.strWide l _ x t) (λA i s Q E st h=>wpAny_pyIter_striter_wide st h) (g _),⟨_,yS _ rfl,rfl,rfl⟩,fp,j⟩
  .show wpAny_pyIter_ascii n ⟨c.heap.objs.size,[c.heap.objs.size],_,_,f,rfl,d.kept (t':=c.toks) λb o e=>yu _ e,
    qey (T:="str_ascii_iterator") (λA l=>Walks.strAscii l _ x t) (λA i s Q E st h=>wpAny_pyIter_striter_ascii st h) (g _),⟨_,yS _ rfl,rfl,rfl⟩,fp,j⟩
 | ref a =>
  cases r
  have fp:∀ b∈[c.heap.objs.size],qdZ X pins f b:=λb hb=>by
   have e:b=c.heap.objs.size:=by simpa using hb
   subst e;show d.fpOk (yg _) (d.hok.fresh (yg _))
  rcases j with⟨⟨xs,m⟩,q⟩ | ⟨⟨xs,m⟩,q⟩
  .obtain⟨its,z,p,w⟩:=d.list m;show XH p.isList ⟨c.heap.objs.size,[c.heap.objs.size],_,_,f,rfl,d.kept (t':=c.toks) λb o e=>yu _ e,qds a _,⟨_,yS _ rfl,rfl,rfl⟩,fp,q⟩
  .obtain⟨its,z,p,w⟩:=d.tuple m;show wpAny_pyIter_tuple (show c.heap.IsTuple a its.toArray from p) ⟨c.heap.objs.size,[c.heap.objs.size],_,_,f,rfl,d.kept (t':=c.toks) λb o e=>yu _ e,turn_tuple a _,⟨_,yS _ rfl,rfl,rfl⟩,fp,q⟩
 | _=>show False.elim j
end
section
variable{D:Ends}{σ:St}{H:Hp}{Q:VK}{QT:Bool->Hp->Prop}{QA:List V->Hp->Prop}{t u:TS}{te ta tb tc:TE}{c c':TT}{tr tas:TA}{r r':R2}{K:yf}
theorem vSeq(h:t { D with nx:=u D } σ H):qhp t u D σ H:=h
theorem vAsg{i:Nat}(h:te σ H λx a=>D.nx (σ.set i (some x)) a):qhj te (qcB i) D σ H:=h
theorem vAsgS{to a:TE}{s:qhr}(h:te σ H λx b=>to σ b λo c=>a σ c λi d=>s o i x d λe=>D.nx σ e):qhj te (qib to a s) D σ H:=h
theorem vIfS(h:c σ H λb a=>if b=true then t D σ a else u D σ a):qh9 c t u D σ H:=h
theorem vRet(h:te σ H D.rt):qhW te D σ H:=h
theorem vRetN(h:D.rt .non H):tRetN D σ H:=h
theorem vDrop(h:te σ H λ_ a=>D.nx σ a):qhq te D σ H:=h
theorem vNext(h:D.nx σ H):qho D σ H:=h
theorem vC(h:Q v H):tC v σ H Q:=h
theorem vVar{i:Nat}(e:σ[i]?=some (some v))(h:Q v H):qd1 i σ H Q:=⟨v,e,h⟩
theorem vOp(h:ta σ H λx a=>tb σ a λy b=>r x y b Q):tOp r ta tb σ H Q:=h
theorem vUn{f:V->Hp->VK->Prop}(h:ta σ H λx a=>f x a Q):tUn f ta σ H Q:=h
theorem vChain(h:ta σ H λx b=>tb σ b λy c=>r x y c λz a=>∃ k,z=.bl k/\if k=true then tc σ a λe d=>r' y e d Q else Q (.bl false) a):qff r r' ta tb tc σ H Q:=h
theorem vNil(h:QA [] H):qbT σ H QA:=h
theorem vCons(h:ta σ H λx a=>tr σ a λxs b=>QA (x::xs) b):qO ta tr σ H QA:=h
theorem vCB{f:List V->Hp->VK->Prop}(h:tas σ H λvs a=>f vs a Q):tCB f tas σ H Q:=h
theorem vCall{E:XK}(h:tas σ H λvs a=>sp (vs++[]) a Q E):qe1 sp [] E tas σ H Q:=h
theorem vLst(h:tas σ H λxs a=>NewL xs a Q):qe0 tas σ H Q:=h
theorem vTup(h:tas σ H λxs a=>NewT xs a Q):qg9 tas σ H Q:=h
theorem vTest(h:te σ H λx H'=>∃ k,x=.bl k/\QT k H'):qgf te σ H QT:=h
theorem vB(h:te σ H λx H'=>∃ k,x=.bl k/\QT k H'):tB te σ H QT:=h
theorem vNot(h:c σ H λb a=>QT (!b) a):qh7 c σ H QT:=h
theorem vAnd(h:c σ H λb a=>if b=true then c' σ a QT else QT false a):qh6 c c' σ H QT:=h
theorem vOr(h:c σ H λb a=>if b=true then QT true a else c' σ a QT):tOr c c' σ H QT:=h
theorem vAndV(h:ta σ H λx a=>∃ k,x=.bl k/\if k=true then tb σ a Q else Q (.bl false) a):qhm ta tb σ H Q:=h
theorem vOrV(h:ta σ H λx a=>∃ k,x=.bl k/\if k=true then Q (.bl true) a else tb σ a Q):qh8 ta tb σ H Q:=h
theorem vNotV(h:ta σ H λx a=>∃ k,x=.bl k/\Q (.bl (!k)) a):qhn ta σ H Q:=h
theorem vIf(h:c σ H λb a=>if b=true then ta σ a Q else tb σ a Q):tIf c ta tb σ H Q:=h
theorem vYes(h:QT true H):qie σ H QT:=h
theorem vI0{g:Int->Int->V}(h:Q (g i j) H):rI0 g (.int i) (.int j) H Q:=⟨i,j,rfl,rfl,h⟩
theorem vI{C:Int->Int->Prop}{g:Int->Int->V}(hc:C i j)(h:Q (g i j) H):rI C g (.int i) (.int j) H Q:=⟨i,j,rfl,rfl,hc,h⟩
theorem vU{g:Int->V}(h:Q (g i) H):rU g (.int i) H Q:=⟨i,rfl,h⟩
theorem vEqI(h:Q (.bl (decide (i=j))) H):rEq (.int i) (.int j) H Q:=⟨rfl,by
 have e:decide (V.int i=V.int j)=decide (i=j):=by
  by_cases h:i=j
  .subst h;simp
  .rw [yk h,yk (λe=>h (V.int.inj e))]
 rw[e];show h⟩
theorem vEqB{i j:Bool}(h:Q (.bl (i==j)) H):rEq (.bl i) (.bl j) H Q:=⟨rfl,by rw[dec_bl];show h⟩
theorem qbW(b:H p=some (.lst xs))(a:atI xs i=some v)(h:Q v H):rIx K (.ref p) (.int i) H Q:=.inl ⟨p,xs,i,v,rfl,rfl,SqL.of b,a,h⟩
theorem vIxLs(b:SqL K H p xs)(a:atI xs i=some v)(h:Q v H):rIx K (.ref p) (.int i) H Q:=.inl ⟨p,xs,i,v,rfl,rfl,b,a,h⟩
theorem qcC(b:H p=some (.tup xs))(a:atI xs i=some v)(h:Q v H):rIx K (.ref p) (.int i) H Q:=.inr (.inl ⟨p,xs,i,v,rfl,rfl,SqT.of b,a,h⟩)
theorem qih{ch:Nat}(b:z.length<=sizeLine)(a:atI z.cps.toList i=some ch)(h:Q (.str ⟨#[ch]⟩) H):rIx K (.str z) (.int i) H Q:=.inr (.inr ⟨z,i,ch,rfl,rfl,b,a,h⟩)
theorem qhb{k:Int}{j:Nat}{a:Hp->Prop}(c:H p=some (.lst xs))(b:ixN xs.length k=some j)(h:a (upd H p (.lst (xs.set j v)))):rSetL (.ref p) (.int k) v H a:=⟨p,xs,k,j,rfl,rfl,c,b,h⟩
theorem vEx{k:Bool}{P:Bool->Prop}(h:P k):∃ k',V.bl k=.bl k'/\P k':=⟨k,rfl,h⟩
theorem vLeI(h:Q (.bl (decide (i<=j))) H):qh2 (.int i) (.int j) H Q:=h
theorem vLeS{i j:Str}(h:Q (.bl (!decide (j.cps.toList<i.cps.toList))) H):qh2 (.str i) (.str j) H Q:=h
theorem vIsB{i j:Bool}(h:Q (.bl (i==j)) H):qh3 (.bl i) (.bl j) H Q:=h
theorem vAddI(h:Q (.int (i+j)) H):qgk K (.int i) (.int j) H Q:=h
theorem qhB{i j:Str}(a:i.length+j.length<=sizeLine)(h:Q (.str (i++j)) H):qgk K (.str i) (.str j) H Q:=⟨a,h⟩
theorem qe4(hc:CMul i j)(h:Q (.int (i*j)) H):qhz (.int i) (.int j) H Q:=⟨hc,h⟩
theorem qhC(a:z.length<=sizeLine)(h:Q (.int z.length) H):qd7 K [.str z] H Q:=⟨a,h⟩
theorem qaJ(a:H p=some (.lst ys))(h:Q (.int ys.length) H):qd7 K [.ref p] H Q:=.inl ⟨ys,.inl (SqL.of a),h⟩
theorem vLenLs(a:SqL K H p ys)(h:Q (.int ys.length) H):qd7 K [.ref p] H Q:=.inl ⟨ys,.inl a,h⟩
theorem qhD(a:H p=some (.tup ys))(h:Q (.int ys.length) H):qd7 K [.ref p] H Q:=.inl ⟨ys,.inr (SqT.of a),h⟩
theorem qii{lo a:Option Int}(b:z.length<=sizeLine)(h:Q (.str (Txt.slice z lo a)) H):qh4 K (.str z) lo a H Q:=⟨b,h⟩
theorem vSl{f:V->Option Int->Option Int->Hp->VK->Prop}{tl a:TO}(h:te σ H λx b=>tl σ b λl c=>a σ c λu d=>f x l u d Q):tSl f te tl a σ H Q:=h
theorem vNoPart(h:QO none H):qfi σ H QO:=h
theorem vPart(h:te σ H λx a=>∃ i,x=.int i/\QO (some i) a):qhw te σ H QO:=h
theorem vExI{P:Int->Prop}(h:P i):∃ j,V.int i=.int j/\P j:=⟨i,rfl,h⟩
theorem vBM{f:V->List V->Hp->VK->Prop}(h:te σ H λx a=>tyV K T x a/\tas σ a λxs b=>f x xs b Q):tBM K T f te tas σ H Q:=h
theorem vBM0{f:V->List V->Hp->VK->Prop}(h:te σ H λx a=>tyV K T x a/\f x [] a Q):qhZ K T f te σ H Q:=h
theorem vComp(h:wi σ H λJ a=>qd5 J g c te (qfc nl ixs σ) a Q):qgj wi g c te nl ixs σ H Q:=h
theorem vFor (h:wi σ H λJ d=>∃ W:Nat->Nat->St->Hp->Prop,(∃ m,W 0 m σ d)/\∀ i m σ H,W i m σ H ->
 (J.stop i H/\D.nx σ H)\/(J.go i H/\∃ N:St->Hp->Prop,(∀ a H',N a H'->∃ c,c<m/\W (i+1) c a H')/\∀ x H',J.yld i H x H'->g x σ H' λb e=>t { D with nx:=N,ct:=N,bk:=D.nx } b e)):qic wi g t D σ H:=h
theorem vRng1(h:tas σ H λvs a=>∃ j:Int,vs=[.int j]/\-(2 ^ 62)<=j/\j<2 ^ 62/\R (Itr 0 j.toNat) a):qhs tas σ H R:=h
theorem vAny (h:te σ H λv b=>match v with
 | .str x=>R (Its x) b
 | .ref a=>((∃ xs,SqL K b a xs)/\R (Itl K a) b)\/((∃ xs,SqT K b a xs)/\R (Itt K a) b)
 | _=>False):qhQ K te σ H R:=h
theorem vGN{i:Nat}{a:St->Hp->Prop}(h:a (σ.set i (some v)) H):qcB i v σ H a:=h
end
section
variable{X:Cx}{K:yf}{o e:Expr}{es:List Expr}{to ta:TE}{t:TA}{name f:Str}{apos cpos pos:Pos}{T id:String}{r:V->List V->Hp->VK->Prop}{tg:Expr}
theorem zx(a:X.K=K):zW X (.builtin "len") (qd7 K):=by subst a;show call_lenU
theorem qdI(a:X.K=K)(hc:X.calm=true):zW X (.builtin "all") (qif K):=by subst a;show call_all hc
theorem qhR(a:X.K=K):SlR X (qh4 K):=by subst a;show u_sl
theorem zg(a:X.K=K):OpR X (binaryOp .Add) (qgk K):=by subst a;show u_add
theorem k_join(a:X.K=K):MtR X "str.join" (qhA K):=by subst a;show mt_join
theorem qF(b:X.K=K)(c:PE X e ta)(a:∀ it v,letOwnedTupleGo tg it v=pure ():=by intro _ _;rfl):PI X tg e (qhQ K ta):=by subst b;show pi_any c a
theorem k_bm0(e:X.K=K)(g:PlainAttrs T)(c:Slot T name id)(d:typeOf (.builtin id)=pure (.type "method_descriptor"))(hm:MtR X id r)(f:PE X o to)
  (a:attributeBase o name X.env (eval o X.env)=eval o X.env:=by rfl) (b:(apos.endLine==cpos.line)=true:=by rfl):PE X (.Call (.Attribute o name apos) [] [] cpos) (qhZ K T r to):=by
 subst e;show pe_bm0 g c d hm f a b
theorem qcN(h:X.K=K)(m:PlainAttrs T)(f:Slot T name id)(g:typeOf (.builtin id)=pure (.type "method_descriptor"))(hm:MtR X id r)(j:PE X o to)(i:PA X (e::es) t)
  (b:attributeBase o name X.env (eval o X.env)=eval o X.env:=by rfl)
  (d:((backTo cpos (starEach (e::es) X.env)).all (λx=>!x.1)&&(backToKw cpos (keywordEach [] X.env)).all (λx=>x.1.isSome)
   && decide ((e::es).length+([]:List Keyword).length+(if ([]:List Keyword).isEmpty then 0 else 1)<30))=true:=by rfl)
  (c:(apos.endLine==cpos.line)=true:=by rfl) (l:starEach (e::es) X.env=(false,eval e X.env)::starEach es X.env:=by rfl) (a:(backTo cpos (starEach es X.env)).any (·.1)=false:=by rfl) :
  PE X (.Call (.Attribute o name apos) (e::es) [] cpos) (tBM K T r to t):=by
 subst h;show pe_bm m f g hm j i b d c l a
end
structure DefOk(P:Program)(w:World)(K:yf)(mg:Str->Option Value)(base:Heap)(CX:CXT)(k:Nat)(x:Str)(ps:LS)(sp:Sp):Prop where
 ex:∃ f fd,FnOk P w K mg base CX k f fd ps sp/\mg x=some (.ref f)/\PySem.W.keepIn K (.ref f)=true/\Binds K fd ps []
section
variable{X:Cx}{CX:CXT}{k:Nat}{ps:LS}{sp:Sp}{E:XK}{x:Str}{p pos:Pos}{e:Expr}{es:List Expr}{t:TA}
theorem qi(D:DefOk X.prog X.w X.K X.mg X.base CX k x ps sp)(i:Room k X.A)(j:qaH CX X E)(c:PA X (e::es) t)(g:Gl X x:=by rfl)(a:(x==("__debug__":Str))=false:=by decide)
  (d:starEach (e::es) X.env=(false,eval e X.env)::starEach es X.env:=by rfl) (b:(backTo pos (starEach es X.env)).any (·.1)=false:=by rfl):PE X (.Call (.Name x p) (e::es) [] pos) (qe1 sp [] E t):=by
 obtain⟨f,fd,F,hm,h,hb⟩:=D.ex;show pe_call F i g hm h hb .nil j c a d b
theorem zN(b:Gl X x)(hm:∃ tk,X.mg x=some (.int i tk))(a:(x==("__debug__":Str))=false:=by decide):PE X (.Name x pos) (tC (.int i)):=by
 obtain⟨tk,hm⟩:=hm;show qaF b hm ⟨tk,rfl⟩ a
end
def qbN(t c:String):Bool:=t==c||(t=="bool"&&c=="int")
theorem je(K:yf):∀ t∈wqa,∀ c∈["bool","int","str","list","tuple","dict"],PySem.W.kitOne K (.type t) (.type c)=some (qbN t c):=by
 intro t a c hc;simp only[yy,yR,YJ] at a hc;rcases a with rfl | rfl | rfl | rfl | rfl | rfl | rfl<;>rcases hc with rfl | rfl | rfl | rfl | rfl | rfl<;>rfl
def qdm:List Value->Bool
 | [.type a,.type b,.type c,.type d]=>a=="ValueError"&&b=="Exception"&&c=="BaseException"&&d=="object"
 | .ref _::r=>qdm r
 | _=>false
def qhS(K:yf)(C:Addr):Bool:=match K.lookup C with
 | some ⟨.type "type",_,.cls cd,sl⟩=>(match cd.mro,sl.toList with
  | .ref D::bm,[_,_,_,_,some (.builtin n),_]=>D==C&&!cd.hasDel&&qdm bm&&n=="ValueError.__new__"
  | _,_=>false)
 | _=>false
theorem qeC{K:yf}(X:K.In h)(q:qhS K C=true):∃ nm o N bs c b p a d col e f g i j m,
  h.get? C=some (excClassObj nm o C N bs c b p a d col e f g i j m "ValueError.__new__")/\qdm c=true:=by
 unfold qhS at q;split at q
 .rename_i e cd sl ho
  split at q
  .rename_i D c f g i j n m hm hs
   simp only[Yn,Yq,xQ] at q;obtain⟨⟨⟨t,r⟩,u⟩,v⟩:=q;subst t v;obtain⟨nm,bs,mro,ns,o,w,p,a,d,col,s⟩:=cd;dsimp only at hm r;subst hm r;obtain⟨l⟩:=sl;dsimp only at hs;subst hs;show⟨nm,o,ns,bs,c,w,p,a,d,col,e,f,g,i,j,m,X _ _ ho,u⟩
  .cases q
 .cases q
structure XAt(K:yf)(C:Addr):Prop where
 ga:PySem.W.findIn K (.ref C) "__getattribute__"=some (some (.builtin "BaseException.__getattribute__"))
 gn:PySem.W.findIn K (.ref C) "__getattr__"=some none
 bx:PySem.W.mroIn K C (.type "BaseException")=some true
 ob:PySem.W.mroIn K C (.type "object")=some true
 hd:PySem.W.hasDictIn K C=true
 cl:PySem.W.findIn K (.ref C) "__class__"=some (some (.builtin "object.__class__"))
 cg:PySem.W.specialIn K (.builtin "object.__class__") "__get__"=some (some (.builtin "getset_descriptor.__get__"))
 ct:PySem.W.takesIn K (.builtin "object.__class__")=some true
 sa:PySem.W.findIn K (.ref C) "__setattr__"=some (some (.builtin "object.__setattr__"))
 mr:(PySem.W.clsIn K C).any (λcd=>qdm cd.mro)=true
 xc:qhS K C=true
theorem bexc_ga_slot:Slot "ValueError" "__getattribute__" "BaseException.__getattribute__":=PySem.F.attr_ValueError.ga
section
variable{prog:Program}{w:World}{A:Around}{E:Value->Shared->Prop}{s:Shared}{K:yf}{x C:Addr}{ox:Obj}{od:Option Obj}{name:Str}{v:Value}
theorem xga_value{Q:Fin->Shared->Prop}(X:K.In s.heap)(I:PySem.W.InstAt s.heap x ox C od)(a:PySem.W.findObj K C od name=some (.value v))(h:Q (.done (.ret v)) s) :
  wpAny (model prog w) A (Builtin.«object.__getattribute__» ⟨[.ref x,.str name tk],[]⟩) Q E s:=by
 have F:=PySem.W.looks_find (M:=model prog w) X I a;show yq (yA (yq (yA (yq (I.type.here (yq (F.here ?_)))))));show yA h
theorem xga_call{R:Result->Shared->Prop}(X:K.In s.heap)(I:PySem.W.InstAt s.heap x ox C od)(hb:PySem.W.mroIn K C (.type "BaseException")=some true)
  (h:wpAny (model prog w) A.in1 (Builtin.«object.__getattribute__» ⟨[.ref x,.str name tk],[]⟩) (λa s'=>match a with | .done f=>R (.ok f) s' | .again c'=>c'.quiet=true/\codeAny (model prog w) A c' R s') (λe s'=>R (.error e) s') s) :
  codeAny (model prog w) A (.call (.builtin "BaseException.__getattribute__") ⟨[.ref x,.str name tk],[]⟩) R s:=by
 show xR bexc_ga_slot.plain PySem.F.entry_bexc_ga ?_;show @PySem.W.check_slot (model prog w) _ _ s "BaseException.__getattribute__" "BaseException" "__getattribute__" (.ref x) [.str name tk] [] _ (by room) (by room) (I.type.andThen (xx X hb)) (PySem.F.args_bexc_ga _ _) h
theorem qfs{b:Bool}{Q:Value->Shared->Prop}(X:K.In s.heap)(I:PySem.W.InstAt s.heap x ox C od)(c:XAt K C)
  (h:wpAny (model prog w) A.in1 (Builtin.«object.__getattribute__» ⟨[.ref x,.str name tk],[]⟩) (λa s'=>match a with | .done (.ret v)=>wpAny (model prog w) A (handedOut v) Q E s' | _=>False) (λ_ _=>False) s) :
  wpAny (model prog w) A (getAttrBy (.ref x) (.str name tk) b expr) Q E s:=by
 unfold getAttrBy;show YF (yq (I.type.here (yq ((YN X c.ga).here ?_))))
 have d:(onTheHeap (Value.ref C)&&Value.builtin "BaseException.__getattribute__"==Value.builtin "object.__getattribute__")=false:=by
  rw[show(Value.builtin "BaseException.__getattribute__"==Value.builtin "object.__getattribute__")=false by room];rfl
 dsimp only;rw[d,yB (by decide)];unfold getAttrByItsOwn hookBefore;rw[yH (show onTheHeap (Value.ref C)=true from rfl)];show yq ((YN X c.gn).here (yq (kK (YF ?_))));have e:(expr&&onTheHeap (Value.builtin "BaseException.__getattribute__"))=false:=by cases expr<;>rfl
 unfold callGetattribute;rw[e,yB (by decide)];unfold boundAndCalled;rw[bexc_ga_slot.bind];show yq (yA ?_);show wpAny _ _ (call (.builtin "BaseException.__getattribute__") [.ref x,.str name tk]) _ _ _;show xT (xga_call X I c.bx (YD h (λa s' z=>?_) λ_ _ z=>z.elim));rcases a with(_ | _ | _ | _) | _<;>first | show z | show z.elim
theorem xget{Q:Value->Shared->Prop}(X:K.In s.heap)(I:PySem.W.InstAt s.heap x ox C od)(c:XAt K C)(a:PySem.W.findObj K C od name=some (.value v))(b:PySem.W.handedIn v=true)
  (h:Q v { s with toks:=s.toks+1 }):wpAny (model prog w) A (getAttr (.ref x) name expr) Q E s:=by
 unfold getAttr;show yq (wpAny_mkText (qfs (s:={ s with toks:=s.toks+1 }) X I c (xga_value (s:={ s with toks:=s.toks+1 }) X I a ?_)));show wpAny _ _ (handedOut v) _ _ _;rw[PySem.W.handedOut_of b];show yA h
theorem xclass{Q:Option Value->Shared->Prop}(X:K.In s.heap)(I:PySem.W.InstAt s.heap x ox C od)(c:XAt K C)(a:PySem.W.findObj K C od "__class__"=some (.bind (.builtin "getset_descriptor.__get__") (.builtin "object.__class__")))
  (h:Q (some (.ref C)) { s with toks:=s.toks+1 }):wpAny (model prog w) A (getAttr? (.ref x) "__class__") Q E s:=by
 unfold getAttr? getAttrBy?;show yq (wpAny_mkText (yq (kK (qfs (s:={ s with toks:=s.toks+1 }) X I c ?_))));have F:=PySem.W.looks_find (M:=model prog w) X I a;show yq (yA (yq (yA (yq (I.type.here (s:={ s with toks:=s.toks+1 }) (yq (F.here (s:={ s with toks:=s.toks+1 }) ?_)))))));show wpAny _ _ (holding [Value.builtin "object.__class__"] (call (.builtin "getset_descriptor.__get__") [.builtin "object.__class__",.ref x,.ref C])>>=ret) _ _ _;show yq (YF (xT (PySem.W.class_get (s:={ s with toks:=s.toks+1 }) X I c.ob ?_)));show yA ?_;show wpAny _ _ (handedOut (.ref C)) _ _ _;show yA (yA h)
theorem findObj_class(c:XAt K C):PySem.W.findObj K C od "__class__"=some (.bind (.builtin "getset_descriptor.__get__") (.builtin "object.__class__")):=by
 obtain⟨a,hc,_⟩:=xY c.hd;unfold PySem.W.findObj;rw[hc,Option.bind_some,c.cl,Option.bind_some];simp[c.cg,c.ct]
theorem qeD(c:XAt K C):PySem.W.KitX K (.ref x) (.ref C) (λh=>PySem.W.InstAt h x ox C od) where
 ty:=λ_ _ _ I=>I.type
 it:=λ_ _ X _=>by
  obtain⟨b,hc,_⟩:=xY c.hd;unfold PySem.W.clsIn at hc;split at hc
  .rename_i c1 d1 cd1 sl1 ho
   intro f i g s' k q;unfold isType loadHead;show yq (wpAny_loadPart (k _ _ (X _ _ ho)) (yA q))
  .cases hc
 ne:=λh d j its n l X a=>by
  obtain⟨b,hc,_⟩:=xY c.hd;show kF.mpr λq=>?_;have e:C=d:=Xy (Yq.mp q);subst e;unfold PySem.W.clsIn at hc;split at hc
  .rename_i c1 d1 cd1 sl1 ho
   have z:=(X _ _ ho).symm.trans a;cases z
  .cases hc
 ca:=λX I k=>xclass X I c (findObj_class c) k
end
theorem qdJ{r:List Value}(e:qdm (.ref c::r)=true):qdm r=true:=by
 cases r with
 | nil=>cases e
 | cons a r=>show e
theorem qbk:∀{l:List Value},qdm l=true->∃ f:LI,l=f.map Value.ref++[.type "ValueError",.type "Exception",.type "BaseException",.type "object"]
 | [],e=>by cases e
 | .ref c::r,e=>by
  obtain⟨f,q⟩:=qbk (qdJ e);show⟨c::f,by rw[q];rfl⟩
 | .type a::r,e=>by
  match r,e with
  | [.type b,.type c,.type d],e =>
   simp only[qdm,Yn,Yq] at e;obtain⟨⟨⟨rfl,rfl⟩,rfl⟩,rfl⟩:=e;show⟨[],rfl⟩
theorem refuse_exc(self:Value)(e:qdm l=true):refuseLoop self "__setattr__" l=pure ():=by
 obtain⟨a,rfl⟩:=qbk e
 induction a with
 | nil=>show PySem.F.store_ValueError.passes self
 | cons c a ih=>rw[Ys,kQ,refuseLoop_ref];show ih (qdJ e)
theorem qbl(e:qdm l=true)(h:T∈wqN):l.contains (.type T)=true:=by
 obtain⟨a,rfl⟩:=qbk e;rw[List.contains_iff_mem];show yQ _ ?_;simp only[yy,yR,YJ] at h ⊢;rcases h with rfl | rfl | rfl | rfl<;>simp
section
variable{prog:Program}{w:World}{A:Around}{E:Value->Shared->Prop}{s:Shared}{K:yf}{x C:Addr}{name:Str}{v:Value}{R:Result->Shared->Prop}
theorem xosa(X:K.In s.heap)(I:PySem.W.InstAt s.heap x ox C od)(c:XAt K C)(n:NoAttr K C name)
  (h:wpAny (model prog w) A.in1 (Builtin.ObjectAttr.storeInOwnDict (.ref x) (.ref C) (.str name tk) name v false)
   (λb s'=>match b with | .done f=>R (.ok f) s' | .again c'=>c'.quiet=true/\codeAny (model prog w) A c' R s') (λe s'=>R (.error e) s') s) :
  codeAny (model prog w) A (.call (.builtin "object.__setattr__") ⟨[.ref x,.str name tk,v],[]⟩) R s:=by
 have a:=PySem.F.store_object;obtain⟨d,hc,g⟩:=xY c.mr;have hm:PySem.W.Looks (model prog w) s.heap (mroOf (.ref C)) d.mro:=(ki X hc).andThen .now;show xR a.slot.plain a.entry (@PySem.W.check_slot (model prog w) _ _ s "object.__setattr__" "object" "__setattr__" (.ref x) [.str name tk,v] [] _ a.kind a.split (I.type.andThen (xx X c.ob)) (a.args (.ref x) (.str name tk) v) ?_);rw[PySem.W.osa_eq,refuse_eq];show yq (yq (I.type.here (yq (hm.here ?_))));rw[refuse_exc _ g];show yA (yq (I.type.here (yq ((YN X n).here (yq (yA ?_))))));show h
theorem xset{vs:Array Value}(X:K.In s.heap)(m:s.heap.get? x=some ⟨.ref C,none,.fields vs,#[]⟩)(c:XAt K C)(n:NoAttr K C name){Q:Unit->Shared->Prop}
  (h:∀ h',h'.get? x=some ⟨.ref C,some s.heap.objs.size,.fields vs,#[]⟩->h'.Ns1 s.heap.objs.size (λy=>if y=name then some v else none)->(∀ b o,b≠x->s.heap.get? b=some o->h'.get? b=some o) ->
   Q () { s with heap:=h',toks:=s.toks+2 }):wpAny (model prog w) A (setAttr (.ref x) name v) Q E s:=by
 have I:PySem.W.InstAt s.heap x ⟨.ref C,none,.fields vs,#[]⟩ C none:=⟨m,rfl,rfl,YK⟩;obtain⟨J,hc,D⟩:=xY c.hd;show PySem.W.set_plain X I c.sa (xosa (s:={ s with toks:=s.toks+1 }) X I c n ?_);show yq (yA (yq (yq (wpAny_loadPart m (yq ((ki X hc).here (s:={ s with toks:=s.toks+1 }) ?_))))));rw[D];obtain⟨a,g,L,tk,N⟩:=s;show wpAny _ _ (alloc { cls:=.type "dict",data:=.dict #[] }>>=λd=>update x (λo=>{ cls:=o.cls,dict:=some d,data:=o.data,slots:=o.slots })>>=λ_=>pure (some d)) _ _ _;have l:x≠a.objs.size:=Yk (yM m);have i:=yu { cls:=.type "dict",data:=.dict #[] } m;show yq (wpAny_alloc' (yq (wpAny_update' i (yA ?_))));have j:=xI (λo:Obj=>{ cls:=o.cls,dict:=some a.objs.size,data:=o.data,slots:=o.slots }) i rfl;have f:=(Heap.get?_update_ne (a.push { cls:=.type "dict",data:=.dict #[] }) a.objs.size x (λo:Obj=>{ cls:=o.cls,dict:=some a.objs.size,data:=o.data,slots:=o.slots }) l.symm).trans (kG rfl rfl);generalize G:(a.push { cls:=.type "dict",data:=.dict #[] }).update x (λo:Obj=>{ cls:=o.cls,dict:=some a.objs.size,data:=o.data,slots:=o.slots })=h2 at j f ⊢;have nd:h2.Ns a.objs.size (λ_=>none):=⟨_,#[],_,f,rfl,λe F=>absurd F (by simp),λ_=>rfl⟩;show wpAny _ _ (Builtin.ObjectAttr.storeInDict a.objs.size (.str name tk) name v) _ _ _;unfold Builtin.ObjectAttr.storeInDict Builtin.ObjectAttr.newKeyGuard;show yq (yA (yq (wpAny_nsSet1 (Heap.Ns1.of_empty nd) λh' u z=>?_)));obtain⟨M,p,B,t,r,q⟩:=u.count (PySem.Within.cons name v PySem.Within.nil);have H:p.size<=sizeLine:=yh q (by rw[Yb,YT,xi];lk);show yq (wpAny_lookBehind t (by rw[r];show pastItsLine_dict (Nat.le_succ_of_le H)) ?_);show yA (h h' ((z.2 x l).trans j) u λb o hb e=>(z.2 b (Yk (yM e))).trans ?_);rw[<- G];show(Heap.get?_update_ne _ _ _ _ hb).trans (yu _ e)
theorem ve_check{Q:Unit->Shared->Prop}(X:K.In s.heap)(c:XAt K C)(i:s.heap.get? x=some ox)(a:ox.cls=.ref C)(q:Q () s) :
  wpAny M A (checkBuiltinCall "ValueError.__init__" ⟨[.ref x,u],[]⟩) Q E s:=by
 have F:=Y6;have b:=F.noStar;obtain⟨nm,z,N,bs,h,f,B,j,l,col,m,p,r,t,v,w,e,hm⟩:=qeC X c.xc;have d:(Value.ref C::h).contains (.type "ValueError")=true:=by rw[Yx,qbl hm (by simp),km]
 obtain⟨o,g,n,tk,y⟩:=s;simp only[checkBuiltinCall,F.initKind,F.initSplit,F.initRow]
 repeat (first | (with_reducible show YH i ?_;rw[a]) | with_reducible show YH e ?_ | (with_reducible show xy e ?_;rw[d]) | wp_step)
 show q
abbrev xfs(a0:Addr):Array Value:=#[.ref a0,.none,.none,.none,.bool false,.none]
theorem xbase_init(X:K.In s.heap)(a:s.heap.get? x=some ⟨.ref C,none,.fields (xfs a0),#[]⟩)(c:XAt K C){Q:Value->Shared->Prop}
  (h:∀ h' d,h'.get? x=some ⟨.ref C,none,.fields (xfs d),#[]⟩->(∀ b o,b≠x->s.heap.get? b=some o->h'.get? b=some o)->Q .none { s with heap:=h' }) :
  wpAny (model prog w) A (call (.builtin "ValueError.__init__") [.ref x,u]) Q E s:=by
 have F:=Y6;show xT (xR F.init.plain F.initEntry (ve_check X c a rfl ?_));obtain⟨f,g,i,tk,j⟩:=s
 wp_walk
 show h _ f.objs.size ?_ λb o hb e=>?_
 .rw [xI _ (yu _ a) rfl];rfl
 .rw [YA _ _ (Yv hb)];show yu _ e
end
theorem qeE(e:qdm l=true)(h:T∉wqN):l.contains (.type T)=false:=by
 obtain⟨b,rfl⟩:=qbk e;show kF.mpr λq=>?_;rcases yK.mp (List.contains_iff_mem.mp q) with z | z
 .obtain⟨a,_,q⟩:=yE.mp z;cases q
 .simp only[yy,yR,YJ,Value.type.injEq] at z h;show h z
section
variable{prog:Program}{w:World}{A:Around}{R:Result->Shared->Prop}{E:Value->Shared->Prop}{h:Heap}{g:Array GenState}{d:Drawn}{t:Nat}{os:OsState}
variable{nm q:Str}{C N:Addr}{bs bm:List Value}{hdct:Bool}{sn:LS}{sub:List Value}{ab:Bool}{col:Option Bool}{dd:Option Addr}{k0 k1 k2 k3 k5:Option Value}
theorem xnew_check{rest:List Value}{Q:Unit->Shared->Prop}(b:h.get? C=some (excClassObj nm q C N bs bm hdct sn sub ab col dd k0 k1 k2 k3 k5 "ValueError.__new__"))(hm:qdm bm=true)(e:Q () ⟨h,g,d,t,os⟩) :
  wpAny M A (checkBuiltinCall "ValueError.__new__" ⟨.ref C::rest,[]⟩) Q E ⟨h,g,d,t,os⟩:=by
 have F:=Y6;have a:(Value.ref C::bm).contains (.type "ValueError")=true:=by rw[Yx,qbl hm (by simp),km]
 have c:=F.noStar;simp only[checkBuiltinCall,F.newKind,F.newSplit,F.newRow]
 repeat (first | show YH b ?_ | (show xy b ?_;rw[a]) | show wpAny_staticBase_exc b ?_ | show wpAny_madeBy_exc b ?_ | simp only[bne_self_eq_false,ko,kN] | wp_step)
 show e
theorem xnew{rest:List Value}(b:h.get? C=some (excClassObj nm q C N bs bm hdct sn sub ab col dd k0 k1 k2 k3 k5 "ValueError.__new__"))(hm:qdm bm=true)(j:rest.length<=sizeLine)
  (l:R (.ok (.ret (.ref (h.objs.size+1)))) ⟨(h.push { cls:=.type "tuple",data:=.seq rest.toArray }).push { cls:=.ref C,data:=.fields (xfs h.objs.size) },g,d,t,os⟩) :
  codeAny (model prog w) A (.builtin "ValueError.__new__" ⟨.ref C::rest,[]⟩) R ⟨h,g,d,t,os⟩:=by
 have F:=Y6;have i:=F.ends;have e:(Value.ref C::bm).contains (.type "ValueError")=true:=by rw[Yx,qbl hm (by simp),km]
 have c:(Value.ref C::bm).contains (.type "AttributeError")=false:=by rw[Yx,qeE hm (by simp)];rfl
 have f:(Value.ref C::bm).contains (.type "NameError")=false:=by rw[Yx,qeE hm (by simp)];rfl
 show codeAny_builtinAt F.entry ?_;unfold Builtin.«BaseException.__new__»;show PySem.wpAt_bind ?_;show PySem.wpAt _ _ _ (stack>>=_) _ _ _;show PySem.wpAt_bind (PySem.wpAt_stack λm a=>PySem.wpAt_of_wpAny ?_)
 wp_walk
 show PySem.wpAt_of_wpAny ?_;rw[F.owner]
 repeat (first | with_reducible show wpAny_madeHere_exc F.canon b ?_ | with_reducible show YH b ?_ | (with_reducible show xy b ?_;first | rw[e] | rw[c] | rw[f]) | wp_step)
 show R _ _;rw[xq];show l
theorem xtype_call{K:yf}{rest:List Value}{Q:Fin->Shared->Prop}(X:K.In h)(c:h.get? C=some (excClassObj nm q C N bs bm hdct sn sub ab col dd k0 k1 k2 k3 k5 "ValueError.__new__"))(hm:qdm bm=true)
  (s:PySem.W.findIn K (.ref C) "__init__"=some (some (.ref f))) (p:PySem.W.isFn K (.ref f)=true) (a:rest.length<=sizeLine)
  (u:wpAny (model prog w) A (call (.ref f) (.ref (h.objs.size+1)::rest)) (λr s'=>r=.none/\Q (.done (.ret (.ref (h.objs.size+1)))) s') E
   ⟨(h.push { cls:=.type "tuple",data:=.seq rest.toArray }).push { cls:=.ref C,data:=.fields (xfs h.objs.size) },g,d,t,os⟩) :
  wpAny (model prog w) A (Builtin.«type.__call__» ⟨.ref C::rest,[]⟩) Q E ⟨h,g,d,t,os⟩:=by
 have F:=Y6
 repeat (first | with_reducible show YH c ?_ | with_reducible show wpAny_madeBy_exc c ?_ | wp_step)
 show codeAny_call_builtin_code (Code.quiet_builtin _ F.quiet) (xnew_check c hm (xnew c hm a ?_));show wpAny _ _ _ _ _ _;have m:∀ b o,h.get? b=some o->((h.push { cls:=.type "tuple",data:=.seq rest.toArray }).push { cls:=.ref C,data:=.fields (xfs h.objs.size) }).get? b=some o:=λb o e=>yu _ (yu _ e);have hC1:=m _ _ c;have i:((h.push { cls:=.type "tuple",data:=.seq rest.toArray }).push { cls:=.ref C,data:=.fields (xfs h.objs.size) }).get? (h.objs.size+1)=some { cls:=.ref C,data:=.fields (xfs h.objs.size) }:=kG (by rw[xq]) rfl;have l:K.In ((h.push { cls:=.type "tuple",data:=.seq rest.toArray }).push { cls:=.ref C,data:=.fields (xfs h.objs.size) }):=X.keeps m;have j:(Value.ref C::bm).contains (.ref C)=true:=by simp
 unfold isInstance
 repeat (first | with_reducible show YH i ?_ | (with_reducible show xy hC1 ?_;rw[j]) | wp_step)
 show wpAny _ _ (typeLookup (.ref C) _) _ _ _;show(YN l s).at (YF (yq ((PySem.W.bind_fn l _ (Yq.mp p)).at (yq (YD u (λr s' v=>?_) λ_ _ z=>z)))));obtain⟨rfl,n⟩:=v
 wp_walk
 show n
theorem xcall{K:yf}{rest:List Value}{Q:Value->Shared->Prop}(X:K.In s.heap)(c:XAt K C)(i:PySem.W.findIn K (.ref C) "__init__"=some (some (.ref f)))(e:PySem.W.isFn K (.ref f)=true)(a:rest.length<=sizeLine)
  (j:wpAny (model prog w) (A.under (.builtin "type.__call__" ⟨.ref C::rest,[]⟩)) (call (.ref f) (.ref (s.heap.objs.size+1)::rest)) (λr s'=>r=.none/\Q (.ref (s.heap.objs.size+1)) s') E
   { s with heap:=(s.heap.push { cls:=.type "tuple",data:=.seq rest.toArray }).push { cls:=.ref C,data:=.fields (xfs s.heap.objs.size) } }) :
  wpAny (model prog w) A (call (.ref C) rest) Q E s:=by
 obtain⟨nm,o,N,bs,bm,hdct,sn,sub,ab,col,dd,k0,k1,k2,k3,k5,b,hm⟩:=qeC X c.xc;obtain⟨h,g,d,t,os⟩:=s;have l:=tc_lookup;have m:=tc_bind (.ref C);have n:(⟨h,g,d,t,os⟩:Shared).TypeIs (.ref C) "type":=⟨_,b,rfl⟩;show xT (codeAny_of_tree ?_);show wpAny _ _ (callAny (.ref C) _) _ _ _
 repeat (any_goals (first | assumption | with_reducible show YH b ?_ | wp_step))
 show⟨rfl,?_⟩;show codeAny_call_builtin_at (Code.quiet_builtin _ (by room)) entry_typeCall (wpAny_check_type_call_sub b (xtype_call X b hm i e a j))
end
def XN(e C:Addr)(dx:Option Addr):HO:=.ext λh=>∃ a0,h.get? e=some ⟨.ref C,dx,.fields (xfs a0),#[]⟩
def XO(e C:Addr)(dx:Option Addr):HO:=.ext λh=>∃ vs,h.get? e=some ⟨.ref C,dx,.fields vs,#[]⟩
theorem XN.ok(q:h.get? e=some ⟨.ref C,dx,.fields (xfs a0),#[]⟩):ObjOk P w H h e (XN e C dx):=
 ⟨⟨a0,q⟩,⟨_,q⟩,λ_ _ ⟨a,x⟩ k=>⟨a,k _ x⟩⟩
theorem XO.ok{vs:Array Value}(q:h.get? e=some ⟨.ref C,dx,.fields vs,#[]⟩):ObjOk P w H h e (XO e C dx):=
 ⟨⟨vs,q⟩,⟨_,q⟩,λ_ _ ⟨a,x⟩ k=>⟨a,k _ x⟩⟩
def IsX(H:Hp)(e C:Addr)(dx:Option Addr):Prop:=H e=some (XN e C dx)\/H e=some (XO e C dx)
theorem IsX.get(q:IsX H e C dx)(b:HOk P w H h):∃ vs,h.get? e=some ⟨.ref C,dx,.fields vs,#[]⟩:=by
 rcases q with q | q
 .obtain⟨⟨a,x⟩,_⟩:=(show ObjOk P w H h e (XN e C dx) from b e _ q);show⟨_,x⟩
 .obtain⟨⟨a,x⟩,_⟩:=(show ObjOk P w H h e (XO e C dx) from b e _ q);show⟨_,x⟩
theorem upd_id{o:HO}(h:H a=some o):upd H a o=H:=by
 funext b;unfold upd;split
 .rename_i e;subst e;show h.symm
 .rfl
section
variable{X:Cx}{pins:List (Addr×Obj)}{σ:St}{H:Hp}{s:Shared}{e C:Addr}{dx:Option Addr}
theorem qgv(I:Inv X pins σ H s){d:Addr}{fs:List (Str×V)}(h:H d=some (.xd fs)):∃(od:Obj) (a:Str->Option Value),s.heap.get? d=some od/\(∀ name,PySem.W.lookIn name od=some (a name))/\∀ f,RelO (fs.lookup f) (a f):=by
 obtain⟨a,n,r⟩:=(show ObjOk X.prog X.w H s.heap d (.xd fs) from I.hok d _ h);obtain⟨od,h1,b⟩:=qdw n;show⟨od,a,h1,b,r⟩
end
section
variable{X:Cx}{pins:List (Addr×Obj)}{σ:St}{H:Hp}{s:Shared}{a d:Addr}{h':Heap}{o u:HO}{t':Nat}
theorem Inv.both(I:Inv X pins σ H s)(i:Mut (H a))(l:s.heap.objs.size<=d)(k:∀ b v,b≠a->s.heap.get? b=some v->h'.get? b=some v)(m:∃ v,h'.get? a=some v)
  (p:ObjOk X.prog X.w (upd (upd H d u) a o) h' a o) (t:ObjOk X.prog X.w (upd (upd H d u) a o) h' d u) (ne:d≠a):Inv X pins σ (upd (upd H d u) a o) { s with heap:=h',toks:=t' }:=by
 have nd:H d=none:=I.hok.fresh l;have f:∀ b q,H b=some q->¬ Mut (some q)->b≠a:=λb q e nm z=>by subst z;rw[e] at i;show nm i
 have j:∀ b,H b=none->b≠a:=λb e z=>by subst z;rw[e] at i;show i
 have big:∀ b v,s.heap.get? b=some v->b≠d:=λb v e=>Yk (yi (yM e) l);have h:∀ b q,H b=some q->b≠a->upd (upd H d u) a o b=some q:=λb q e n=>by rw[qk n,qk (qM e nd)];show e
 show I.un ⟨λb v e n _ _=>k b v (j b n) e,λb v e n _ _=>⟨v.slots,k b v (j b n) e⟩,λb v e n _=>by rw[qk (j b n),qk (big b v e)];show n,λb v e _=>?_,λb xs e=>h b _ e (f b _ e λz=>z),λb q xs e=>h b _ e (f b _ e λz=>z),
  λb ps e=>⟨#[],by rw[h b _ e (f b _ e λz=>z)];simp⟩⟩ λb q e=>?_
 .by_cases hb:b=a
  .subst hb;show m
  .show⟨v,k b v hb e⟩
 .by_cases hb:b=a
  .subst hb;rw[qb] at e;cases e;show p
  .rw [qk hb] at e;by_cases g:b=d
   .subst g;rw[qb] at e;cases e;show t
   .rw [qk g] at e;show(I.hok b q e).stay (λc v hc r=>k c v ?_ r) (λc r=>h c _ r (f c _ r λz=>z)) λc xs r=>h c _ r (f c _ r λz=>z);rcases hc with rfl | hc
    .show hb
    .show f c _ hc λz=>z
end
inductive FldR(K:yf)(f:Str)(x:V)(H:Hp)(Q:VK):Prop|mk (a C dx:Addr) (fs:List (Str×V)) (v:V) (_:x=.ref a) (_:H a=some (.ins C dx fs)) (_:Cls K C) (_:NoAttr K C f) (_:fs.lookup f=some v) (_:Q v H)
inductive XFlR(K:yf)(f:Str)(x:V)(H:Hp)(Q:VK):Prop|mk (a C dx:Addr) (fs:List (Str×V)) (v:V) (_:x=.ref a) (_:IsX H a C (some dx)) (_:XAt K C) (_:NoAttr K C f) (_:H dx=some (.xd fs)) (_:fs.lookup f=some v) (_:Q v H)
inductive FlUR(K:yf)(f:Str)(x:V)(H:Hp)(Q:VK):Prop | inl (_:FldR K f x H Q) | inr (_:XFlR K f x H Q)
inductive SFdR(K:yf)(f:Str)(x y:V)(H:Hp)(k:Hp->Prop):Prop|mk (a C dx:Addr) (fs:List (Str×V)) (_:x=.ref a) (_:H a=some (.ins C dx fs)) (_:Cls K C) (_:NoAttr K C f) (_:fs.length<1000) (_:k (upd H a (.ins C dx (jK f y fs))))
inductive SXdR(K:yf)(f:Str)(x y:V)(H:Hp)(k:Hp->Prop):Prop|mk (a C:Addr) (_:x=.ref a) (_:H a=some (XN a C none)) (_:XAt K C) (_:NoAttr K C f) (_:∀ dx,H dx=none->k (upd (upd H dx (.xd [(f,y)])) a (XN a C (some dx))))
inductive SFUR(K:yf)(f:Str)(x y:V)(H:Hp)(k:Hp->Prop):Prop | inl (_:SFdR K f x y H k) | inr (_:SXdR K f x y H k)
def qhE(K:yf)(b:TE)(f:Str):TE:=fun σ H Q=>b σ H λx a=>FlUR K f x a Q
def qhF(K:yf)(c d:TE)(f:Str):TS:=λD σ H=>d σ H λy a=>c σ a λx b=>SFUR K f x y b (D.nx σ)
section
variable{X:Cx}{o e value:Expr}{f:Str}{pos pos':Pos}{ta tv:TE}{K:yf}
theorem jA(w:X.K=K)(z:PE X e ta)(hb:attributeBase e f X.env (eval e X.env)=eval e X.env):PE X (.Attribute e f pos) (qhE K ta f):=by
 subst w;intro pins s σ H Q I h;show attr_of hb (thn (z pins s σ H _ I h) λu E ⟨x,j,b,m,i⟩=>?_);rcases i with⟨a,C,dx,fs,v,rfl,g,c,n,l,q⟩ | ⟨a,C,dx,fs,v,rfl,g,c,n,y,l,q⟩
 .obtain rfl:u=Value.ref a:=m;show getattr_ok b g c n l λD F p d=>⟨v,j,p,d,q⟩
 .obtain rfl:u=Value.ref a:=m;obtain⟨vs,i⟩:=g.get b.hok;obtain⟨od,B,h1,t,r⟩:=qgv b y;obtain⟨D,A,d⟩:=RelO.some_of (v:=v) (o:=B f) (by rw[<- l];show r f);show xget b.kIn (od:=some od) ⟨i,rfl,rfl,h1⟩ c (PySem.W.findObj_own c.hd n rfl (by rw[t,A])) (qdx d) ⟨v,j,b.tok _,d,q⟩
theorem zX(J:X.K=K)(L:PE X o ta)(hv:PE X value tv)(M:swapsWith value (some (.Attribute o f pos')) pos.line X.env=pure false):PS X (.Assign [.Attribute o f pos'] value pos) (qhF K ta tv f):=by
 subst J;intro pins s σ H D I h;show plainObj_wpAny_Assign_Attribute (thn (hv pins s σ H _ I h) λu N ⟨y,A,B,z,q⟩=>thn (L pins N σ A _ B q) λt i ⟨x,p,b,v,e⟩=>?_) M;rcases e with⟨a,C,dx,fs,rfl,d,c,n,l,m⟩ | ⟨a,C,rfl,d,c,n,m⟩
 .obtain rfl:t=Value.ref a:=v;show setattr_ok b d c n l z λO E=>⟨σ,_,E,m⟩
 .obtain rfl:t=Value.ref a:=v;obtain⟨⟨a0,e⟩,_⟩:=(show ObjOk X.prog X.w p i.heap a (XN a C none) from b.hok a _ d);show xset b.kIn e c n λh' r F G=>?_;have nd:p i.heap.objs.size=none:=b.hok.fresh (yg _);have ne:i.heap.objs.size≠a:=xO (yM e);show⟨σ,_,b.both (o:=XN a C (some i.heap.objs.size)) (u:=.xd [(f,y)]) (by rw[d];show YK) (yg _) G ⟨_,r⟩ (XN.ok r) ⟨_,F,λg=>?_⟩ ne,m _ nd⟩;by_cases j:g=f
  .subst j;simp only[List.lookup,xD,Xq];show z
  .have hb:(g==f)=false:=Yr.mpr j;simp only[List.lookup,hb,yB j];show YK
end
def qft(C:Addr)(sp:Sp)(E:XK)(t:TA):TE:=fun σ H Q=>t σ H λvs a=>vs.length<=1000/\∀ x,a x=none->sp (.ref x::vs) (upd a x (XN x C none)) (λv b=>v=.non/\Q (.ref x) b) E
structure XMk(K:yf)(C f:Addr):Prop where
 at_:XAt K C
 init:PySem.W.findIn K (.ref C) "__init__"=some (some (.ref f))
 fn:PySem.W.isFn K (.ref f)=true
 kp:PySem.W.keepIn K (.ref C)=true
section
variable{X:Cx}{CX:CXT}{k:Nat}{f C:Addr}{fd:FuncData}{ps:LS}{sp:Sp}{E:XK}{x m:Str}{p pos apos:Pos}{e o:Expr}{es:List Expr}{ta:TE}{t:TA}
theorem run_xmake{Q:VK}(M:XMk X.K C f)(F:FnOk X.prog X.w X.K X.mg X.base CX k f fd ps sp)(y:Room (k+1) X.A)(hb:Binds X.K fd ps [])
  (B:qaH CX X E) (I:Inv X pins σ H s) (r:Vals vs us) (i:vs.length<=1000) (h:∀ x,H x=none->sp (.ref x::vs) (upd H x (XN x C none)) (λv n=>v=.non/\Q (.ref x) n) E) :
  wpAny (model X.prog X.w) X.A (call (.ref C) us) (EP X pins σ Q) X.xe s:=by
 have l:=h (s.heap.objs.size+1) (I.hok.fresh (YO _));have J:∀ b o,s.heap.get? b=some o->((s.heap.push { cls:=.type "tuple",data:=.seq us.toArray }).push { cls:=.ref C,data:=.fields (xfs s.heap.objs.size) }).get? b=some o:=λb o q=>yu _ (yu _ q);have d:((s.heap.push { cls:=.type "tuple",data:=.seq us.toArray }).push { cls:=.ref C,data:=.fields (xfs s.heap.objs.size) }).get? (s.heap.objs.size+1)=some ⟨.ref C,none,.fields (xfs s.heap.objs.size),#[]⟩:=kG (by rw[xq]) rfl;have g:=I.laid (a:=s.heap.objs.size+1) (o:=XN (s.heap.objs.size+1) C none) (t':=s.toks) J (YO _) (XN.ok d);have m:Vals (V.ref (s.heap.objs.size+1)::vs) (Value.ref (s.heap.objs.size+1)::us):=.cons rfl r
 have hl:(Value.ref (s.heap.objs.size+1)::us++[]).length=ps.length:=by
  have q:=m.length;rw[F.len _ _ _ _ l] at q;rw[y6];show q.symm
 have j:us.length<=sizeLine:=by rw[<- r.length];show yI (qg i)
 show xcall I.kIn M.at_ M.init M.fn j (xT (Xg (F.run _ X.stack _ _ ⟨Value.ref (s.heap.objs.size+1)::us,[]⟩ (Value.ref (s.heap.objs.size+1)::us) _ _ E (y.make C us [])
  (g.env0.make C us []) (by have z:=hb _ (Value.ref (s.heap.objs.size+1)::us) g.kIn hl;rw[y6] at z;show z) m l) λr s' c=>?_))
 cases r with
 | error e=>show B pins σ _ _ e s' g c
 | ok fl =>
  cases fl with
  | ret u =>
   obtain⟨v,H',p,G,t,D⟩:=g.after c;subst t;show⟨G,⟨V.ref (s.heap.objs.size+1),H',p,rfl,D⟩⟩
  | next=>show False.elim c
  | brk=>show False.elim c
  | cont=>show False.elim c
theorem pe_xmake(M:XMk X.K C f)(F:FnOk X.prog X.w X.K X.mg X.base CX k f fd ps sp)(j:Room (k+1) X.A)(i:Gl X x)(hm:X.mg x=some (.ref C))(hb:Binds X.K fd ps [])(l:qaH CX X E)
  (d:PA X (e::es) t) (a:(x==("__debug__":Str))=false:=by decide) (g:starEach (e::es) X.env=(false,eval e X.env)::starEach es X.env:=by rfl) (b:(backTo pos (starEach es X.env)).any (·.1)=false:=by rfl) :
  PE X (.Call (.Name x p) (e::es) [] pos) (qft C sp E t):=by
 intro pins s σ H Q I h;show xm (qao I i hm ?_ a);show YY (h₀:=X.base) I.ok.mod.kin M.kp (thn (d pos pins s σ H _ I h) λus n ⟨vs,m,c,r,z,q⟩=>⟨c.kIn,?_⟩) g b;show run_xmake M F j hb l c r z q
structure CMeth(K:yf)(C:Addr)(m:Str)(f:Addr):Prop where
 rd:PySem.W.readsIn K C (.type "type")=true
 at_:PySem.W.findCls K (.ref C) (.type "type") m=some (.val (.ref f))
 ga:PySem.W.specialIn K (.ref C) "__getattribute__"=some (some (.builtin "type.__getattribute__"))
 kp:PySem.W.keepIn K (.ref f)=true
theorem pe_clsm(M:CMeth X.K C m f)(F:FnOk X.prog X.w X.K X.mg X.base CX k f fd ps sp)(j:Room k X.A)(i:Gl X x)(hm:X.mg x=some (.ref C))(hb:Binds X.K fd ps [])(n:qaH CX X E)(g:PA X (e::es) t)
  (a:(x==("__debug__":Str))=false:=by decide) (c:starEach (e::es) X.env=(false,eval e X.env)::starEach es X.env:=by rfl) (b:(backTo pos (starEach es X.env)).any (·.1)=false:=by rfl)
  (l:eval (.Call (.Attribute (.Name x p) m apos) (e::es) [] pos) X.env=(do
   let ov <- eval (.Name x p) X.env
   standAt apos.atName
   let (f,first) <- holding [ov] (getMethod ov m pl)
   callWith pos f first (backTo pos (starEach (e::es) X.env)) (backToKw pos (keywordEach [] X.env))):=by rfl) :
  PE X (.Call (.Attribute (.Name x p) m apos) (e::es) [] pos) (qe1 sp [] E t):=by
 intro pins s σ H Q I h;show xH (pl:=pl) (qao I i hm ?_ a) l;show PySem.W.method_cls I.kIn M.ga (PySem.W.cls_value I.kIn M.rd M.at_ rfl ?_);show YY (first:=[]) (h₀:=X.base) I.ok.mod.kin M.kp (thn (g pos pins _ σ H _ (I.tok (s.toks+1)) h) λus u ⟨vs,q,d,r,o⟩=>⟨d.kIn,?_⟩) c b;show qes F j hb .nil n d r o
end
def qgw(K:yf)(t:TA):TE:=fun σ H Q=>t σ H λvs b=>∃ a C y,vs=[.ref a,y]/\b a=some (XN a C none)/\XAt K C/\Q .non b
theorem ve_type:PySem.W.Looks M h (typeOf (.type "ValueError")) (.type "type"):=PySem.W.Looks.of_pure (by kernel_rfl)
theorem ve_opaque:PySem.W.Looks M h (opaqueClassAbove (.type "ValueError")) none:=PySem.W.Looks.of_pure (by kernel_rfl)
structure VInit(K:yf):Prop where
 ga:PySem.W.findIn K (.type "type") "__getattribute__"=some (some (.builtin "type.__getattribute__"))
 su:PySem.W.subIn K (.type "type") (.type "type")=some true
 at_:PySem.W.findCls K (.type "ValueError") (.type "type") "__init__"=some (.val (.builtin "ValueError.__init__"))
section
variable{X:Cx}{p pos apos:Pos}{e:Expr}{es:List Expr}{t:TA}{K:yf}
theorem k_vinit(E:X.K=K)(V:VInit K)(G:Gl X "ValueError")(hm:X.mg "ValueError"=none)(hv:bootBuiltins "ValueError"=some (.type "ValueError"))(F:PA X (e::es) t)
  (l:starEach (e::es) X.env=(false,eval e X.env)::starEach es X.env:=by rfl) (j:(backTo pos (starEach es X.env)).any (·.1)=false:=by rfl)
  (L:eval (.Call (.Attribute (.Name "ValueError" p) "__init__" apos) (e::es) [] pos) X.env=(do
   let ov <- eval (.Name "ValueError" p) X.env
   standAt apos.atName
   let (f,first) <- holding [ov] (getMethod ov "__init__" pl)
   callWith pos f first (backTo pos (starEach (e::es) X.env)) (backToKw pos (keywordEach [] X.env))):=by rfl) :
  PE X (.Call (.Attribute (.Name "ValueError" p) "__init__" apos) (e::es) [] pos) (qgw K t):=by
 subst E;intro pins s σ H Q I h;show xH (pl:=pl) (qaz I G hm hv ?_) L
 have i:∀{d:Value×List Value->Shared->Prop},d (.builtin "ValueError.__init__",[]) { s with toks:=s.toks+1 }->wpAny (model X.prog X.w) X.A (getMethod (.type "ValueError") "__init__" pl) d X.xe s:=λ{d} q=>by
  unfold getMethod;show yq ((ve_type.andThen (YN I.kIn V.ga)).here ?_);dsimp only;rw[yH PySem.W.canon_tga];show yq (PySem.W.cls_open (hook:=none) I.kIn ve_opaque ve_type V.ga (PySem.W.Looks.now) V.su V.at_ (yA ?_));show wpAny _ _ (handedOut _) _ _ _;show PySem.W.handed_on rfl (yA q)
 show i ?_;have r:=F pos pins _ σ H _ (I.tok (s.toks+1)) h;rw[l] at r ⊢;show XG (by show(false||(backTo pos (starEach es X.env)).any (·.1))=false;rw[j]<;>rfl) (Calls.evalArgs_plain ?_);show thn r λus z ⟨vs,m,b,N,a,C,y,B,g,c,q⟩=>?_;subst B;obtain⟨u,v,rfl,O,R⟩:=qg8 N;cases O;obtain⟨⟨a0,M⟩,_⟩:=(show ObjOk X.prog X.w m z.heap a (XN a C none) from b.hok a _ g);show xbase_init b.kIn M c λh' P n D=>?_;have J:=b.write (x:=a) (e:=a) (o:=XN a C none) (t':=z.toks) (by rw[g];show YK) (.inl rfl) D ⟨_,n⟩ (XN.ok n);rw[upd_id g] at J;show⟨.non,m,J,rfl,q⟩
end
structure Keep(fs zs:LI)(h h':Heap):Prop where
 keep:∀ b o,h.get? b=some o->b∉zs->b∉fs->h'.get? b=some o
 slot:∀ b o,h.get? b=some o->b∉zs->b∈fs->∃ sl,h'.get? b=some { o with slots:=sl }
structure Trc(h:Heap)(e:Addr)(C:Value)(dx:Option Addr)(T:Addr)(fl:Value):Prop where
 ex:∃ vs,h.get? e=some ⟨C,dx,.fields vs,#[]⟩/\vs[1]?=some (.ref T)/\vs[2]?=some .none
 tb:∃ ts,h.get? T=some ⟨.type "traceback",none,.fields ts,#[]⟩/\ts[3]?=some fl
 ne:T≠e
section
variable{M:Model}{A:Around}{E:Value->Shared->Prop}{s:Shared}{base:Heap}{env:Env}{outer:List Env}{L e:Addr}{C:Value}{dx:Option Addr}{vs:Array Value}
theorem qgx{d:Value}{p:Bool}{Q:Unit->Shared->Prop}(r:A.frames=some (env::outer))(hl:s.heap.FunFrames base (env::outer))(D:env.frame=some L)(w:s.heap.get? e=some ⟨C,dx,.fields vs,#[]⟩)(hsz:1<vs.size)(y:vs[2]?=some .none)
  (h:∀ h' T,s.heap.objs.size<=T->Trc h' e C dx T (rawInt L)->Keep (frs (env::outer)) [e] s.heap h'->Q () { s with heap:=h' }) :
  wpAny M A (do let a <- frameOf env;let pl <- entryPlaceOf L p;let b <- EntryCells.newEntry d a .none (rawInt L) .none pl;setField (.ref e) 1 b) Q E s:=by
 have l:e∉frs (env::outer):=λhm=>by
  obtain⟨_,o,x,t⟩:=hl.mem hm;rw[w] at x;cases x;show t vs rfl
 show yq (wpAny_frameOf_fun r hl D λc n=>yq (wpAny_entryPlaceOf λpl m=>?_));unfold EntryCells.newEntry newFields;show yq (xP ?_ (m.sizeOk5 _ _ _ _ _));have i:c.get? e=some ⟨C,dx,.fields vs,#[]⟩:=(n.2.1 e l).trans w;generalize u:([d,.ref L,.none,rawInt L,.none]++(if pl.isEmpty then List.replicate 6 Value.none else pl)).toArray=v;have B:v[3]?=some (rawInt L):=by rw[<- u];first | (simp;done) | (rcases m with rfl | ⟨_,_,_,_,_,_,_,rfl⟩<;>simp)
 have j:=yu (h:=c) { cls:=.type "traceback",dict:=none,data:=.fields v } i;have g:c.objs.size≠e:=xO (yM i);show wpAny_setField j rfl hsz (h _ c.objs.size (Kd n.1.symm) ⟨⟨vs.setIfInBounds 1 (.ref c.objs.size),?_,by simp[hsz],by rw[Array.getElem?_setIfInBounds_ne (by decide)];show y⟩,⟨v,?_,B⟩,g⟩ ⟨λb o q hb hn=>?_,λb o q hb hn=>?_⟩)
 .rw [xI _ j rfl];rfl
 .rw [YA _ _ (Yv g)];show yS c rfl
 .have f:b≠e:=λz=>hb (by simp[z]);rw[YA _ _ (Yv f)];show yu _ ((n.2.1 b hn).trans q)
 .have f:b≠e:=λz=>hb (by simp[z]);obtain⟨F,z⟩:=n.2.2 b o q;show⟨F,by rw[YA _ _ (Yv f)];show yu _ z⟩
theorem qdK{Q:Unit->Shared->Prop}(a:A.frames=some (env::outer))(hl:s.heap.FunFrames base (env::outer))(c:env.frame=some L)(b:s.heap.get? e=some ⟨C,dx,.fields vs,#[]⟩)(h1:vs[1]?=some .none)(d:vs[2]?=some .none)
  (h:∀ h' T,s.heap.objs.size<=T->Trc h' e C dx T (rawInt L)->Keep (frs (env::outer)) [e] s.heap h'->Q () { s with heap:=h' }):wpAny M A (noteFrame (.ref e) env) Q E s:=by
 unfold noteFrame;simp only[c];show yq (XE b rfl h1 ?_);rw[yB (by decide)];show qgx a hl c b (xF.mp h1).1 d h
theorem qeF{T:Addr}{Q:Unit->Shared->Prop}(g:A.frames=some (env::outer))(hl:s.heap.FunFrames base (env::outer))(p:env.frame=some L)(t:Trc s.heap e C dx T .none)
  (h:∀ h' d,s.heap.objs.size<=d->Trc h' e C dx d (rawInt L)->Keep (frs (env::outer)) [e,T] s.heap h'->Q () { s with heap:=h' }):wpAny M A (noteFrame (.ref e) env) Q E s:=by
 obtain⟨⟨vs,n,h1,r⟩,⟨v,f,m⟩,i⟩:=t;unfold noteFrame;simp only[p];show yq (XE n rfl h1 ?_);rw[yH (show(Value.ref T != Value.none)=true from by simp)];show yq (XE f rfl m ?_);rw[yB (show ¬ ((Value.none==rawInt L)=true) from by simp[rawInt])];show yq (wpAny_setField f rfl (xF.mp m).1 ?_);have a:∀ b,b≠T->(s.heap.update T (Obj.mapFields (·.setIfInBounds 3 Value.none))).get? b=s.heap.get? b:=λb hb=>YA _ _ (Yv hb);have l:(s.heap.update T (Obj.mapFields (·.setIfInBounds 3 Value.none))).objs.size=s.heap.objs.size:=Heap.size_after_update ..;show qgx (s:={ s with heap:=s.heap.update T (Obj.mapFields (·.setIfInBounds 3 Value.none)) }) g (hl.of_keeps λb o hb j=>?_) p ((a e (Yv i)).trans n) (xF.mp h1).1 r λh' d u t' k=>?_
 .have c:b≠T:=λq=>by rw[q,f] at hb;cases hb;show j v rfl
  show⟨o,(a b c).trans hb,rfl⟩
 .show h h' d (by rw[<- l];show u) t' ⟨λb o q hb hn=>?_,λb o q hb hn=>?_⟩
  .have c:b≠T:=λz=>hb (by simp[z]);show k.keep b o ((a b c).trans q) (λz=>hb (by simp only[yr] at z;simp[z])) hn
  .have c:b≠T:=λz=>hb (by simp[z]);show k.slot b o ((a b c).trans q) (λz=>hb (by simp only[yr] at z;simp[z])) hn
theorem qcm{T:Addr}{Q:Unit->Shared->Prop}(t:Trc s.heap e C dx T fl)(h:∀ h',Trc h' e C dx T .none->(∀ b o,b≠T->s.heap.get? b=some o->h'.get? b=some o)->h'.objs.size=s.heap.objs.size->Q () { s with heap:=h' }) :
  wpAny M A (setFlight (.ref e) none) Q E s:=by
 obtain⟨⟨vs,f,h1,i⟩,⟨g,d,j⟩,c⟩:=t;have a:3<g.size:=(xF.mp j).1;unfold setFlight;show yq (XE f rfl h1 ?_);rw[yH (show(Value.ref T != Value.none)=true from by simp)];show wpAny_setField d rfl a (h _ ⟨⟨vs,?_,h1,i⟩,⟨g.setIfInBounds 3 .none,?_,by simp[a]⟩,c⟩ (λb o hb q=>?_) (Heap.size_after_update ..))
 .rw [YA _ _ c];show f
 .rw [xI _ d rfl];rfl
 .rw [YA _ _ (Yv hb)];show q
end
def CX1(P:Program)(w:World):CXT:=λb H s E c s'=>∃(a C:Addr) (dx:Option Addr) (T:Addr) (H':Hp),c=.ref a/\s'.os=s.os/\AllBare s'.gens/\Un (frs b) [] H H' s.heap s'.heap/\HOk P w H' s'.heap /\
 H' a=some (XO a C dx)/\Trc s'.heap a (.ref C) dx T .none/\s.heap.objs.size<=T/\H' T=none/\E (.ref C) dx H'
section
variable{X:Cx}{pins:List (Addr×Obj)}{σ:St}{H:Hp}{s:Shared}
theorem qcZ{T:Addr}(I:Inv X pins σ H s)(f:H a=some (XO a C dx))(k:Keep (frs X.stack) zs s.heap h')(g:∀ b∈zs,b=a\/H b=none)(t:Trc h' a (.ref C) dx T fl):HOk X.prog X.w H h':=λb u e=>by
 by_cases hb:b=a
 .subst hb;rw[f] at e;cases e;obtain⟨vs,q,_⟩:=t.ex;show XO.ok q
 .have d:∀ c o,H c=some o->c≠a->c∉zs/\c∉frs X.stack:=λc o q n=>⟨λz=>(g c z).elim n λy=>(by rw[y] at q;cases q),λz=>(by have y:=I.stkFree c z;rw[y] at q;cases q)⟩;show(I.hok b u e).stay (λc v hc r=>?_) (λ_ q=>q) λ_ _ q=>q;rcases hc with rfl | hc
  .show k.keep c v r (d c _ e hb).1 (d c _ e hb).2
  .have n:c≠a:=λz=>by rw[z,f] at hc;cases hc
   show k.keep c v r (d c _ hc n).1 (d c _ hc n).2
theorem qgy{T:Addr}(I:Inv X pins σ H s)(h:X.ex=[])(p:H a=some (XO a C dx))(k:Keep (frs X.stack) zs s.heap h')(r:∀ b∈zs,b=a\/X.s₀.heap.objs.size<=b)(t:Trc h' a (.ref C) dx T fl) :
  Un X.fs [] X.H₀ H X.s₀.heap h':=by
 have B:=I.base;rw[h] at B;have low:∀ b o,X.s₀.heap.get? b=some o->b≠X.env.locals:=λb o e=>Yk (yi (yM e) I.ok.above);have j:∀ b o,X.s₀.heap.get? b=some o->b≠a->b∉zs:=λb o e n z=>(r b z).elim n λy=>absurd (yi (yM e) y) (Yw _);have m:∀ b,H b=none->b≠a:=λb n z=>by rw[z,p] at n;cases n
 have i:∀ b o,X.s₀.heap.get? b=some o->b∉X.fs->b∉frs X.stack:=λb o e n z=>(yy.mp (I.stkSub b z)).elim (low b o e) n;show⟨λb o e n hb c=>?_,λb o e n hb c=>?_,B.free,λb o e c=>?_,B.tups,B.frzs,B.tbls⟩
 .show k.keep b o (B.keep b o e n hb c) (j b o e (m b (B.free b o e n c))) (i b o e hb)
 .obtain⟨v,q⟩:=B.slot b o e n hb c;have g:=j b o e (m b (B.free b o e n c));by_cases d:b∈frs X.stack
  .obtain⟨f,l⟩:=k.slot b _ q g d;show⟨f,l⟩
  .show⟨v,k.keep b _ q g d⟩
 .obtain⟨u,q⟩:=B.there b o e c;by_cases hb:b=a
  .subst hb;obtain⟨vs,z,_⟩:=t.ex;show⟨_,z⟩
  .have g:=j b o e hb;by_cases d:b∈frs X.stack
   .obtain⟨f,l⟩:=k.slot b _ q g d;show⟨_,l⟩
   .show⟨u,k.keep b _ q g d⟩
end
structure XOk(X:Cx)(EK:St->XK):Prop where
 pass:∀(pins:List (Addr×Obj)) (σ:St) (H:Hp) (s:Shared) (e:Value) (s':Shared),Inv X pins σ H s->CX1 X.prog X.w X.stack H s (EK σ) e s'->X.xe e s'
 rais:∀(pins:List (Addr×Obj)) (σ:St) (H:Hp) (s:Shared) (a C:Addr) (dx:Option Addr),Inv X pins σ H s->H a=some (XN a C dx)->EK σ (.ref C) dx (upd H a (XO a C dx))->X.xe (.ref a) s
 calm:X.calm=true
section
variable{P:Program}{w:World}{K:yf}{mg:Str->Option Value}{base:Heap}{N:LS}{qual:Str}{scope:Scope}{f:Addr}{cd:Value}{A:Around}{outer:List Env}{s0:Shared}{H0:Hp}{E:XK}
theorem jM:XOk (qgs (CX1 P w) P w K mg base N qual scope f cd A outer s0 H0 E) λ_=>E where
 calm:=rfl
 pass:=by
  intro pins σ H s O s' I m;obtain⟨a,C,dx,T,H',rfl,D,l,un,B,g,t,M,v,q⟩:=m;have J:=I.call' (s':=s') (H':=H') (ch:=[]) D un B l (λb z=>absurd z (by simp));show wpAny _ _ (leaving _ _) _ _ _;unfold leaving;show yq (qeF (base:=base) J.ok.frames J.stack rfl t λh' d h t' k=>?_);show qcm (s:={ s' with heap:=h' }) t' λu i p L=>?_;have F:s0.heap.objs.size<=s.heap.objs.size:=I.sz;have j:=J.sz
  have r:Keep (frs (envOfC qual scope s0.heap.objs.size f cd::outer)) [a,T,d] s'.heap u:=by
   show⟨λb o e z n=>?_,λb o e z n=>?_⟩
   .simp only[yy,yR,YJ,Kh] at z;show p b o z.2.2 (k.keep b o e (by simp[z.1,z.2.1]) n)
   .simp only[yy,yR,YJ,Kh] at z;obtain⟨G,y⟩:=k.slot b o e (by simp[z.1,z.2.1]) n;show⟨G,p b _ z.2.2 y⟩
  have c:H' d=none:=J.hok.fresh h;show⟨a,C,dx,d,H',rfl,J.os,l,qgy J rfl g r (λb hb=>?_) i,qcZ J g r (λb hb=>?_) i,g,i,yh j h,c,q⟩
  .simp only[yy,yR,YJ] at hb;rcases hb with rfl | rfl | rfl
   .show .inl rfl
   .show .inr (yh F M)
   .show .inr (yh j h)
  .simp only[yy,yR,YJ] at hb;rcases hb with rfl | rfl | rfl
   .show .inl rfl
   .show .inr v
   .show .inr c
 rais:=by
  intro pins σ H s a C dx I e q;obtain⟨⟨a0,m⟩,_⟩:=(show ObjOk _ _ H s.heap a (XN a C dx) from I.hok a _ e);have J:Inv _ pins σ (upd H a (XO a C dx)) s:=I.write (x:=a) (e:=a) (o:=XO a C dx) (h':=s.heap) (t':=s.toks) (by rw[e];show YK) (.inl rfl) (λ_ _ _ q=>q) ⟨_,m⟩ (XO.ok m);show wpAny _ _ (leaving _ _) _ _ _;unfold leaving;show yq (qdK (base:=base) J.ok.frames J.stack rfl m rfl rfl λh' d h t' k=>?_);show qcm (s:={ s with heap:=h' }) t' λu i p L=>?_;have j:=J.sz;have g:upd H a (XO a C dx) a=some (XO a C dx):=qb
  have r:Keep (frs (envOfC qual scope s0.heap.objs.size f cd::outer)) [a,d] s.heap u:=by
   show⟨λb o e z n=>?_,λb o e z n=>?_⟩
   .simp only[yy,yR,YJ,Kh] at z;show p b o z.2 (k.keep b o e (by simp[z.1]) n)
   .simp only[yy,yR,YJ,Kh] at z;obtain⟨G,y⟩:=k.slot b o e (by simp[z.1]) n;show⟨G,p b _ z.2 y⟩
  have c:upd H a (XO a C dx) d=none:=J.hok.fresh h;show⟨a,C,dx,d,_,rfl,J.os,J.bare,qgy J rfl g r (λb hb=>?_) i,qcZ J g r (λb hb=>?_) i,g,i,yh j h,c,q⟩
  .simp only[yy,yR,YJ] at hb;rcases hb with rfl | rfl
   .show .inl rfl
   .show .inr (yh j h)
  .simp only[yy,yR,YJ] at hb;rcases hb with rfl | rfl
   .show .inl rfl
   .show .inr c
end
def qgz(K:yf)(c:St->XK)(te:TE):TS:=λ_ σ H=>te σ H λx b=>∃ a C dx,x=.ref a/\b a=some (XN a C dx)/\XAt K C/\c σ (.ref C) dx (upd b a (XO a C dx))
section
variable{X:Cx}{EK:St->XK}{e:Expr}{te:TE}{pos:Pos}{K:yf}
theorem xraise{x:Sem Value}{Q:Flow->Shared->Prop}(o:A.handled=none)
  (h:wpAny M A x (λv b=>∃ a C dx a0,v=.ref a/\K.In b.heap/\XAt K C/\b.heap.get? a=some ⟨.ref C,dx,.fields (xfs a0),#[]⟩/\E (.ref a) b) E s):wpAny M A (raiseStmt env (some x) none) Q E s:=by
 unfold raiseStmt;show yq (YD h (λv b h1=>?_) λ_ _ z=>z);obtain⟨a,C,dx,a0,rfl,f,c,n,m⟩:=h1;obtain⟨nm,G,N,bs,l,j,H,p,q,col,r,u,w,y,B,D,i,hm⟩:=qeC f c.xc;have e:(Value.ref C::l).contains (.type "BaseException")=true:=by rw[Yx,qbl hm (by simp),km]
 obtain⟨t,g,d,tk,F⟩:=b
 repeat (first | with_reducible show YH n ?_ | with_reducible show YH i ?_ | (with_reducible show xy i ?_;rw[e]) | wp_step)
 show wpAny_raiseNew_none o m
theorem qbF(l:X.K=K)(f:XOk X EK)(m:PE X e te):PS X (.Raise (some e) none pos) (qgz K EK te):=by
 subst l;intro pins s σ H D I h;rw[arm_exec_Raise];show yq (Xw (xraise (K:=X.K) (I.ok.hd f.calm) ?_));show yq (thn (m pins s σ H _ I h) λv i ⟨x,d,b,o,a,C,dx,j,g,c,q⟩=>yq (Xw (yA ?_)));subst j;cases o;obtain⟨⟨a0,n⟩,_⟩:=(show ObjOk _ _ d i.heap a (XN a C dx) from b.hok a _ g);show⟨a,C,dx,a0,rfl,b.kIn,c,n,f.rais pins σ d i a C dx b g q⟩
end
def qgA(sp:Sp)(a:St->XK)(t:TA):TE:=fun σ H Q=>t σ H λvs b=>sp vs b Q (a σ)
def qgB(C:Addr)(m:Str)(sp:Sp)(b:St->XK)(d:TE)(t:TA):TE:=fun σ H Q=>d σ H λx a=>MeR C m x a (t σ a λvs c=>sp (x::vs) c Q (b σ))
def qgC(C:Addr)(sp:Sp)(b:St->XK)(t:TA):TE:=fun σ H Q=>t σ H λvs a=>∀ x dx,a x=none->a dx=none->dx≠x ->
 sp (.ref x::vs) (upd (upd a dx (.own x)) x (.ins C dx [])) (λv c=>v=.non/\Q (.ref x) c) (b σ)
theorem FnOk.any{K:yf}{b:Str->Option Value}{base:Heap}{k:Nat}{CX:CXT}(F:FnOk P w K b base CX0 k f fd ps sp):FnOk P w K b base CX k f fd ps sp:=by
 show⟨F.len,λA a s H args us vs Q E d c hb hv g=>Xg (F.run A a s H args us vs Q E d c hb hv g) λr s' q=>?_⟩
 cases r with
 | ok fl=>cases fl<;>show q
 | error e=>show q.elim
structure MethOk(P:Program)(w:World)(K:yf)(mg:Str->Option Value)(base:Heap)(CX:CXT)(k:Nat)(C:Addr)(m:Str)(ps:LS)(sp:Sp):Prop where
 ex:∃ f fd,FnOk P w K mg base CX k f fd ps sp/\Meth K C m f/\Binds K fd ps []
 cl:Cls K C
structure MakeOk(P:Program)(w:World)(K:yf)(mg:Str->Option Value)(base:Heap)(CX:CXT)(k:Nat)(C:Addr)(x:Str)(ps:LS)(sp:Sp):Prop where
 ex:∃ f fd,FnOk P w K mg base CX k f fd ps sp/\Mk K C f/\Binds K fd ps []
 mg_:mg x=some (.ref C)
structure XMakeOk(P:Program)(w:World)(K:yf)(mg:Str->Option Value)(base:Heap)(k:Nat)(C:Addr)(x:Str)(ps:LS)(sp:Sp):Prop where
 ex:∃ f fd,wqqg k f fd ps sp/\XMk K C f/\Binds K fd ps []
 mg_:mg x=some (.ref C)
section
variable{X:Cx}{EK:St->XK}{k:Nat}{f C:Addr}{fd:FuncData}{ps:LS}{sp:Sp}{x m:Str}{p pos apos:Pos}{e o:Expr}{es:List Expr}{ta:TE}{t:TA}
theorem qfu{Q:VK}(F:FnOk X.prog X.w X.K X.mg X.base (CX1 X.prog X.w) k f fd ps sp)(d:Room k X.A)(hb:Binds X.K fd ps [])(c:XOk X EK)
  (I:Inv X pins σ H s) (r:Vals vs us) (h:sp vs H Q (EK σ)):wpAny (model X.prog X.w) X.A (call (.ref f) us) (EP X pins σ Q) X.xe s:=by
 have hl:(us++[]).length=ps.length:=by rw[y6,<- r.length];show F.len _ _ _ _ h
 have b:=hb s us I.kIn hl;rw[y6] at b;show xT (Xg (F.run X.A X.stack s H ⟨us,[]⟩ us vs Q (EK σ) d I.env0 b r h) λr s' a=>?_)
 cases r with
 | error e=>show c.pass pins σ H s e s' I a
 | ok fl =>
  cases fl with
  | ret u=>show I.after a
  | _=>show False.elim a
theorem qat(D:DefOk X.prog X.w X.K X.mg X.base (CX1 X.prog X.w) k x ps sp)(m:Room k X.A)(d:XOk X EK)(g:PA X (e::es) t)(j:Gl X x:=by rfl)(a:(x==("__debug__":Str))=false:=by decide)
  (i:starEach (e::es) X.env=(false,eval e X.env)::starEach es X.env:=by rfl) (b:(backTo pos (starEach es X.env)).any (·.1)=false:=by rfl):PE X (.Call (.Name x p) (e::es) [] pos) (qgA sp EK t):=by
 obtain⟨f,fd,F,hm,l,hb⟩:=D.ex;intro pins s σ H Q I h;show xm (qao I j hm ?_ a);show YY (h₀:=X.base) I.ok.mod.kin l (thn (g pos pins s σ H _ I h) λus o ⟨vs,n,c,r,q⟩=>⟨c.kIn,?_⟩) i b;show qfu F m hb d c r q
theorem pe_methS(D:MethOk X.prog X.w X.K X.mg X.base (CX1 X.prog X.w) k C m ps sp)(z:Room k X.A)(j:XOk X EK)(y:PE X o ta)(v:PA X (e::es) t)
  (c:starEach (e::es) X.env=(false,eval e X.env)::starEach es X.env:=by rfl) (b:(backTo pos (starEach es X.env)).any (·.1)=false:=by rfl)
  (B:eval (.Call (.Attribute o m apos) (e::es) [] pos) X.env=(do
   let ov <- eval o X.env
   standAt apos.atName
   let (f,first) <- holding [ov] (getMethod ov m pl)
   callWith pos f first (backTo pos (starEach (e::es) X.env)) (backToKw pos (keywordEach [] X.env))):=by rfl) :
  PE X (.Call (.Attribute o m apos) (e::es) [] pos) (qgB C m sp EK ta t):=by
 obtain⟨f,fd,F,hm,hb⟩:=D.ex;intro pins s σ H Q I h;show xH (pl:=pl) (thn (y pins s σ H _ I h) λu J ⟨x,i,d,G,a,dx,fs,p,n,l,q⟩=>?_) B;subst p;obtain rfl:u=Value.ref a:=G;show qbD d n D.cl hm l ?_;show YY (first:=[.ref a]) (h₀:=X.base) I.ok.mod.kin hm.kp (thn (v pos pins J σ i _ d q) λus M ⟨vs,L,g,r,E⟩=>⟨g.kIn,?_⟩) c b;show qfu (us:=.ref a::us) (vs:=.ref a::vs) F z hb j g (.cons rfl r) E
theorem run_makeS{Q:VK}(M:Mk X.K C f)(F:FnOk X.prog X.w X.K X.mg X.base (CX1 X.prog X.w) k f fd ps sp)(n:Room (k+1) X.A)(hb:Binds X.K fd ps [])(l:XOk X EK)
  (I:Inv X pins σ H s) (r:Vals vs us) (h:∀ x dx,H x=none->H dx=none->dx≠x->sp (.ref x::vs) (upd (upd H dx (.own x)) x (.ins C dx [])) (λv i=>v=.non/\Q (.ref x) i) (EK σ)) :
  wpAny (model X.prog X.w) X.A (call (.ref C) us) (EP X pins σ Q) X.xe s:=by
 have d:=h (s.heap.objs.size+1) s.heap.objs.size (I.hok.fresh (YO _)) (I.hok.fresh (yg _)) (Yk (XM _));have c:=Inv.made (C:=C) I;have g:Vals (V.ref (s.heap.objs.size+1)::vs) (Value.ref (s.heap.objs.size+1)::us):=.cons rfl r
 have hl:(Value.ref (s.heap.objs.size+1)::us++[]).length=ps.length:=by
  have q:=g.length;rw[F.len _ _ _ _ d] at q;rw[y6];show q.symm
 have b:=hb _ (Value.ref (s.heap.objs.size+1)::us) c.kIn hl;rw[y6] at b;show xT (qer (f:=f) I.kIn M.makes M.init (Yq.mp M.fn) (Xg (F.run _ X.stack _ _ ⟨Value.ref (s.heap.objs.size+1)::us,[]⟩ (Value.ref (s.heap.objs.size+1)::us) _ _ (EK σ) (n.make C us [])
  (c.env0.make C us []) b g d) λr s' a=>?_))
 cases r with
 | error e=>show l.pass pins σ _ _ e s' c a
 | ok fl =>
  cases fl with
  | ret u =>
   obtain⟨v,H',j,p,m,o⟩:=c.after a;subst m;show⟨p,⟨V.ref (s.heap.objs.size+1),H',j,rfl,o⟩⟩
  | _=>show False.elim a
theorem qbX(D:MakeOk X.prog X.w X.K X.mg X.base (CX1 X.prog X.w) k C x ps sp)(l:Room (k+1) X.A)(d:XOk X EK)(g:PA X (e::es) t)(j:Gl X x:=by rfl)(a:(x==("__debug__":Str))=false:=by decide)
  (i:starEach (e::es) X.env=(false,eval e X.env)::starEach es X.env:=by rfl) (b:(backTo pos (starEach es X.env)).any (·.1)=false:=by rfl):PE X (.Call (.Name x p) (e::es) [] pos) (qgC C sp EK t):=by
 obtain⟨f,fd,F,M,hb⟩:=D.ex;intro pins s σ H Q I h;show xm (qao I j D.mg_ ?_ a);show YY (h₀:=X.base) I.ok.mod.kin M.kp (thn (g pos pins s σ H _ I h) λus n ⟨vs,m,c,r,q⟩=>⟨c.kIn,?_⟩) i b;show run_makeS M F l hb d c r q
theorem qe5(D:XMakeOk X.prog X.w X.K X.mg X.base k C x ps sp)(h:Room (k+1) X.A)(c:PA X (e::es) t)(g:Gl X x:=by rfl)(a:(x==("__debug__":Str))=false:=by decide)
  (d:starEach (e::es) X.env=(false,eval e X.env)::starEach es X.env:=by rfl) (b:(backTo pos (starEach es X.env)).any (·.1)=false:=by rfl):PE X (.Call (.Name x p) (e::es) [] pos) (qft C sp E0 t):=by
 obtain⟨f,fd,F,M,hb⟩:=D.ex;show pe_xmake M F h g D.mg_ hb qr c a d b
theorem qZ(D:MethOk X.prog X.w X.K X.mg X.base CX0 k C m ps sp)(g:Room k X.A)(d:PE X o ta)(c:PA X (e::es) t)
  (b:starEach (e::es) X.env=(false,eval e X.env)::starEach es X.env:=by rfl) (a:(backTo pos (starEach es X.env)).any (·.1)=false:=by rfl)
  (h:eval (.Call (.Attribute o m apos) (e::es) [] pos) X.env=(do
   let ov <- eval o X.env
   standAt apos.atName
   let (f,first) <- holding [ov] (getMethod ov m pl)
   callWith pos f first (backTo pos (starEach (e::es) X.env)) (backToKw pos (keywordEach [] X.env))):=by rfl) :
  PE X (.Call (.Attribute o m apos) (e::es) [] pos) (qfg C m sp [] E0 ta t):=by
 obtain⟨f,fd,F,hm,hb⟩:=D.ex;show pe_meth (pl:=pl) d D.cl hm F g hb .nil qr c b a h
theorem j6(D:MethOk X.prog X.w X.K X.mg X.base CX0 k C m ps sp)(b:Room k X.A)(a:PE X o ta)
  (c:eval (.Call (.Attribute o m apos) [] [] pos) X.env=(do
   let ov <- eval o X.env
   standAt apos.atName
   let (f,first) <- holding [ov] (getMethod ov m pl)
   callWith pos f first (backTo pos (starEach [] X.env)) (backToKw pos (keywordEach [] X.env))):=by rfl) :
  PE X (.Call (.Attribute o m apos) [] [] pos) (qfg C m sp [] E0 ta qbT):=by
 obtain⟨f,fd,F,hm,hb⟩:=D.ex;show pe_meth0 (pl:=pl) a D.cl hm F b hb .nil qr c
end
section
variable{P:Program}{w:World}{K:yf}{mg:Str->Option Value}{base:Heap}
theorem Fun.ok1{st:Stmt}{k:Nat}(F:Fun K x qual st f fd)(S:FnScope N ps (qf st))(g:∀ vs H Q E,sp vs H Q E->vs.length=ps.length)
  (c:∀(b:Value) (A:Around) (a:List Env) (s:Shared) (H:Hp) (vs:List V) (Q:VK) (E:XK),Room k (A.deeper (envOfC qual (qf st) s.heap.objs.size f b))->sp vs H Q E ->
   ∃ t,PSs (qgs (CX1 P w) P w K mg base N qual (qf st) f b A a s H E) (zk st) t/\t { nx:=λ_ H'=>Q .non H',rt:=Q } (start N vs) H):FnOk P w K mg base (CX1 P w) (k+1) f fd ps sp:=by
 obtain⟨n,od,kV,h,o,m,b,ct,l,rfl,j,d⟩:=F.ex;show qhv j d S g λA a s H vs Q E i e=>c b A a s H vs Q E i e
end
abbrev Cx.tried(X:Cx)(pn:List (Addr×Obj))(E:Value->Shared->Prop):Cx:={ X with pn:=pn,xe:=E }
abbrev Cx.hand(X:Cx)(a:Addr):Cx:={ X with A:=X.A.mark (some (.ref a)),calm:=false,xe:=λ_ _=>False }
section
variable{X:Cx}{pins pins':List (Addr×Obj)}{σ:St}{H:Hp}{s:Shared}{E:Value->Shared->Prop}{a:Addr}
theorem Inv.tried(I:Inv X pins σ H s)(E:Value->Shared->Prop):Inv (X.tried (X.pn++pins) E) [] σ H s:=
 ⟨⟨I.ok.mod,I.ok.kind,I.ok.glob,I.ok.blt,I.ok.above,I.ok.inj,I.ok.has,I.ok.cab,I.ok.hd,I.ok.frames,I.ok.stk,I.ok.exf,I.ok.bs,I.ok.bsz,I.ok.noex,I.ok.exfs,I.ok.funs,I.ok.frf⟩,I.os,I.bare,I.base,I.loc,I.cell,I.free,I.freeC,
  λp a=>I.pin p (by have a:p∈(X.pn++pins)++[]:=a;rw[y6] at a;show a),I.hok,I.len⟩
theorem Inv.untried(I:Inv (X.tried (X.pn++pins) E) pins' σ H s):Inv X pins σ H s:=
 ⟨⟨I.ok.mod,I.ok.kind,I.ok.glob,I.ok.blt,I.ok.above,I.ok.inj,I.ok.has,I.ok.cab,I.ok.hd,I.ok.frames,I.ok.stk,I.ok.exf,I.ok.bs,I.ok.bsz,I.ok.noex,I.ok.exfs,I.ok.funs,I.ok.frf⟩,I.os,I.bare,I.base,I.loc,I.cell,I.free,I.freeC,
  λp a=>I.pin p (Yz _ a),I.hok,I.len⟩
theorem Inv.hand(I:Inv X pins σ H s)(a:Addr):Inv (X.hand a) pins σ H s:=
 ⟨⟨I.ok.mod,I.ok.kind,I.ok.glob,I.ok.blt,I.ok.above,I.ok.inj,I.ok.has,I.ok.cab,(λh=>nomatch h),I.ok.frames,I.ok.stk,I.ok.exf,I.ok.bs,I.ok.bsz,I.ok.noex,I.ok.exfs,I.ok.funs,I.ok.frf⟩,I.os,I.bare,I.base,I.loc,I.cell,I.free,I.freeC,I.pin,I.hok,I.len⟩
theorem Inv.unhand(hc:X.calm=true->X.A.handled=none)(I:Inv (X.hand a) pins σ H s):Inv X pins σ H s:=
 ⟨⟨I.ok.mod,I.ok.kind,I.ok.glob,I.ok.blt,I.ok.above,I.ok.inj,I.ok.has,I.ok.cab,hc,I.ok.frames,I.ok.stk,I.ok.exf,I.ok.bs,I.ok.bsz,I.ok.noex,I.ok.exfs,I.ok.funs,I.ok.frf⟩,I.os,I.bare,I.base,I.loc,I.cell,I.free,I.freeC,I.pin,I.hok,I.len⟩
structure Loose(X:Cx)(pins:List (Addr×Obj))(H:Hp)(T:Addr):Prop where
 hn:H T=none
 lo:X.s₀.heap.objs.size<=T
 nl:T≠X.env.locals
 nf:T∉X.fs
 nc:∀ x c,X.env.cells.lookup x=some c->c≠T
 np:∀ p∈X.pn++pins,p.1≠T
theorem Inv.loose(I:Inv X pins σ H s){T:Addr}(a:s.heap.objs.size<=T)(hn:H' T=none):Loose X pins H' T where
 hn:=hn
 lo:=yh I.sz a
 nl:=xO (yi I.lt a)
 nf:=I.nofs a
 nc:=λx c e=>by
  obtain⟨v,o,b,_⟩:=I.cell x c e;show Yk (yi (yM b) a)
 np:=λp d=>Yk (yi (yM (I.pin p d).1) a)
theorem Inv.noted{T:Addr}(I:Inv X pins σ H s)(f:H a=some (XO a C dx))(k:Keep (frs X.stack) zs s.heap h')(h:∀ b∈zs,b=a\/Loose X pins H b)(t:Trc h' a (.ref C) dx T fl) :
  Inv X pins σ H { s with heap:=h' }:=by
 have j:=qcZ I f k (λb hb=>(h b hb).imp (λe=>e) λl=>l.hn) t;have i:∀ b,H b=none->b∉zs.filter (λb=>decide (b≠a))->b∉zs:=λb n z y=>z (yo.mpr ⟨y,yv λe=>by rw[e,f] at n;cases n⟩);show I.call (g':=s.gens) (t':=s.toks) (d':=s.drawn) (ch:=zs.filter λb=>decide (b≠a)) ⟨λb o e n hb d=>k.keep b o e (i b n d) hb,λb o e n hb d=>k.slot b o e (i b n d) hb,λ_ _ _ n _=>n,λb o e d=>?_,λ_ _ e=>e,λ_ _ _ e=>e,
  λb ps e=>⟨#[],by rw[e];simp⟩⟩ j I.bare λb hb=>?_
 .by_cases c:b=a
  .subst c;obtain⟨vs,q,_⟩:=t.ex;show⟨_,q⟩
  .have z:b∉zs:=λy=>d (yo.mpr ⟨y,yv c⟩);by_cases g:b∈frs X.stack
   .obtain⟨m,q⟩:=k.slot b o e z g;show⟨_,q⟩
   .show⟨o,k.keep b o e z g⟩
 .obtain⟨y,q⟩:=yo.mp hb;rcases h b y with e | l
  .show absurd e (yj q)
  .show⟨.inr l.lo,l.nl,l.nc,l.np⟩
theorem unbind_ok{i:Nat}{Q:Unit->Shared->Prop}(I:Inv X pins σ H s)(J:X.N.Nodup)(B:X.N[i]?=some x)(f:X.env.scope.names.lookup x=some .local)(hv:σ[i]?=some (some v))
  (h:∀ s',Inv X pins (σ.set i none) H s'->Q () s'):wpAny M A (unbindName X.env x) Q E s:=by
 obtain⟨m,hn,hl⟩:=id I.loc;obtain⟨u,Y,L⟩:=hl i x v B hv (.inl f)
 have hm:m x=some u:=by
  rcases L with⟨_,e⟩ | ⟨k,_⟩
  .show e
  .have k':X.env.scope.names.lookup x=some .cell\/X.env.scope.names.lookup x=some .free:=k;rw[f] at k';rcases k' with z | z<;>cases z
 have r:(X.env.scope.kind==.class||(X.env.scope.kind==.module&&X.env.locals != X.env.globals))=false:=by rw[I.ok.kind];rfl
 show wpAny_unbindName_local f hn hm r λh' Z F g=>?_;have a:∀ b o,X.s₀.heap.get? b=some o->b≠X.env.locals:=λb o e=>Yk (yi (yM e) I.ok.above);show h _ ⟨I.ok,I.os,I.bare,⟨λb o e n hb f=>?_,λb o e n hb f=>?_,I.base.free,λb o e f=>?_,I.base.tups,I.base.frzs,I.base.tbls⟩,⟨_,F,λj y W l t G=>?_⟩,λy c e=>?_,I.free,I.freeC,λp K=>?_,λb S e=>?_,by simpa using I.len⟩
 .show(g.2 b (a b o e)).trans (I.base.keep b o e n hb f)
 .obtain⟨U,l⟩:=I.base.slot b o e n hb f;show⟨U,(g.2 b (a b o e)).trans l⟩
 .obtain⟨R,l⟩:=I.base.there b o e f;show⟨R,(g.2 b (a b o e)).trans l⟩
 .by_cases C:j=i
  .subst C;have D:j<σ.length:=by rw[I.len];show(yc.mp B).1
   rw[Xf D] at t;cases t
  .rw [xp (Yv C)] at t;obtain⟨w,T,q⟩:=hl j y W l t G;show⟨w,T,?_⟩;rcases q with⟨k,e⟩ | ⟨k,c,e,z⟩
   .have P:y≠x:=λe=>C (qcV J l (e ▸ B));show .inl ⟨k,by simp[P,e]⟩
   .show .inr ⟨k,c,e,z.sameBut g (I.cne y c e)⟩
 .obtain⟨w,z⟩:=I.cell y c e;show⟨w,z.sameBut g (I.cne y c e)⟩
 .obtain⟨e,n,ne,O,d⟩:=I.pin p K;show⟨(g.2 p.1 ne).trans e,n,ne,O,d⟩
 .show(I.hok b S e).stay (λc w hc q=>(g.2 c ?_).trans q) (λ_ q=>q) λ_ _ q=>q;rintro rfl;rcases hc with rfl | hc
  .rw [I.free] at e;cases e
  .rw [I.free] at hc;cases hc
end
structure Held(X:Cx)(pins:List (Addr×Obj))(H:Hp)(h:Heap)(a C:Addr)(dx:Option Addr):Prop where
 at_:H a=some (XO a C dx)
 tr:∃ T,Trc h a (.ref C) dx T .none/\Loose X pins H T
def PH(X:Cx)(a C:Addr)(dx:Option Addr)(b:List ExceptHandler)(c:TS):Prop:=
 ∀(pins:List (Addr×Obj)) (s:Shared) (σ:St) (H:Hp) (D:Ends),Inv X pins σ H s->Held X pins H s.heap a C dx->c D σ H->wpAny (model X.prog X.w) X.A (handleBy (.ref a) X.env b) (SP X pins D) X.xe s
def thNil:TS:=λ_ _ _=>False
def thAs(K:yf)(a C D:Addr)(i:Nat)(d rest:TS):TS:=λZ σ H=>∃ b,PySem.W.mroIn K C (.ref D)=some b/\XAt K D/\XAt K C /\
 if b=true then d { nx:=λc H'=>Z.nx (c.set i none) H',rt:=Z.rt,bk:=λc H'=>Z.bk (c.set i none) H',ct:=λc H'=>Z.ct (c.set i none) H' } (σ.set i (some (.ref a))) H else rest Z σ H
def thNo(K:yf)(C D:Addr)(a rest:TS):TS:=λZ σ H=>∃ b,PySem.W.mroIn K C (.ref D)=some b/\XAt K D/\XAt K C/\if b=true then a Z σ H else rest Z σ H
theorem qgD{K:yf}{o:Obj}{Q:Bool->Shared->Prop}(X:K.In s.heap)(j:s.heap.get? a=some o)(hc:o.cls=.ref C)(d:XAt K D)(hb:PySem.W.mroIn K C (.ref D)=some b)(q:Q b s) :
  wpAny M A (excMatches (.ref a) (.ref D)) Q E s:=by
 obtain⟨nm,z,N,bs,i,h,B,l,m,col,n,t,u,v,w,x,e,hm⟩:=qeC X d.xc;have c:(Value.ref D::i).contains (.type "BaseException")=true:=by rw[Yx,qbl hm (by simp),km]
 have f:=tc_notTuple;have L:=xx (M:=M) X hb;obtain⟨r,g,p,tk,y⟩:=s;unfold excMatches
 repeat (first | with_reducible show YH e ?_ | (with_reducible show YH j ?_;rw[hc]) | (with_reducible show xy e ?_;rw[c]) | with_reducible show L.at ?_ | wp_step)
 cases b<;>(wp_walk;show q)
section
variable{X:Cx}{a C D:Addr}{dx:Option Addr}{c n:Str}{cp pos:Pos}{b0:Stmt}{body:List Stmt}{rest:List ExceptHandler}{tb tr:TS}{i:Nat}{K:yf}
theorem ph_nil:PH X a C dx [] thNil:=λ_ _ _ _ _ _ _ h=>h.elim
theorem suite_as{R:Result->Shared->Prop}{e:Value}
  (h:wpAny (model prog w) A (setFlight e none) (λ_ a=>wpAny (model prog w) A (bindName env n e) (λ_ b=>wpAny (model prog w) A (execs (b0::body) env) (λf c=>R (.ok f) c) (λ_ _=>False) b) (λ_ _=>False) a) (λ_ _=>False) s) :
  codeAny (model prog w) A (.handlers e [.ExceptHandler none (some n) (b0::body) pos] env) R s:=by
 show codeAny_of_tree ?_;show wpAny _ A (do return Fin.done (<- (handleWith e env [.ExceptHandler none (some n) (b0::body) pos]).onRaise (λx=>do noteFrame x env;theTreesLotGoes x))) _ _ s;show yq (wpAny_noted ?_);unfold handleWith;show yq (Xw (yq (YD h (λ_ a h1=>yq (YD h1 (λ_ b d=>yq (kK (YD d (λf c g=>yA (yA g)) λ_ _ z=>z.elim))) λ_ _ z=>z.elim)) λ_ _ z=>z.elim)))
theorem qhc(W:X.K=K)(y:X.N.Nodup)(x:X.N[i]?=some n)(m:X.env.scope.names.lookup n=some .local)(hg:Gl X c)(hm:X.mg c=some (.ref D))(hb:PSs (X.hand a) (b0::body) tb)(hr:PH X a C dx rest tr)
  (E:(c==("__debug__":Str))=false:=by decide):PH X a C dx (.ExceptHandler (some (.Name c cp)) (some n) (b0::body) pos::rest) (thAs K a C D i tb tr):=by
 subst W;intro pins s σ H Z I hl h;obtain⟨b,B,xd,xc,q⟩:=h;obtain⟨vs,Y⟩:=(show IsX H a C dx from .inr hl.at_).get I.hok;show wpAny_handleBy_cons (codeAny_handlers_test ?_) (by intro q;cases q);have U:=I.hand a;show qao (X:=X.hand a) U hg hm (qgD I.kIn Y rfl xd B ?_) E
 cases b with
 | false=>show hr pins s σ H Z I hl q
 | true =>
  obtain⟨T,t,lo⟩:=hl.tr;show suite_as (qcm t λh1 t1 M aa=>?_);have kk:Keep (frs X.stack) [T] s.heap h1:=⟨λb o e z _=>M b o (by simpa using z) e,λb o e z _=>⟨o.slots,M b o (by simpa using z) e⟩⟩;have P:=I.noted hl.at_ kk (λb hb=>.inr (by rw[yr.mp hb];show lo)) t1;have R:=P.hand a;show wpAny_bindName (qbR (X:=X.hand a) R y x (.inl m) (v:=.ref a) rfl (λs2 S=>?_) (.inr m));have q':tb { nx:=λd H'=>Z.nx (d.set i none) H',rt:=Z.rt,bk:=λd H'=>Z.bk (d.set i none) H',ct:=λd H'=>Z.ct (d.set i none) H' } (σ.set i (some (.ref a))) H:=q;show thn (hb pins s2 _ H _ S q') λf O p=>?_
  have j:∀{d:St} {H':Hp} {Q:Unit->Shared->Prop},Inv (X.hand a) pins d H' O->(∀ l,Inv X pins (d.set i none) H' l->Q () l)->wpAny (model X.prog X.w) X.A (do bindName X.env n .none;unbindBehindTheSuite X.env n pos) Q X.xe O:=λ{d H' Q} J k=>by
   have G:=Inv.unhand I.ok.hd J;have F:i<d.length:=by rw[G.len];show(yc.mp x).1
   show yq (wpAny_bindName (qbR G y x (.inl m) (v:=.non) rfl (λl g=>?_) (.inr m)));show wpAny_onRaise (unbind_ok g y x m (v:=.non) (by rw[Xf F]) λs5 L=>k s5 ?_);rw[List.set_set] at L;show L
  cases f with
  | next=>obtain⟨d,H',J,z⟩:=p;show j J λl g=>⟨_,H',g,z⟩
  | brk=>obtain⟨d,H',J,z⟩:=p;show j J λl g=>⟨_,H',g,z⟩
  | cont=>obtain⟨d,H',J,z⟩:=p;show j J λl g=>⟨_,H',g,z⟩
  | ret u=>obtain⟨v,d,H',J,r,z⟩:=p;show j J λl g=>⟨v,_,H',g,r,z⟩
theorem ph_no(n:X.K=K)(w:Gl X c)(hm:X.mg c=some (.ref D))(hb:PSs (X.hand a) (b0::body) tb)(x:PH X a C dx rest tr)(j:(c==("__debug__":Str))=false:=by decide) :
  PH X a C dx (.ExceptHandler (some (.Name c cp)) none (b0::body) pos::rest) (thNo K C D tb tr):=by
 subst n;intro pins s σ H Z I hl h;obtain⟨b,i,xd,G,q⟩:=h;obtain⟨vs,p⟩:=(show IsX H a C dx from .inr hl.at_).get I.hok;show wpAny_handleBy_cons (codeAny_handlers_test ?_) (by intro q;cases q);show qao (X:=X.hand a) (I.hand a) w hm (qgD I.kIn p rfl xd i ?_) j
 cases b with
 | false=>show x pins s σ H Z I hl q
 | true =>
  obtain⟨T,t,lo⟩:=hl.tr;show codeAny_handlers_suite (qcm t λh1 E l B=>?_);have y:Keep (frs X.stack) [T] s.heap h1:=⟨λb o e z _=>l b o (by simpa using z) e,λb o e z _=>⟨o.slots,l b o (by simpa using z) e⟩⟩;have m:=I.noted hl.at_ y (λb hb=>.inr (by rw[yr.mp hb];show lo)) E;have A:tb Z σ H:=q;show YD (hb pins _ σ H Z (m.hand a) A) (λf F g=>?_) λ_ _ z=>z.elim
  cases f with
  | next=>obtain⟨d,H',J,z⟩:=g;show⟨d,H',Inv.unhand I.ok.hd J,z⟩
  | brk=>obtain⟨d,H',J,z⟩:=g;show⟨d,H',Inv.unhand I.ok.hd J,z⟩
  | cont=>obtain⟨d,H',J,z⟩:=g;show⟨d,H',Inv.unhand I.ok.hd J,z⟩
  | ret u=>obtain⟨v,d,H',J,r,z⟩:=g;show⟨v,d,H',Inv.unhand I.ok.hd J,r,z⟩
end
def tTry(X:Cx)(b:List Stmt)(g:List ExceptHandler)(te:TS):TS:=λD σ H=>∃(d:St->XK) (e:TS),(∀ pn xe,XOk (X.tried pn xe) d->PSs (X.tried pn xe) b e) /\
 e { nx:=te D,rt:=D.rt,bk:=D.bk,ct:=D.ct } σ H/\∀(a C:Addr) (dx:Option Addr) (c:St) (H':Hp),d c (.ref C) dx H'->H' a=some (XO a C dx)->∃ f,PH X a C dx g f/\f D c H'
section
variable{X:Cx}{body orelse:List Stmt}{h0:ExceptHandler}{hs:List ExceptHandler}{pos:Pos}{te:TS}
theorem ps_try(hc:X.calm=true)(j:X.stack=X.env::X.outer)(y:X.env.frame=some X.env.locals)(ho:PSs X orelse te):PS X (.Try body (h0::hs) orelse [] pos) (tTry X body (h0::hs) te):=by
 intro pins s σ H D I h;obtain⟨R,tb,hb,q,hh⟩:=h;have E:X.A.frames=some (X.env::X.outer):=by rw[<- j];show I.ok.frames
 let m:Value->Shared->Prop:=λe d=>∃(a C:Addr) (dx:Option Addr) (c:St) (H':Hp),e=.ref a/\Inv X pins c H' d/\H' a=some (XO a C dx)/\R c (.ref C) dx H' /\
  ((∃ T,Trc d.heap a (.ref C) dx T .none/\Loose X pins H' T)\/∃ a0,d.heap.get? a=some ⟨.ref C,dx,.fields (xfs a0),#[]⟩)
 have Y:XOk (X.tried (X.pn++pins) m) R:=by
  show⟨λpins' c L d e s2 J l=>?_,λpins' c L d a C dx J e z=>?_,hc⟩
  .obtain⟨a,C,dx,T,H',rfl,P,N,un,O,n,t,hT,M,z⟩:=l;have p:=J.call' (s':=s2) (H':=H') (ch:=[]) P un O N (λb z=>absurd z (by simp));have G:=Inv.untried J;show⟨a,C,dx,c,H',rfl,Inv.untried p,n,z,.inl ⟨T,t,G.loose hT M⟩⟩
  .have G:=Inv.untried J;obtain⟨⟨a0,l⟩,_⟩:=(show ObjOk _ _ L d.heap a (XN a C dx) from G.hok a _ e);have p:Inv X pins c (upd L a (XO a C dx)) d:=G.write (x:=a) (e:=a) (o:=XO a C dx) (h':=d.heap) (t':=d.toks) (by rw[e];show YK) (.inl rfl) (λ_ _ _ q=>q) ⟨_,l⟩ (XO.ok l);show⟨a,C,dx,c,_,rfl,p,qb,z,.inr ⟨a0,l⟩⟩
 have B:=hb (X.pn++pins) m Y [] s σ H _ (I.tried m) q;show wpAny_Try_except (YD B (λf d K=>?_) λe d he=>?_)
 .cases f with
  | next=>obtain⟨c,H',J,z⟩:=K;show ho pins d c H' D (Inv.untried J) z
  | brk=>obtain⟨c,H',J,z⟩:=K;show⟨c,H',Inv.untried J,z⟩
  | cont=>obtain⟨c,H',J,z⟩:=K;show⟨c,H',Inv.untried J,z⟩
  | ret u=>obtain⟨v,c,H',J,r,z⟩:=K;show⟨v,c,H',Inv.untried J,r,z⟩
 .obtain⟨a,C,dx,c,H',rfl,J,n,z,tt⟩:=he;obtain⟨th,hp,hq⟩:=hh a C dx c H' z n;have F:d.heap.FunFrames X.base (X.env::X.outer):=by rw[<- j];show J.stack
  have go:∀(h':Heap) (i:Addr) (zs:LI),d.heap.objs.size<=i->Trc h' a (.ref C) dx i (rawInt X.env.locals)->Keep (frs (X.env::X.outer)) zs d.heap h'->(∀ b∈zs,b=a\/Loose X pins H' b) ->
    wpAny (model X.prog X.w) X.A (setFlight (.ref a) none) (λ_ s3=>wpAny (model X.prog X.w) X.A (handleBy (.ref a) X.env (h0::hs)) (SP X pins D) X.xe s3) X.xe { d with heap:=h' }:=λh' i zs g t' k hz=>by
   have lo:=J.loose g (J.hok.fresh g);have p:=J.noted n (by rw[j];show k) hz t';show qcm (s:={ d with heap:=h' }) t' λZ U S aa=>?_;have kk:Keep (frs X.stack) [i] h' Z:=⟨λb o e z _=>S b o (by simpa using z) e,λb o e z _=>⟨o.slots,S b o (by simpa using z) e⟩⟩;have W:=p.noted n kk (λb hb=>.inr (by rw[yr.mp hb];show lo)) U;show hp pins _ c H' D W ⟨n,i,U,lo⟩ hq
  rcases tt with⟨T,t,lo⟩ | ⟨a0,l⟩
  .show qeF (base:=X.base) E F y t λh' i g t' k=>go h' i _ g t' k λb hb=>?_;simp only[yy,yR,YJ] at hb;rcases hb with rfl | rfl
   .show .inl rfl
   .show .inr lo
  .show qdK (base:=X.base) E F y l rfl rfl λh' i g t' k=>go h' i _ g t' k λb hb=>?_;show .inl (yr.mp hb)
end
def TyX(K:yf)(H:Hp)(x:V)(t:Value):Prop:=TyOf K H x t\/∃ a C dx,x=.ref a/\t=.ref C/\IsX H a C dx/\XAt K C/\∀ d,dx=some d->∃ fs,H d=some (.xd fs)
theorem TyX.kit{x:V}(I:Inv X pins σ H s)(e:RelV x u)(ty:TyX X.K H x t):∃ P:Heap->Prop,PySem.W.KitX X.K u t P/\P s.heap/\u≠.builtin "__main__.__loader__#opaque":=by
 rcases ty with ty | ⟨a,C,dx,rfl,rfl,hx,c,hd⟩
 .show ty.kit I e
 .cases e;obtain⟨vs,b⟩:=hx.get I.hok
  cases dx with
  | none=>show⟨_,qeD (od:=none) c,⟨b,rfl,rfl,YK⟩,λz=>nomatch z⟩
  | some d =>
   obtain⟨fs,f⟩:=hd d rfl;obtain⟨od,g,h1,_⟩:=qgv I f;show⟨_,qeD (od:=some od) c,⟨b,rfl,rfl,h1⟩,λz=>nomatch z⟩
def qhG(K:yf):List V->Hp->VK->Prop:=λxs H Q=>∃ x y t c b,xs=[x,y]/\TyX K H x t/\qdH y=some c/\PySem.W.kitOne K t c=some b/\Q (.bl b) H
def qfv(K:yf):List V->Hp->VK->Prop:=λxs H Q=>∃ x p ys t a b,xs=[x,.ref p]/\TyX K H x t/\H p=some (.tup ys)/\ys.map qdH=a.map some/\PySem.W.kitAny K t a=some b/\Q (.bl b) H
section
variable{X:Cx}{K:yf}
theorem jY(a:X.K=K):zW X (.builtin "isinstance") (qhG K):=by
 subst a;intro pins s σ H xs us Q I r h;obtain⟨x,y,t,c,b,rfl,ty,d,hb,q⟩:=h;obtain⟨u,v,rfl,f,g⟩:=qg8 r;have e:=qcM d g;subst e;obtain⟨P,Z,p,ne⟩:=ty.kit I f;show PySem.W.kia_one Z I.kIn p hb ne λtk=>⟨.bl b,H,I.tok tk,rfl,q⟩
theorem qbG(i:X.K=K):zW X (.builtin "isinstance") (qfv K):=by
 subst i;intro pins s σ H xs us Q I r h;obtain⟨x,p,ys,t,B,b,rfl,ty,m,y,hb,q⟩:=h;obtain⟨u,v,rfl,A,f⟩:=qg8 r;cases f;obtain⟨P,Z,z,ne⟩:=ty.kit I A;obtain⟨_,its,f,o,l,hc,n,j⟩:=(show ObjOk X.prog X.w H s.heap p (.tup ys) from I.hok p _ m);have e:=qck y f;subst e;obtain⟨c,C,g,D⟩:=o;have a:c=.type "tuple":=hc;have d:g=.seq its.toArray n:=j;subst a d;show PySem.W.kia_tup Z I.kIn z l hb ne λtk=>⟨.bl b,H,I.tok tk,rfl,q⟩
end
mutual
inductive EqD(K:yf)(H:Hp):Nat->V->V->Bool->Prop
 | flat {n:Nat} {x y:V} (fx:qaI x=true) (fy:qaI y=true):EqD K H n x y (eqV x y)
 | self {n:Nat} {a:Addr}:EqD K H n (.ref a) (.ref a) true
 | deep {n:Nat} {a b:Addr} {k:Bool} (h:EqT K H n a b k) (ne:a≠b):EqD K H n (.ref a) (.ref b) k
inductive EqT(K:yf)(H:Hp):Nat->Addr->Addr->Bool->Prop
 | lst {n:Nat} {a b:Addr} {xs ys:List V} {e:Nat->Bool} (ha:SqL K H a xs) (hb:SqL K H b ys) (hl:xs.length=ys.length) (he:∀ j x y,xs[j]?=some x->ys[j]?=some y->EqD K H n x y (e j)):EqT K H (n+1) a b ((List.range xs.length).all e)
 | lstL {n:Nat} {a b:Addr} {xs ys:List V} (ha:SqL K H a xs) (hb:SqL K H b ys) (hl:xs.length≠ys.length):EqT K H (n+1) a b false
 | tup {n:Nat} {a b:Addr} {xs ys:List V} {e:Nat->Bool} (ha:SqT K H a xs) (hb:SqT K H b ys) (he:∀ j x y,xs[j]?=some x->ys[j]?=some y->EqD K H n x y (e j)):EqT K H (n+1) a b ((List.range (min xs.length ys.length)).all e&&xs.length==ys.length)
 | lt {n:Nat} {a b:Addr} {xs ys:List V} (ha:SqL K H a xs) (hb:SqT K H b ys):EqT K H (n+1) a b false
 | tl {n:Nat} {a b:Addr} {xs ys:List V} (ha:SqT K H a xs) (hb:SqL K H b ys):EqT K H (n+1) a b false
end
theorem jN:∀{xs:List V} {us:List Value} {j:Nat} {u:Value},Vals xs us->us[j]?=some u->∃ x,xs[j]?=some x/\RelV x u
 | _,_,_,_,.nil,e=>by simp at e
 | _,_,0,_,.cons r _,e=>by simp at e;subst e;show⟨_,rfl,r⟩
 | _,_,j+1,u,.cons _ t,e=>by
  obtain⟨x,h1,a⟩:=jN (j:=j) (u:=u) t (by simpa using e);show⟨x,by simpa using h1,a⟩
section
variable{X:Cx}{pins:List (Addr×Obj)}{σ:St}{H:Hp}{s:Shared}
theorem qd8(I:Inv X pins σ H s):∀ n,(∀(A:Around) (x y:V) (k:Bool) (u v:Value),EqD X.K H n x y k->RelV x u->RelV y v->A.units+n<cLine->SeqAt.EqAt A s u v k)/\(∀(A:Around) (a b:Addr) (k:Bool),EqT X.K H n a b k->A.units+n<cLine->SeqAt.RcAt A s (.ref a) (.ref b) k):=by
 intro n
 induction n with
 | zero =>
  have G:∀(A:Around) (a b:Addr) (k:Bool),EqT X.K H 0 a b k->A.units+0<cLine->SeqAt.RcAt A s (.ref a) (.ref b) k:=λA a b k h=>by cases h
  show⟨λA x y k u v h g i B=>?_,G⟩
  cases h with
  | flat fx fy=>show qfl g i fx fy
  | self=>cases g;cases i;show ke _
  | deep h ne=>cases h
 | succ n ih =>
  have E:∀(A:Around) (a b:Addr) (k:Bool),EqT X.K H (n+1) a b k->A.units+(n+1)<cLine->SeqAt.RcAt A s (.ref a) (.ref b) k:=λA a b k h B=>by
   have f:A.units<cLine:=by lk
   have o:A.in1.units+n<cLine:=by show A.units+1+n<cLine;lk
   cases h with
   | @lst _ _ _ xs ys e ha hb hl he =>
    obtain⟨its,r,pl,q⟩:=I.list ha;obtain⟨c,m,d,l⟩:=I.list hb;have p:xs.length=its.toArray.size:=by rw[yz];show r.length
    have t:ys.length=c.toArray.size:=by rw[yz];show m.length
    rw[p];show SeqAt.RcAt.lists pl.isList d.isList (by rw[<- p,<- t,hl]) f λj h1 F=>?_;have w:its[j]?=some its.toArray[j]:=by simp
    have z:c[j]?=some c.toArray[j]:=by simp
    obtain⟨x,C,g⟩:=jN r w;obtain⟨y,D,i⟩:=jN m z;show ih.1 A.in1 x y (e j) _ _ (he j x y C D) g i o
   | @lstL _ _ _ xs ys ha hb hl =>
    obtain⟨its,r,pl,q⟩:=I.list ha;obtain⟨c,m,d,l⟩:=I.list hb;show SeqAt.RcAt.lists_lengths pl.isList d.isList ?_ f;rw[yz,yz,<- r.length,<- m.length];simp[hl]
   | @tup _ _ _ xs ys e ha hb he =>
    obtain⟨its,r,pl,q⟩:=I.tuple ha;obtain⟨c,m,d,l⟩:=I.tuple hb;have p:xs.length=its.toArray.size:=by rw[yz];show r.length
    have t:ys.length=c.toArray.size:=by rw[yz];show m.length
    rw[p,t];show SeqAt.RcAt.tuples pl d f λj h1 F=>?_;have w:its[j]?=some its.toArray[j]:=by simp
    have z:c[j]?=some c.toArray[j]:=by simp
    obtain⟨x,C,g⟩:=jN r w;obtain⟨y,D,i⟩:=jN m z;show ih.1 A.in1 x y (e j) _ _ (he j x y C D) g i o
   | lt ha hb =>
    obtain⟨its,r,pl,q⟩:=I.list ha;obtain⟨c,m,d,l⟩:=I.tuple hb;show SeqAt.RcAt.list_tuple pl.isList d f
   | tl ha hb =>
    obtain⟨its,r,pl,q⟩:=I.tuple ha;obtain⟨c,m,d,l⟩:=I.list hb;show SeqAt.RcAt.tuple_list pl d.isList f
  show⟨λA x y k u v h g i B=>?_,E⟩
  cases h with
  | flat fx fy=>show qfl g i fx fy
  | self=>cases g;cases i;show ke _
  | deep h ne=>cases g;cases i;show SeqAt.EqAt.of_refs ne (E A _ _ k h B)
theorem ne_refs(I:Inv X pins σ H s){n:Nat}{A:Around}{a b:Addr}{k:Bool}(h:EqT X.K H n a b k)(B:A.units+n<cLine):SeqAt.RcNeAt A s (.ref a) (.ref b) (!k):=by
 cases n with
 | zero=>cases h
 | succ n =>
  have w:=qd8 I n;have f:A.units<cLine:=by lk
  have l:A.in1.units+n<cLine:=by show A.units+1+n<cLine;lk
  cases h with
  | @lst _ _ _ xs ys e ha hb hl he =>
   obtain⟨its,r,pl,o⟩:=I.list ha;obtain⟨c,i,d,g⟩:=I.list hb;have m:xs.length=its.toArray.size:=by rw[yz];show r.length
   have p:ys.length=c.toArray.size:=by rw[yz];show i.length
   rw[m];show SeqAt.RcNeAt.lists pl.isList d.isList (by rw[<- m,<- p,hl]) f λj h1 z=>?_;obtain⟨x,q,u⟩:=jN r (show its[j]?=some its.toArray[j] by simp);obtain⟨y,t,v⟩:=jN i (show c[j]?=some c.toArray[j] by simp);show w.1 A.in1 x y (e j) _ _ (he j x y q t) u v l
  | @lstL _ _ _ xs ys ha hb hl =>
   obtain⟨its,r,pl,o⟩:=I.list ha;obtain⟨c,i,d,g⟩:=I.list hb;show SeqAt.RcNeAt.lists_lengths pl.isList d.isList ?_ f;rw[yz,yz,<- r.length,<- i.length];simp[hl]
  | @tup _ _ _ xs ys e ha hb he =>
   obtain⟨its,r,pl,o⟩:=I.tuple ha;obtain⟨c,i,d,g⟩:=I.tuple hb;have m:xs.length=its.toArray.size:=by rw[yz];show r.length
   have p:ys.length=c.toArray.size:=by rw[yz];show i.length
   rw[m,p];show SeqAt.RcNeAt.tuples pl d f λj h1 z=>?_;obtain⟨x,q,u⟩:=jN r (show its[j]?=some its.toArray[j] by simp);obtain⟨y,t,v⟩:=jN i (show c[j]?=some c.toArray[j] by simp);show w.1 A.in1 x y (e j) _ _ (he j x y q t) u v l
  | lt ha hb =>
   obtain⟨its,r,pl,o⟩:=I.list ha;obtain⟨c,i,d,g⟩:=I.tuple hb;show SeqAt.RcNeAt.list_tuple pl.isList d f
  | tl ha hb =>
   obtain⟨its,r,pl,o⟩:=I.tuple ha;obtain⟨c,i,d,g⟩:=I.list hb;show SeqAt.RcNeAt.tuple_list pl d.isList f
theorem qgE{A:Around}{x y:V}{u v:Value}(e:RelV x u)(c:RelV y v)(f:qaI x=true)(d:qaI y=true):SeqAt.RcAt A s u v (eqV x y)/\SeqAt.RcNeAt A s u v (!eqV x y):=by
 cases x with
 | non =>
  cases e
  cases y with
  | non=>cases c;show⟨SeqAt.RcAt.none_none,SeqAt.RcNeAt.none_none⟩
  | bl b=>cases c;show⟨SeqAt.RcAt.none_bool b,SeqAt.RcNeAt.none_bool b⟩
  | int b=>obtain⟨t,rfl⟩:=c;show⟨SeqAt.RcAt.none_int b t,SeqAt.RcNeAt.none_int b t⟩
  | str b=>obtain⟨t,rfl⟩:=c;show⟨SeqAt.RcAt.none_str b t,SeqAt.RcNeAt.none_str b t⟩
  | _=>cases d
 | bl a =>
  cases e
  cases y with
  | non=>cases c;show⟨SeqAt.RcAt.bool_none a,SeqAt.RcNeAt.bool_none a⟩
  | bl b=>cases c;show⟨SeqAt.RcAt.bool_bool a b,SeqAt.RcNeAt.bool_bool a b⟩
  | int b=>obtain⟨t,rfl⟩:=c;show⟨SeqAt.RcAt.bool_int a b t,SeqAt.RcNeAt.bool_int a b t⟩
  | str b=>obtain⟨t,rfl⟩:=c;show⟨SeqAt.RcAt.bool_str a b t,SeqAt.RcNeAt.bool_str a b t⟩
  | _=>cases d
 | int a =>
  obtain⟨t',rfl⟩:=e
  cases y with
  | non=>cases c;show⟨SeqAt.RcAt.int_none a t',SeqAt.RcNeAt.int_none a t'⟩
  | bl b=>cases c;show⟨SeqAt.RcAt.int_bool a t' b,SeqAt.RcNeAt.int_bool a t' b⟩
  | int b=>obtain⟨t,rfl⟩:=c;show⟨SeqAt.RcAt.int_int a t' b t,SeqAt.RcNeAt.int_int a t' b t⟩
  | str b=>obtain⟨t,rfl⟩:=c;show⟨SeqAt.RcAt.int_str a t' b t,SeqAt.RcNeAt.int_str a t' b t⟩
  | _=>cases d
 | str a =>
  obtain⟨t',rfl⟩:=e
  cases y with
  | non=>cases c;show⟨SeqAt.RcAt.str_none a t',SeqAt.RcNeAt.str_none a t'⟩
  | bl b=>cases c;show⟨SeqAt.RcAt.str_bool a t' b,SeqAt.RcNeAt.str_bool a t' b⟩
  | int b=>obtain⟨t,rfl⟩:=c;show⟨SeqAt.RcAt.str_int a t' b t,SeqAt.RcNeAt.str_int a t' b t⟩
  | str b=>obtain⟨t,rfl⟩:=c;show⟨SeqAt.RcAt.str_str a t' b t,SeqAt.RcNeAt.str_str a t' b t⟩
  | _=>cases d
 | _=>cases f
end
def qhd(K:yf)(neg:Bool):R2:=λx y H Q=>(qaI x=true/\qaI y=true/\Q (.bl (if neg then !eqV x y else eqV x y)) H) \/
 (∃ a b k n,x=.ref a/\y=.ref b/\n<=60/\EqT K H n a b k/\Q (.bl (if neg then !k else k)) H) \/
 (∃ a kvs,x=.ref a/\y=.ref a/\H a=some (.dK kvs)/\Q (.bl (!neg)) H)
theorem qcn{b:Type}[DecidableEq b]:∀{a:List (b×Value)} {k:b} {v:Value},(a.map (·.1)).Nodup->(k,v)∈a->valueAt a k=some v
 | [],_,_,_,h=>by cases h
 | (k',v')::r,k,v,hn,h=>by
  obtain⟨h1,c⟩:=yn.mp (show(k'::r.map (·.1)).Nodup from hn);unfold valueAt;rw[xt];by_cases e:k'=k
  .subst e;simp only[decide_true];rcases yy.mp h with z | z
   .cases z;rfl
   .show absurd (yE.mpr ⟨(k',v),z,rfl⟩) h1
  .simp only[e,Ke];rcases yy.mp h with z | z
   .cases z;show absurd rfl e
   .show qcn c z
theorem qd9{A:Around}{s:Shared}{c:Type}[DecidableEq c](a:List (c×Value))(hn:(a.map (·.1)).Nodup):∀ d:List (c×Value),(∀ p∈d,p∈a)->PySem.W.KeqHits A s a d true
 | [],_=>.nil
 | (k,v)::r,h=>by
  have hv:valueAt a k=some v:=qcn hn (h (k,v) yC);show .hit (e:=true) (b:=true) hv (ke v) (qd9 a hn r λp f=>h p (yw _ f))
section
variable{X:Cx}{K:yf}
theorem k_eqU(m:X.K=K)(o:X.A.units+100<cLine):OpR X (compareOp .Eq) (qhd K false):=by
 subst m;intro pins s σ H x y u v Q I c f h;rcases h with⟨j,l,q⟩ | ⟨a,b,k,n,rfl,rfl,hn,e,q⟩ | ⟨a,kvs,rfl,rfl,i,q⟩
 .show(qgE c f j l).1 _ _ _ _ ⟨.bl _,H,I,rfl,q⟩
 .cases c;cases f;show(qd8 I n).2 X.A a b k e (by lk) _ _ _ _ ⟨.bl _,H,I,rfl,q⟩
 .cases c;cases f;obtain⟨_,g,vs,r,d⟩:=(show ObjOk X.prog X.w H s.heap a (.dK kvs) from I.hok a _ i);obtain⟨_,_,_,_,_,_,_,_,nd⟩:=id d;show PySem.W.keq_eq g g d d (by lk) (λ_=>qd9 vs nd vs λ_ h=>h) ?_;rw[xD];show⟨.bl true,H,I,rfl,q⟩
theorem qaK(m:X.K=K)(o:X.A.units+100<cLine):OpR X (compareOp .NotEq) (qhd K true):=by
 subst m;intro pins s σ H x y u v Q I c f h;rcases h with⟨j,l,q⟩ | ⟨a,b,k,n,rfl,rfl,hn,e,q⟩ | ⟨a,kvs,rfl,rfl,i,q⟩
 .show(qgE c f j l).2 _ _ _ _ ⟨.bl _,H,I,rfl,q⟩
 .cases c;cases f;show ne_refs I e (by lk) _ _ _ _ ⟨.bl _,H,I,rfl,q⟩
 .cases c;cases f;obtain⟨_,g,vs,r,d⟩:=(show ObjOk X.prog X.w H s.heap a (.dK kvs) from I.hok a _ i);obtain⟨_,_,_,_,_,_,_,_,nd⟩:=id d;show PySem.W.keq_ne g g d d (by lk) (λ_=>qd9 vs nd vs λ_ h=>h) ?_;rw[xD];show⟨.bl false,H,I,rfl,q⟩
end
section
variable{X:Cx}{K:yf}
def qhH(K:yf):R2:=λx y H Q=>rIx K x y H Q\/∃ a v,x=.ref a/\DGet H a y (some v)/\Q v H
theorem qC(f:X.K=K)(m:X.A.units+100<cLine):IxR X (qhH K):=by
 subst f;show IxR.or ix_seq ?_;intro d c pins s σ H x y v u Q I j l h i;obtain⟨a,z,rfl,g,q⟩:=h;cases j;show tail_any (dict_typeIs I g) PySem.F.slot_dict_getitem.lookup (d_getItem (by lk) I g l λo n e b=>⟨z,H,e,b,q⟩) i
def rSetU:qhr:=λo i v H Q=>rSetL o i v H Q\/∃ a H',o=.ref a/\DPut H a i v H'/\Q H'
theorem qbO(j:X.A.units+100<cLine):qhX X rSetU:=by
 intro pins s σ H o i v f iv u Q I c b d h;rcases h with h | ⟨a,H',rfl,g,q⟩
 .show set_list pins s σ H o i v f iv u Q I c b d h
 .cases c;show d_setItem (by lk) I g b d λs' e=>⟨H',e,q⟩
def qgl(K:yf)(neg:Bool):R2:=λx y H Q=>rIn K neg x y H Q\/(∃ a o,y=.ref a/\DGet H a x o/\Q (.bl (if neg then !o.isSome else o.isSome)) H) \/
 (∃ p xs e n,y=.ref p/\SqL K H p xs/\n<=60/\(∀ z∈xs,EqD K H n z x (e z))/\Q (.bl (if neg then !xs.any e else xs.any e)) H)
theorem qgF{pins:List (Addr×Obj)}{σ:St}{H:Hp}{s:Shared}{xs:List V}{its:List Value}{x:V}{u:Value}{e:V->Bool}{n:Nat}{A:Around}(I:Inv X pins σ H s)(r:Vals xs its)(t:RelV x u)(p:A.units+n<cLine)(o:∀ z∈xs,EqD X.K H n z x (e z)) :
  ∃ i:Value->Bool,(∀ w,w∈its.toArray->SeqAt.EqAt A s w u (i w))/\its.toArray.any i=xs.any e:=by
 classical
 show⟨λw=>decide (∃ z∈xs,RelV z w/\e z=true),λw hw=>?_,?_⟩
 .have f:w∈its:=by simpa using hw
  obtain⟨j,d⟩:=List.mem_iff_getElem?.mp f;obtain⟨z,a,b⟩:=jN r d;have hm:=ye a
  have m:decide (∃ z∈xs,RelV z w/\e z=true)=e z:=by
   cases q:e z with
   | true=>show yv ⟨z,hm,b,q⟩
   | false =>
    show yk λ⟨v,_,g,l⟩=>?_;rw[RelV.inj g b,q] at l;cases l
  show SeqAt.EqAt A s w u (decide (∃ z∈xs,RelV z w/\e z=true));rw[m];show(qd8 I n).1 A z x (e z) w u (o z hm) b t p
 .rw [Ye,xn];constructor
  .intro h;have h':its.any (λw=>decide (∃ z∈xs,RelV z w/\e z=true))=true:=by simpa using h
   obtain⟨w,_,q⟩:=xn.mp h';obtain⟨z,a,_,c⟩:=yj q;show⟨z,a,c⟩
  .rintro ⟨z,a,c⟩;obtain⟨j,d⟩:=List.mem_iff_getElem?.mp a;obtain⟨w,hw,b⟩:=r.get d;have:its.any (λw=>decide (∃ z∈xs,RelV z w/\e z=true))=true:=xn.mpr ⟨w,ye hw,yv ⟨z,a,b,c⟩⟩;simpa using this
theorem qaC(j:X.K=K)(l:X.A.units+100<cLine):OpR X (compareOp .In) (qgl K false):=by
 subst j;intro pins s σ H x y u v Q I b c h;rcases h with h | ⟨a,o,rfl,g,q⟩ | ⟨p,xs,e,n,rfl,hl,hn,he,q⟩
 .show op_in_seq pins s σ H x y u v Q I b c h
 .cases c;show d_in (by lk) I g b λs' d=>⟨.bl _,H,d,rfl,q⟩
 .cases c;obtain⟨its,r,pl,m⟩:=I.list hl;obtain⟨f,h1,i⟩:=qgF (A:=X.A.in1) I r b (by show X.A.units+1+n<cLine;lk) he;show SeqAt.in_listAt f pl.isList h1 (by rw[i];show⟨.bl _,H,I,rfl,q⟩)
theorem zO(j:X.K=K)(l:X.A.units+100<cLine):OpR X (compareOp .NotIn) (qgl K true):=by
 subst j;intro pins s σ H x y u v Q I b c h;rcases h with h | ⟨a,o,rfl,g,q⟩ | ⟨p,xs,e,n,rfl,hl,hn,he,q⟩
 .show op_notIn_seq pins s σ H x y u v Q I b c h
 .cases c;show d_notIn (by lk) I g b λs' d=>⟨.bl _,H,d,rfl,q⟩
 .cases c;obtain⟨its,r,pl,m⟩:=I.list hl;obtain⟨f,h1,i⟩:=qgF (A:=X.A.in1) I r b (by show X.A.units+1+n<cLine;lk) he;show SeqAt.notIn_listAt f pl.isList h1 (by rw[i];show⟨.bl _,H,I,rfl,q⟩)
def rListU(K:yf):List V->Hp->VK->Prop:=λxs H Q=>(∃ p ys,xs=[.ref p]/\(SqL K H p ys\/SqT K H p ys)/\∀ l,H l=none->Q (.ref l) (upd H l (.lst ys))) \/
 (∃ p kvs,xs=[.ref p]/\H p=some (.dK kvs)/\∀ l,H l=none->Q (.ref l) (upd H l (.lst (kvs.map λa=>kV a.1)))) \/
 (∃ x,xs=[.str x]/\x.length<=1000/\∀ l,H l=none->Q (.ref l) (upd H l (.lst (x.cps.toList.map λc=>.str ⟨#[c]⟩))))
theorem qcO{c d:Type}{F:c->d->Prop}:∀{l:List c} {m:List d} {j:Nat} {a:c},Paired F l m->l[j]?=some a->∃ b,m[j]?=some b/\F a b
 | _,_,_,_,.nil,e=>by simp at e
 | _,_,0,_,.cons r _,e=>by simp at e;subst e;show⟨_,rfl,r⟩
 | _,_,j+1,a,.cons _ t,e=>by
  obtain⟨b,h1,f⟩:=qcO (j:=j) (a:=a) t (by simpa using e);show⟨b,by simpa using h1,f⟩
theorem qac:∀{ys:List V} {us:List Value},ys.length=us.length->(∀(j:Nat) y u,ys[j]?=some y->us[j]?=some u->RelV y u)->Vals ys us
 | [],[],_,_=>.nil
 | [],_::_,h,_=>by cases h
 | _::_,[],h,_=>by cases h
 | y::ys,u::us,h,q=>.cons (q 0 y u rfl rfl) (qac (Nat.succ.inj h) λj c b h1 a=>q (j+1) c b (by simpa using h1) (by simpa using a))
theorem qco(L:X.K=K)(hc:X.calm=true):zW X (.type "list") (rListU K):=by
 subst L;intro pins s σ H xs us Q I r h;rcases h with h | ⟨p,kvs,rfl,ea,q⟩ | ⟨x,rfl,hx,q⟩
 .show call_list_of pins s σ H xs us Q I r h
 .obtain⟨u,rfl,N⟩:=qbf r;cases N;obtain⟨D,M,vs,E,d⟩:=(show ObjOk X.prog X.w H s.heap p (.dK kvs) from I.hok p _ ea);obtain⟨ep,n⟩:=d.dictAt;have hl:kvs.length=vs.length:=E.length;show PySem.W.kdl_call (PySem.W.kdl_dict (knd:=qU X.prog X.w) (kvs:=vs) (ep:=ep) M) (I.ok.hd hc) n (by rw[<- hl];show D) λh' tk a f A e it=>?_;obtain⟨o,v⟩:=it
  have hv:Vals (kvs.map λb=>kV b.1) a.toList:=by
   show qac (by rw[ya,hl,<- o];simp) λj y u h1 g=>?_;obtain⟨k,x,l,G⟩:=v j u (by simpa using g);rw[yd] at h1
   cases B:kvs[j]? with
   | none=>rw[B] at h1;cases h1
   | some b =>
    rw[B] at h1;cases h1;obtain⟨P,C,J,O⟩:=qcO E B;rw[l] at C;cases C;have F:b.1=k:=J;show RelV (kV b.1) u;rw[F];rcases qX (show qcA k u=true from G) with⟨i,t,rfl,rfl⟩ | ⟨z,t,rfl,rfl⟩
    .show⟨t,rfl⟩
    .show⟨t,rfl⟩
  show⟨.ref s.heap.objs.size,_,I.laid (t':=tk) A (yg _) (show ObjOk X.prog X.w _ h' _ (.lst (kvs.map λb=>kV b.1)) from⟨by rw[ya];show D,a.toList,f,hv,by simpa using e⟩),rfl,q _ (I.hok.fresh (yg _))⟩
 .obtain⟨u,rfl,t,rfl⟩:=qbf r;have hsz:x.cps.size<=sizeLine:=yI (qg hx);show call_list_str (I.ok.hd hc) x t (λh' tk a f A e it=>?_) hsz;obtain⟨o,v⟩:=it
  have hv:Vals (x.cps.toList.map λc=>V.str ⟨#[c]⟩) a.toList:=by
   show qac (by rw[ya];simp[o]) λj y u h1 g=>?_;obtain⟨c,t',l,rfl⟩:=v j u (by simpa using g);rw[yd] at h1;have m:x.cps.toList[j]?=some c:=by simpa using l
   rw[m] at h1;cases h1;show⟨t',rfl⟩
  show⟨.ref s.heap.objs.size,_,I.laid (t':=tk) A (yg _) (show ObjOk X.prog X.w _ h' _ (.lst (x.cps.toList.map λc=>V.str ⟨#[c]⟩)) from⟨by rw[ya];simpa using hsz,a.toList,f,hv,by simpa using e⟩),rfl,q _ (I.hok.fresh (yg _))⟩
end
structure CMethOk(P:Program)(w:World)(K:yf)(mg:Str->Option Value)(base:Heap)(CX:CXT)(k:Nat)(C:Addr)(x m:Str)(ps:LS)(sp:Sp):Prop where
 ex:∃ f fd,FnOk P w K mg base CX k f fd ps sp/\CMeth K C m f/\Binds K fd ps []
 mg_:mg x=some (.ref C)
section
variable{X:Cx}{k:Nat}{C:Addr}{ps:LS}{sp:Sp}{x m:Str}{p pos apos:Pos}{e:Expr}{es:List Expr}{t:TA}
theorem qbY(D:MakeOk X.prog X.w X.K X.mg X.base CX0 k C x ps sp)(h:Room (k+1) X.A)(c:PA X (e::es) t)(g:Gl X x:=by rfl)(a:(x==("__debug__":Str))=false:=by decide)
  (d:starEach (e::es) X.env=(false,eval e X.env)::starEach es X.env:=by rfl) (b:(backTo pos (starEach es X.env)).any (·.1)=false:=by rfl):PE X (.Call (.Name x p) (e::es) [] pos) (qha C sp [] E0 t):=by
 obtain⟨f,fd,F,M,hb⟩:=D.ex;show pe_make M F h g D.mg_ hb .nil qr c a d b
theorem qc0{pl:Sem Bool}(D:CMethOk X.prog X.w X.K X.mg X.base CX0 k C x m ps sp)(h:Room k X.A)(d:PA X (e::es) t)(g:Gl X x:=by rfl)(a:(x==("__debug__":Str))=false:=by decide)
  (c:starEach (e::es) X.env=(false,eval e X.env)::starEach es X.env:=by rfl) (b:(backTo pos (starEach es X.env)).any (·.1)=false:=by rfl)
  (i:eval (.Call (.Attribute (.Name x p) m apos) (e::es) [] pos) X.env=(do
   let ov <- eval (.Name x p) X.env
   standAt apos.atName
   let (f,first) <- holding [ov] (getMethod ov m pl)
   callWith pos f first (backTo pos (starEach (e::es) X.env)) (backToKw pos (keywordEach [] X.env))):=by rfl) :
  PE X (.Call (.Attribute (.Name x p) m apos) (e::es) [] pos) (qe1 sp [] E0 t):=by
 obtain⟨f,fd,F,M,hb⟩:=D.ex;show pe_clsm (pl:=pl) M F h g D.mg_ hb qr d a c b i
end
theorem own_eq_same{prog:Program}{w:World}{A:Around}{E:Value->Shared->Prop}{s:Shared}{K:yf}{x C:Addr}{ox:Obj}{od:Option Obj}{Q:Value->Shared->Prop}(l:A.units<cLine)(X:K.In s.heap)(I:PySem.W.InstAt s.heap x ox C od)
  (j:PySem.W.findIn K (.ref C) "__eq__"=some (some (.builtin "object.__eq__"))) (g:PySem.W.mroIn K C (.type "object")=some true) (h:Q (.bool true) s):wpAny (model prog w) A (richCompare .Eq (.ref x) (.ref x)) Q E s:=by
 have a:∀{f:Around} {d:Value->Shared->Prop},d (.bool true) s->wpAny (model prog w) f (call (.builtin "object.__eq__") [.ref x,.ref x]) d E s:=λ{f d} q=>by
  show xT (xR PySem.F.slot_object_eq.plain PySem.F.entry_object_eq (@PySem.W.check_slot (model prog w) _ _ s "object.__eq__" "object" "__eq__" (.ref x) [.ref x] [] _ (by room) (by room) (I.type.andThen (xx X g)) (PySem.F.args_object_eq_2 _ _) ?_));show yq (yA (yq (wpAny_isSame_ref_self ?_)));show yA q
 have one:wpAny (model prog w) A (tryCompare (.ref x) "__eq__" (.ref x)) (λr s'=>∃ v,r=some v/\Q v s') E s:=by
  unfold tryCompare;show yq ?_;simp only[callSpecialIfBound?,bindSpecialIfBound?];show YF (yq (yq (yq (I.type.here ((YN X j).here ?_)))));show yq (kR (wpAny_ite ?_));have b:=PySem.F.slot_object_eq.bind (.ref x)
  have c:wpAny (model prog w) A (call (.builtin "object.__eq__") ([.ref x]++[.ref x])>>=λv=>pure (some v)) (λr s'=>wpAny (model prog w) A (match r with | some .notImplemented | none=>pure none | some v=>pure (some v)) (λr s'=>∃ v,r=some v/\Q v s') E s') E s:=
   yq (a (yA (yA ⟨_,rfl,h⟩)))
  split
  .show yq (xj b (yA c))
  .show kq (yq (xj b (yA c)))
 unfold richCompare;simp only[oneThing_ref];show YF (yq (wpAny_cRoomFor l ?_));show yq (I.type.here (yq (I.type.here ?_)));rw[yB (by simp)];show yq (yA ?_);simp only[ko,kN];show yq (YD one (λr s' z=>?_) λ_ _ e=>e);obtain⟨v,rfl,i⟩:=z;show yA i
structure OEq(K:yf)(C:Addr):Prop where
 eq:PySem.W.findIn K (.ref C) "__eq__"=some (some (.builtin "object.__eq__"))
 ob:PySem.W.mroIn K C (.type "object")=some true
def qij(K:yf):R2:=λx y H Q=>qhd K false x y H Q\/∃ a C dx fs,x=.ref a/\y=.ref a/\H a=some (.ins C dx fs)/\OEq K C/\Q (.bl true) H
theorem k_eqW{X:Cx}{K:yf}(d:X.K=K)(e:X.A.units+100<cLine):OpR X (compareOp .Eq) (qij K):=by
 subst d;intro pins s σ H x y u v Q I b c h;rcases h with h | ⟨a,C,dx,fs,rfl,rfl,ea,oe,q⟩
 .show k_eqU rfl e pins s σ H x y u v Q I b c h
 .cases b;cases c;obtain⟨f,O,_⟩:=qbC I.hok ea;obtain⟨od,J,_⟩:=O.look;show own_eq_same (by lk) I.kIn J oe.eq oe.ob ⟨.bl true,H,I,rfl,q⟩
theorem qR{X:Cx}:MtR X "list.append" rAppend:=mt_append
theorem mtR_pop{X:Cx}:MtR X "list.pop" rPop:=mt_pop
theorem mtR_popAt{X:Cx}:MtR X "list.pop" rPopAt:=mt_popAt
theorem j7:bootBuiltins "ValueError"=some (.type "ValueError"):=by room
section
variable{D:Ends}{σ:St}{H:Hp}{Q:VK}{t u:TS}{te ta tb tc:TE}{tas:TA}{K:yf}{sp:Sp}{E:XK}{EK:St->XK}{C:Addr}{f m:Str}
theorem vFldU(h:ta σ H λx a=>FlUR K f x a Q):qhE K ta f σ H Q:=h
theorem vSFldU(h:te σ H λy a=>ta σ a λx b=>SFUR K f x y b (D.nx σ)):qhF K ta te f D σ H:=h
theorem vXMake(h:tas σ H λvs a=>vs.length<=1000/\∀ x,a x=none->sp (.ref x::vs) (upd a x (XN x C none)) (λv b=>v=.non/\Q (.ref x) b) E):qft C sp E tas σ H Q:=h
theorem vMake(h:tas σ H λvs a=>∀ x dx,a x=none->a dx=none->dx≠x->sp (.ref x::(vs++[])) (upd (upd a dx (.own x)) x (.ins C dx [])) (λv b=>v=.non/\Q (.ref x) b) E):qha C sp [] E tas σ H Q:=h
theorem vMeth(h:ta σ H λx a=>MeR C m x a (tas σ a λvs b=>sp (x::(vs++[])) b Q E)):qfg C m sp [] E ta tas σ H Q:=h
theorem vVinit(h:tas σ H λvs b=>∃ a C y,vs=[.ref a,y]/\b a=some (XN a C none)/\XAt K C/\Q .non b):qgw K tas σ H Q:=h
theorem vCallS(h:tas σ H λvs a=>sp vs a Q (EK σ)):qgA sp EK tas σ H Q:=h
theorem vMethS(h:ta σ H λx a=>MeR C m x a (tas σ a λvs b=>sp (x::vs) b Q (EK σ))):qgB C m sp EK ta tas σ H Q:=h
theorem vMakeS(h:tas σ H λvs a=>∀ x dx,a x=none->a dx=none->dx≠x->sp (.ref x::vs) (upd (upd a dx (.own x)) x (.ins C dx [])) (λv b=>v=.non/\Q (.ref x) b) (EK σ)):qgC C sp EK tas σ H Q:=h
theorem vRaise(h:te σ H λx b=>∃ a C dx,x=.ref a/\b a=some (XN a C dx)/\XAt K C/\EK σ (.ref C) dx (upd b a (XO a C dx))):qgz K EK te D σ H:=h
theorem zy{x y:V}{t a:Value}{b:Bool}(ty:TyX K H x t)(c:qdH y=some a)(hb:PySem.W.kitOne K t a=some b)(h:Q (.bl b) H):qhG K [x,y] H Q:=⟨x,y,t,a,b,rfl,ty,c,hb,h⟩
end
section
variable{prog:Program}{w:World}{A:Around}{E:Value->Shared->Prop}{s:Shared}
theorem none_dict{a:Addr}{Q:Value->Shared->Prop}(d:s.TypeIs (.ref a) "dict")(e:A.units<cLine)(h:Q (.bool false) s):wpAny (model prog w) A (richCompare .Eq .none (.ref a)) Q E s:=by
 show SeqAt.rc_eq_decline_or (k:=false) rfl d (by decide) PySem.F.sub_dict_NoneType YW PySem.F.slot_dict_eq_refl
  (λ_ c=>call_gives YW rfl PySem.F.entry_NoneType_eq (PySem.F.args_NoneType_eq_2 _ _) (SeqAt.NoneType___eq___none_ref_0 a) c) (λf c=>?_) (λ_ c=>xj (rfl:isSame .none (.ref a)=pure false) c) (.inr e) h
 show wpAny_call_entry PySem.F.slot_dict_eq_refl d PySem.F.entry_dict_eq ?_ (PySem.F.args_dict_eq_2 _ _);show wpAny _ _ (Builtin.Dict.dictSlotArgs "__eq__" ⟨[.ref a,.none],[]⟩>>=_) _ _ s;show yq ?_;unfold Builtin.Dict.dictSlotArgs;show yq (wpAny_notOrdered_dict d ?_);show wpAny _ _ (pure (Value.ref a,Value.none)) _ _ s;show yA ?_;show yq (wpAny_isInstance (T:="NoneType") (b:=false) rfl PySem.F.sub_NoneType_dict ?_);simp only[Bool.not_false,Xq];show yq (wpAny_rule (yA ⟨_,rfl,c⟩))
theorem none_own{K:yf}{x C:Addr}{ox:Obj}{od:Option Obj}{Q:Value->Shared->Prop}(g:A.units<cLine)(X:K.In s.heap)(I:PySem.W.InstAt s.heap x ox C od)(f:OEq K C)(hn:PySem.W.mroIn K C (.type "NoneType")=some false)
  (h:Q (.bool false) s):wpAny (model prog w) A (richCompare .Eq .none (.ref x)) Q E s:=by
 have i:wpAny (model prog w) A (tryCompare .none "__eq__" (.ref x)) (λr s'=>r=none/\s'=s) E s:=by
  unfold tryCompare;show yq ?_;simp only[callSpecialIfBound?,bindSpecialIfBound?];show YF (yq (yq ?_));show yq (xj (rfl:typeOf .none=pure (.type "NoneType")) ?_);show xj YW.lookup ?_;show yq (kR (wpAny_ite ?_))
  have a:wpAny (model prog w) A (call (.builtin "NoneType.__eq__") ([.none]++[.ref x])>>=λv=>pure (some v)) (λr s'=>wpAny (model prog w) A (match r with | some .notImplemented | none=>pure none | some v=>pure (some v)) (λr s'=>r=none/\s'=s) E s') E s:=
   yq (call_gives YW rfl PySem.F.entry_NoneType_eq (PySem.F.args_NoneType_eq_2 _ _) (SeqAt.NoneType___eq___none_ref_0 x) (yA (yA ⟨rfl,rfl⟩)))
  split
  .show yq (xj (YW.bind .none) (yA a))
  .show kq (yq (xj (YW.bind .none) (yA a)))
 have j:wpAny (model prog w) A (tryCompare (.ref x) "__eq__" .none) (λr s'=>r=none/\s'=s) E s:=by
  unfold tryCompare;show yq ?_;simp only[callSpecialIfBound?,bindSpecialIfBound?];show YF (yq (yq (yq (I.type.here ((YN X f.eq).here ?_)))));show yq (kR (wpAny_ite ?_));have b:=PySem.F.slot_object_eq.bind (.ref x)
  have c:∀{d:Value->Shared->Prop},d .notImplemented s->wpAny (model prog w) A (call (.builtin "object.__eq__") [.ref x,.none]) d E s:=λ{d} q=>by
   show xT (xR PySem.F.slot_object_eq.plain PySem.F.entry_object_eq (@PySem.W.check_slot (model prog w) _ _ s "object.__eq__" "object" "__eq__" (.ref x) [.none] [] _ (by room) (by room) (I.type.andThen (xx X f.ob)) (PySem.F.args_object_eq_2 _ _) ?_));show yq (yA (yq (xj (rfl:isSame (.ref x) .none=pure false) ?_)));show yA q
  have a:wpAny (model prog w) A (call (.builtin "object.__eq__") ([.ref x]++[.none])>>=λv=>pure (some v)) (λr s'=>wpAny (model prog w) A (match r with | some .notImplemented | none=>pure none | some v=>pure (some v)) (λr s'=>r=none/\s'=s) E s') E s:=
   yq (c (yA (yA ⟨rfl,rfl⟩)))
  split
  .show yq (xj b (yA a))
  .show kq (yq (xj b (yA a)))
 unfold richCompare;show YF (yq (wpAny_cRoomFor g ?_));show wpAny _ _ (typeOf .none>>=_) _ _ _;show yq (xj (rfl:typeOf .none=pure (.type "NoneType")) (yq (I.type.here ?_)));rw[yH (by rfl)];show yq ((xx X hn).here ?_);simp only[ko,kN];show yq (YD i (λr s' z=>?_) λ_ _ e=>e);obtain⟨rfl,rfl⟩:=z;simp only[Bool.not_false,Xq];show yq (YD j (λr s' z=>?_) λ_ _ e=>e);obtain⟨rfl,rfl⟩:=z;show yq (wpAny_rule (yq (xj (rfl:isSame .none (.ref x)=pure false) (yA h))))
end
def rNoneRef(K:yf):R2:=λx y H Q=>∃ a,x=.non/\y=.ref a/\((∃ xs,SqL K H a xs\/SqT K H a xs)\/(∃ kvs,H a=some (.dK kvs))\/∃ C dx fs,H a=some (.ins C dx fs)/\OEq K C/\PySem.W.mroIn K C (.type "NoneType")=some false)/\Q (.bl false) H
def qgG(K:yf):R2:=λx y H Q=>qij K x y H Q\/rNoneRef K x y H Q
theorem zA{X:Cx}{K:yf}(e:X.K=K)(i:X.A.units+100<cLine):OpR X (compareOp .Eq) (qgG K):=by
 intro pins s σ H x y u v Q I f g h;rcases h with h | ⟨a,rfl,rfl,h,q⟩
 .show k_eqW e i pins s σ H x y u v Q I f g h
 .subst e;cases f;cases g;have b:EP X pins σ Q (.bool false) s:=⟨.bl false,H,I,rfl,q⟩;rcases h with⟨xs,hl | hl⟩ | ⟨kvs,c⟩ | ⟨C,dx,fs,c,j,hn⟩
  .obtain⟨its,r,pl,_⟩:=I.list hl;show SeqAt.RcAt.none_list pl.isList (by lk) _ _ _ _ b
  .obtain⟨its,r,pl,_⟩:=I.tuple hl;show SeqAt.RcAt.none_tuple pl (by lk) _ _ _ _ b
  .obtain⟨_,_,vs,_,d⟩:=(show ObjOk X.prog X.w H s.heap a (.dK kvs) from I.hok a _ c);show none_dict d.typeIs (by lk) b
  .obtain⟨l,O,_⟩:=qbC I.hok c;obtain⟨od,J,_⟩:=O.look;show none_own (by lk) I.kIn J j hn b
def XL(K:yf)(C:Addr)(d:List Value):Prop:=∃ nm l N bs a m b c col e f g h i j,K.lookup C=some (excClassObj nm l C N bs d a m b c col e f g h i j "ValueError.__new__")
section
variable{K:yf}{C D:Addr}{bm bn:List Value}
theorem XL.xat(x:XL K C bm)(hb:qdm bm=true)
  (c:PySem.W.findIn K (.ref C) "__getattribute__"=some (some (.builtin "BaseException.__getattribute__"))) (d:PySem.W.findIn K (.ref C) "__getattr__"=some none)
  (bx:PySem.W.mroIn K C (.type "BaseException")=some true) (g:PySem.W.mroIn K C (.type "object")=some true) (f:PySem.W.hasDictIn K C=true) (cl:PySem.W.findIn K (.ref C) "__class__"=some (some (.builtin "object.__class__")))
  (b:PySem.W.specialIn K (.builtin "object.__class__") "__get__"=some (some (.builtin "getset_descriptor.__get__"))) (ct:PySem.W.takesIn K (.builtin "object.__class__")=some true)
  (h:PySem.W.findIn K (.ref C) "__setattr__"=some (some (.builtin "object.__setattr__"))):XAt K C:=by
 obtain⟨nm,r,N,bs,a,s,i,j,col,l,m,n,o,p,q,e⟩:=x;show⟨c,d,bx,g,f,cl,b,ct,h,?_,?_⟩
 .unfold PySem.W.clsIn;rw[e];show hb
 .unfold qhS;rw[e];simp[hb]
theorem XL.kit(x:XL K C bm)(y:XL K D bn):PySem.W.kitOne K (.ref C) (.ref D)=some ((Value.ref C::bm).contains (.ref D)):=by
 obtain⟨nm,I,N,bs,d,J,u,w,col,A,B,E,F,G,H,e⟩:=x;obtain⟨p,s,v,h,a,t,f,g,b,i,j,l,m,n,o,c⟩:=y;unfold PySem.W.kitOne PySem.W.kitCls;split
 .rename_i z
  have z:C=D:=Xy (Yq.mp z);subst z;simp
 .dsimp only;have q:(PySem.W.clsIn K D).isSome=true:=by unfold PySem.W.clsIn;rw[c];rfl
  have r:(PySem.W.typeIn K (.ref D)==some (.type "type"))=true:=by show((K.lookup D).map (·.cls)==_)=true;rw[c];rfl
  rw[yH (by rw[q,r];rfl)];unfold PySem.W.subIn PySem.W.mroIn PySem.W.clsIn;dsimp only;rw[e];rfl
theorem XL.kitT(x:XL K C bm){T:String}(h:PySem.W.kitMeta T=true):PySem.W.kitOne K (.ref C) (.type T)=some (bm.contains (.type T)):=by
 obtain⟨nm,m,N,bs,a,n,b,c,col,d,f,g,i,j,l,e⟩:=x;unfold PySem.W.kitOne PySem.W.kitCls;split
 .rename_i z
  show absurd (Yq.mp z) nofun
 .dsimp only;rw[yH h];unfold PySem.W.subIn PySem.W.mroIn PySem.W.clsIn;dsimp only;rw[e];show some ((Value.ref C::bm).contains _)=_;rw[Yx];rfl
abbrev qcp:List Value:=[.type "ValueError",.type "Exception",.type "BaseException",.type "object"]
theorem qfw:qdm qcp=true:=by decide
theorem qcq{c:Addr}:qdm (.ref c::qcp)=true:=qfw
theorem kits{K:yf}{a:LI}{c:Addr}(hn:(a++[c]).Nodup)(h:∀ i,i<a.length->XL K (a.getD i c) (.ref c::qcp))(hc:XL K c qcp) :
  (∀ i j,i<a.length->j<a.length->PySem.W.kitOne K (.ref (a.getD i c)) (.ref (a.getD j c))=some (decide (i=j)))/\(∀ i,i<a.length+1->PySem.W.kitOne K (.ref (a.getD i c)) (.ref c)=some true) /\
  (∀ i,i<a.length+1->PySem.W.kitOne K (.ref (a.getD i c)) (.type "ValueError")=some true)/\∀ j,j<a.length->PySem.W.kitOne K (.ref c) (.ref (a.getD j c))=some false:=by
 have m:∀(j:Nat) (b:j<a.length),a.getD j c=a[j]:=λj b=>by simp[List.getD,b]
 have hl:a.getD a.length c=c:=by simp
 have g:∀ j,j<a.length->c≠a.getD j c:=λj b e=>by
  have r:=(YI.mp hn).2.2 (a.getD j c) (by rw[m j b];show Xb b) c (by simp);show r e.symm
 show⟨λi j f b=>?_,λi f=>?_,λi f=>?_,λj b=>?_⟩
 .rw [(h i f).kit (h j b)]
  congr 1
  rw[Yx,Yx];have l:((Value.ref (a.getD j c))==Value.ref c)=false:=Yr.mpr λe=>g j b (Xy e).symm;have o:List.contains qcp (Value.ref (a.getD j c))=false:=rfl;rw[l,o];by_cases d:i=j
  .subst d;simp
  .have p:((Value.ref (a.getD j c))==Value.ref (a.getD i c))=false:=Yr.mpr λe=>by
    have e:=Xy e;rw[m i f,m j b] at e;have n:=Xr.mp (YI.mp hn).1;rcases Nat.lt_or_gt_of_ne d with q | q
    .show n i j f b q e.symm
    .show n j i b f q e
   rw[p];simp[d]
 .rcases Nat.lt_or_ge i a.length with hi' | hi'
  .rw [(h i hi').kit hc,Yx,Yx];simp
  .have:i=a.length:=by lk
   subst this;rw[hl,hc.kit hc];simp
 .rcases Nat.lt_or_ge i a.length with hi' | hi'
  .rw [(h i hi').kitT (by room)];rfl
  .have:i=a.length:=by lk
   subst this;rw[hl,hc.kitT (by room)];rfl
 .rw [hc.kit (h j b),Yx];have l:((Value.ref (a.getD j c))==Value.ref c)=false:=Yr.mpr λe=>g j b (Xy e).symm;rw[l];rfl
end
end L2
namespace HT
open PySem PySem.Spec PyProof.Rows
section
variable{prog:Program}{w:World}{A:Around}{E:Value->Shared->Prop}{s:Shared}
end
end HT
namespace L2
open PySem PySem.Spec PyProof.Rows
variable{H:Hp}{X:Cx}{es:List Expr}{pos:Pos}{σ:St}
def tRev(K:yf)(d:TE)(e:TO):TE:=fun σ H Q=>d σ H λx c=>e σ c λo b=>o=some (-1)/\∃ a y z,x=.ref a/\SqT K b a [y,z]/\∀ p,b p=none->Q (.ref p) (upd b p (.tup [z,y]))
theorem vRev{K:yf}{c:TE}{d:TO}{Q:VK}(h:c σ H λx e=>d σ e λo b=>o=some (-1)/\∃ a y z,x=.ref a/\SqT K b a [y,z]/\∀ p,b p=none->Q (.ref p) (upd b p (.tup [z,y]))):tRev K c d σ H Q:=h
section
variable{X:Cx}{K:yf}{e st:Expr}{te:TE}{ts:TO}{p2 pos:Pos}
def rTupleU(K:yf):List V->Hp->VK->Prop:=λxs H Q=>∃ p ys,xs=[.ref p]/\((SqL K H p ys/\∀ l,H l=none->Q (.ref l) (upd H l (.tup ys)))\/(SqT K H p ys/\Q (.ref p) H))
theorem qc1(a:X.K=K):zW X (.type "tuple") (rTupleU K):=by subst a;show call_tuple_of
end
theorem Inv.turnedL{a:List (Addr×Obj)}{s:Shared}{h':Heap}{t':Nat}{fp:LI}(I:Inv X a σ H s)(k:∀ b o,b∉fp->s.heap.get? b=some o->h'.get? b=some o)(f:∀ b∈fp,qdZ X a H b):Inv X a σ H { s with heap:=h',toks:=t' }:=by
 have d:∀ b u,H b=some u->b∉fp:=λb u e z=>by rw[(f b z).1] at e;cases e
 have l:X.env.locals∉fp:=λz=>(f _ z).2.1 rfl;show I.step (g':=s.gens) (d':=s.drawn) (ch:=fp) (λb hb=>?_) (λb o _ _ hc e _=>k b o hc e) (λb o _ _ hc e _=>⟨o.slots,k b o hc e⟩) (λ_ _ _ _ n=>n)
  (λb o hc e=>⟨o,k b o hc e⟩) (λ_ _ e=>e) (λ_ _ _ e=>e) (λb ps e=>⟨#[],by rw[e];simp⟩) (λm hm=>?_) (λb u e=>?_) I.bare
 .obtain⟨t,g,w,h,i,j⟩:=f b hb;show⟨h,g,i,j⟩
 .obtain⟨o,es,ep,p,r⟩:=hm;show⟨o,es,ep,k _ o l p,r⟩
 .show(I.hok b u e).stay (λc v hc q=>k c v ?_ q) (λ_ q=>q) λ_ _ q=>q;rcases hc with z | z
  .rw [z];show d b u e
  .show d c _ z
def Ite(K:yf)(a:Addr):It:=
 ⟨λi H=>∃ xs x,SqL K H a xs/\xs[i]?=some x,λi H x H'=>∃ t y,x=.ref t/\H t=none/\H'=upd H t (.tup [.int i,y])/\∀ xs,SqL K H a xs->xs[i]?=some y,λi H=>∃ xs,SqL K H a xs/\xs.length<=i⟩
theorem qdL{h:Heap}{o v:Obj}{b:Addr}(e:(h.push o).get? b=some v)(ne:b≠h.objs.size):h.get? b=some v:=(Heap.get?_push_cases e).elim (λz=>absurd z.1 ne) λz=>z
theorem turn_enum{P:Program}{w:World}{K:yf}{x1}(a e it:Addr)(q:e≠it):Turn P w K (.Tuple es x1 pos) (Ite K a) [e,it] e (λi h=>(∃ g,IsEnum h e it i g)/\h.IsListIter it a i) where
 mem:=by simp
 obj:=λi h st b hb=>by
  obtain⟨⟨g,m⟩,o,D,c,d⟩:=st;simp only[yy,yR,YJ] at hb;rcases hb with rfl | rfl
  .show⟨_,m,λv z=>by
    have T:Data.fields _=Data.cell v:=z;cases T⟩
  .show⟨o,D,λv z=>by rw[d] at z;cases z⟩
 keep:=λi h h' st k=>by
  obtain⟨⟨g,m⟩,j⟩:=st;show⟨⟨g,k e (by simp) _ m⟩,j.at λo x=>k it (by simp) o x⟩
 item:=by
  intro X G hw F hc i l s σ H E I L st M;subst G hw F;obtain⟨⟨g,m⟩,j⟩:=st;obtain⟨xs,x,B,N⟩:=M;obtain⟨O,S,p,C⟩:=I.list B;obtain⟨u,hu,ru⟩:=S.get N;show wpAny_pyNext_enum_item m j p.isList (x:=u) (by simpa using hu) q λh' ho t hT hsz hk=>?_;show⟨_,rfl,wpAny_letOwnedTupleGo_enum ho λU J n=>?_⟩;have fre:H s.heap.objs.size=none:=I.hok.fresh (yg _);have A:s.heap.objs.size≠e:=xO (yM m);have R:s.heap.objs.size≠it:=by obtain⟨o,D,_⟩:=j;show xO (yM D)
  have W:Inv X l σ (upd H s.heap.objs.size (.tup [.int i,x])) { s with heap:=s.heap.push { cls:=.type "tuple",data:=.seq #[.int i s.toks,u] },toks:=s.toks+1 }:=
   I.laid (λb u e=>yu _ e) (yg _) ⟨wqqk,[.int i s.toks,u],.cons ⟨_,rfl⟩ (.cons ru .nil),⟨_,yS _ rfl,rfl,_,rfl⟩⟩
  have r:∀ b∈[e,it],qdZ X l (upd H s.heap.objs.size (.tup [.int i,x])) b:=λb hb=>by
   obtain⟨f0,f⟩:=L b hb;show⟨?_,f⟩;rw[qk]
   .show f0
   .simp only[yy,yR,YJ] at hb;rcases hb with rfl | rfl
    .show A.symm
    .show R.symm
  have kk:∀ b o,b∉[e,it]->(s.heap.push { cls:=.type "tuple",data:=.seq #[.int i s.toks,u] }).get? b=some o->U.get? b=some o:=λb o hb z=>by
   simp only[yy,yR,YJ,Kh] at hb;by_cases C:b=s.heap.objs.size
   .subst C;rw[yS _ rfl] at z;cases z;show(n.2 _ A).trans hT
   .show(n.2 b hb.1).trans (hk b o hb.1 hb.2 (qdL z C))
  have Y:=W.turnedL (h':=U) (t':=s.toks+1) (fp:=[e,it]) kk r;show⟨.ref s.heap.objs.size,_,Y,rfl,⟨_,x,rfl,fre,rfl,λys hy=>by rw[I.list_inj hy B];show N⟩,⟨⟨_,by simpa using J⟩,t.at λo y=>(n.2 it q.symm).trans y⟩,λb hb=>(r b hb).1⟩
 done:=by
  intro X G hw F hc i l s σ H E I L st M;subst G hw F;obtain⟨⟨g,m⟩,j⟩:=st;obtain⟨xs,B,N⟩:=M;obtain⟨O,S,p,C⟩:=I.list B;have hl:=S.length;show wpAny_pyNext_enum_end (I.ok.hd hc) m j p.isList (XI (by simp;lk)) λh' Z=>⟨rfl,I.turnedL (t':=s.toks) (fp:=[e,it]) (λb o hb z=>Z b o (λT=>hb (by simp[T])) z) L⟩
 self:=λ_ _ _ _ _ st h=>by
  obtain⟨⟨g,m⟩,_⟩:=st;show wpAny_pyIter_enum m h
theorem boot_enumerate:bootBuiltins "enumerate"=some (.type "enumerate"):=by room
def qhI(K:yf)(c:TA):TI:=fun σ H R=>c σ H λvs b=>∃ a xs,vs=[.ref a]/\SqL K b a xs/\R (Ite K a) b
theorem qea{K:yf}{a:Expr}{i:TA}{x1}{z p:Pos}(l:X.K=K)(n:Gl X "enumerate")(hm:X.mg "enumerate"=none)(m:PA X [a] i)(v:starEach [a] X.env=[(false,eval a X.env)]:=by rfl):PI X (.Tuple es x1 z) (.Call (.Name "enumerate" p) [a] [] pos) (qhI K i):=by
 subst l;intro d s σ H R I h;show Call_ (qaz I n hm boot_enumerate (Yt (thn (m pos d s σ H _ I h) λus f ⟨vs,j,c,y,x⟩=>?_) v rfl));obtain⟨a,xs,e,u,q⟩:=x;subst e
 cases y with
 | cons r rr =>
  cases rr;cases r;obtain⟨w,B,pl,A⟩:=c.list u;show call_enumerate_list pl.isList λh' g o hsz t=>wpAny_pyIter_enum g ?_;show⟨_,[f.heap.objs.size+1,f.heap.objs.size],_,_,j,rfl,c.kept (t':=f.toks) t,turn_enum a _ _ (Nat.succ_ne_self _),⟨⟨_,g⟩,o⟩,λb hb=>?_,q⟩;simp only[yy,yR,YJ] at hb;rcases hb with rfl | rfl
  .show c.fpOk (YO _) (c.hok.fresh (YO _))
  .show c.fpOk (yg _) (c.hok.fresh (yg _))
theorem qc2{K:yf}{a:Addr}{xs:List V}{g:TG}{l:TS}{D:Ends}(b:Nat->St->Hp->Prop)(h0:b 0 σ H)(hl:∀ i σ H,i<=xs.length->b i σ H->SqL K H a xs)
  (r:∀ i x t σ H,xs[i]?=some x->H t=none->b i σ H->g (.ref t) σ (upd H t (.tup [.int i,x])) λd h=>l { D with nx:=b (i+1),ct:=b (i+1),bk:=D.nx } d h) (n:∀ σ H,b xs.length σ H->D.nx σ H) :
  ∃ W:Nat->Nat->St->Hp->Prop,(∃ m,W 0 m σ H)/\∀ i m σ H,W i m σ H ->
   ((Ite K a).stop i H/\D.nx σ H)\/((Ite K a).go i H/\∃ N:St->Hp->Prop,(∀ c H',N c H'->∃ j,j<m/\W (i+1) j c H')/\∀ x H',(Ite K a).yld i H x H'->g x σ H' λd h=>l { D with nx:=N,ct:=N,bk:=D.nx } d h):=by
 show⟨λi m σ H=>m=xs.length-i/\i<=xs.length/\b i σ H,⟨xs.length,by simp,Yi _,h0⟩,?_⟩;rintro i m σ H ⟨rfl,o,p⟩;have q:=hl i σ H o p;by_cases f:i<xs.length
 .show .inr ⟨⟨xs,xs[i],q,by simp[f]⟩,b (i+1),λc H' u=>⟨xs.length-(i+1),by lk,rfl,f,u⟩,λx H' y=>?_⟩;obtain⟨t,v,rfl,s,rfl,y⟩:=y;show r i v t σ _ (y xs q) s p
 .have e:i=xs.length:=by lk
  subst e;show .inl ⟨⟨xs,q,yg _⟩,n σ H p⟩
theorem vEnum{K:yf}{b:TA}{R:It->Hp->Prop}(h:b σ H λvs c=>∃ a xs,vs=[.ref a]/\SqL K c a xs/\R (Ite K a) c):qhI K b σ H R:=h
section
variable{X:Cx}
end
end L2
namespace L2
open PySem PySem.Spec PyProof.Rows PySem.Builtin PySem.Builtin.Str
theorem qfx(z:Str)(xs:LS):Txt.join z xs=Str.join z xs:=StrLaws.glued_eq_join z xs
theorem join_len_le(z:Str)(xs:LS):(Txt.join z xs).length<=(xs.map (·.length)).sum+xs.length*z.length:=by
 rw[qfx];show StrLaws.join_length_le z xs
theorem vDGet2{e ty f:TE}{b:St}{H:Hp}{Q:VK}(h:e b H λx c=>∃ a,x=.ref a/\IsD c a/\ty b c λy g=>f b g λz d=>∃ o,DGet d a y o/\Q (o.getD z) d):tDGet2 e ty f b H Q:=h
end L2
namespace L2
open PySem PySem.Spec PyProof.Rows
theorem eqV_strD(a b:Str):eqV (.str a) (.str b)=decide (a=b):=by
 have e:eqV (.str a) (.str b)=(a==b):=by simp[eqV]
 rw[e,Ye,Yq,yJ]
theorem qdM:∀(ys:LS) (y:Str) (m:Nat) (hm:m<ys.length),m<ys.idxOf y->ys[m]≠y
 | [],_,_,hm,_=>by simp at hm
 | a::r,y,m,hm,h=>by
  rw[List.idxOf_cons] at h;by_cases e:a=y
  .subst e;simp at h
  .have hb:(a==y)=false:=Yr.mpr e;rw[hb] at h
   cases m with
   | zero=>show e
   | succ k =>
    have b:k<r.idxOf y:=by
     have h:k+1<r.idxOf y+1:=h;lk
    show qdM r y k (by simpa using hm) b
section
variable{X:Cx}{K:yf}
def rIndex(K:yf):V->List V->Hp->VK->Prop:=λx vs H Q=>∃(p:Addr) (ys:LS) (y:Str),x=.ref p/\vs=[.str y]/\SqL K H p (ys.map V.str)/\y∈ys/\Q (.int (ys.idxOf y:Nat)) H
theorem qfy(A:X.K=K):MtR X "list.index" (rIndex K):=by
 subst A;intro t s N H x vs v us Q I J G h;obtain⟨p,ys,y,rfl,rfl,B,D,q⟩:=h;cases J;obtain⟨u,rfl,E⟩:=G.one;obtain⟨a,r,pl,o⟩:=I.list B;obtain⟨⟨cls,z,data,L⟩,l,hc,n,j⟩:=id pl.isList;simp only at hc j;subst hc j;have fs:(ys.map V.str).all qaI=true:=by rw[xA];show Yp.mpr λ_ _=>rfl
 have b:(ys.map V.str).length=a.length:=r.length;rw[ya] at b;have d:ys.idxOf y<ys.length:=List.idxOf_lt_length_iff.mpr D
 have at_:∀(m:Nat) (hm:m<ys.length) (c:m<a.toArray.size),eqU (.str y) a.toArray[m]=decide (ys[m]=y):=λm hm c=>by
  have g:(ys.map V.str)[m]?=some (.str ys[m]):=by rw[yd,yb hm];rfl
  obtain⟨w,hw,i⟩:=r.get g
  have e:a.toArray[m]=w:=by
   have:a.toArray[m]?=some w:=by simpa using hw
   rw[Array.getElem?_eq_getElem c] at this;show yl this
  rw[e,qfm i rfl,eqV_strD]
 have M:ys.length<=sizeLine:=by rw[ya] at o;show o
 have C:sizeLine<2 ^ 63-1:=by decide
 show XT XF ⟨_,l,rfl⟩ PySem.F.entry_list_index (PySem.F.args_list_index_2 _ _)
  (SeqAt.list_indexAt p a.toArray n z L u (eqU (.str y)) (ys.idxOf y) (by simpa [<- b] using d) (by lk) ?_ ?_) ⟨l,λw hw=>qaR E rfl r fs w (by simpa using hw),.int _,H,I.tok _,⟨_,rfl⟩,q⟩
 .rw [at_ _ d];show yv (Yy d)
 .intro m hm f;rw[at_ m (by lk)];show yk λe=>qdM ys y m (by lk) f e
end
theorem cutV_drop(xs:List V)(k:Nat):qfj xs (some (k:Int)) none=xs.drop k:=by
 unfold qfj;rw[HT.sIx_none,HT.sIx_nat];by_cases h:k<=xs.length
 .rw [k8 h,xB (by rw[XS];lk)]
 .rw [Nat.min_eq_right (by lk),kS,List.drop_of_length_le (by lk)];simp
section
variable{X:Cx}{K:yf}
theorem qeG:∀{ns:LQ} {us:List Value},Vals (ns.map V.int) us->IntsAre us ns
 | [],_,.nil=>.nil
 | n::ns,_,.cons r t=>by
  obtain⟨tk,rfl⟩:=r;show .cons n tk (qeG t)
end
end L2
namespace HT
open PySem PySem.Spec PyProof.Rows
section
variable{prog:Program}{w:World}{A:Around}{E:Value->Shared->Prop}{s:Shared}
end
end HT
namespace L2
open PySem PySem.Spec PyProof.Rows
def tStep(K:yf)(e:TE)(f:TO):TE:=λc H Q=>e c H λx d=>f c d λo b=>∃ a y z,x=.ref a/\SqT K b a [y,z]/\((o=some (-1)/\∀ p,b p=none->Q (.ref p) (upd b p (.tup [z,y])))\/(o=some 1/\Q (.ref a) b))
theorem vStep{K:yf}{d:TE}{e:TO}{c:St}{H:Hp}{Q:VK}(h:d c H λx f=>e c f λo b=>∃ a y z,x=.ref a/\SqT K b a [y,z]/\((o=some (-1)/\∀ p,b p=none->Q (.ref p) (upd b p (.tup [z,y])))\/(o=some 1/\Q (.ref a) b))):tStep K d e c H Q:=h
section
variable{X:Cx}{K:yf}{e st:Expr}{te:TE}{ts:TO}{p2 pos:Pos}
end
def FG(K:yf)(nm:Str)(st:Stmt):Prop:=∃ f a,PySem.W.nsIn K mainGlobals nm=some (some (.ref f))/\Fun K nm nm st f a
def FM(K:yf)(C:Addr)(m b:Str)(st:Stmt):Prop:=∃ f a,PySem.W.findIn K (.ref C) m=some (some (.ref f))/\PySem.W.isFn K (.ref f)=true/\Fun K m b st f a
def FC(K:yf)(C:Addr)(m b:Str)(st:Stmt):Prop:=∃ f a,PySem.W.findCls K (.ref C) (.type "type") m=some (.val (.ref f))/\Fun K m b st f a
structure XQ(K:yf)(C:Addr):Prop where
 xa:PySem.W.findIn K (.ref C) "__getattribute__"=some (some (.builtin "BaseException.__getattribute__"))
 xb:PySem.W.findIn K (.ref C) "__getattr__"=some none
 xd:PySem.W.mroIn K C (.type "BaseException")=some true
 xe:PySem.W.mroIn K C (.type "object")=some true
 xf:PySem.W.hasDictIn K C=true
 xg:PySem.W.findIn K (.ref C) "__class__"=some (some (.builtin "object.__class__"))
 xh:PySem.W.findIn K (.ref C) "__setattr__"=some (some (.builtin "object.__setattr__"))
 p:PySem.W.keepIn K (.ref C)=true
section
variable{P:Program}{w:World}{K:yf}{mg:Str->Option Value}{base h:Heap}{CX:CXT}{k:Nat}{sp:Sp}{st:Stmt}{f:Addr}{fd:FuncData}{ps:LS}{nm m ql x:Str}{C:Addr}
theorem lN0{P:List Value->Prop}(h:P []):∀ us:List Value,us.length=0->P us:=λus e=>by rw[List.eq_nil_of_length_eq_zero e];show h
theorem lNs{P:List Value->Prop}{n:Nat}(h:∀ a r,r.length=n->P (a::r)):∀ us:List Value,us.length=n+1->P us:=λus e=>by
 cases us with
 |nil=>cases e
 |cons a r=>show h a r (Nat.succ.inj e)
theorem lN1{P:List Value->Prop}(h:∀ a,P [a]):∀ us:List Value,us.length=1->P us:=lNs λa=>lN0 (h a)
theorem lN2{P:List Value->Prop}(h:∀ a b,P [a,b]):∀ us:List Value,us.length=2->P us:=lNs λa=>lN1 (h a)
theorem lN3{P:List Value->Prop}(h:∀ a b c,P [a,b,c]):∀ us:List Value,us.length=3->P us:=lNs λa=>lN2 (h a)
theorem lN4{P:List Value->Prop}(h:∀ a b c d,P [a,b,c,d]):∀ us:List Value,us.length=4->P us:=lNs λa=>lN3 (h a)
theorem lN5{P:List Value->Prop}(h:∀ a b c d e,P [a,b,c,d,e]):∀ us:List Value,us.length=5->P us:=lNs λa=>lN4 (h a)
abbrev BA(x ql:Str)(st:Stmt)(ps:LS):Prop:=∀(kV b d:Value) (c:Option Addr) (a ct:Value) (us:List Value),us.length=ps.length->bindArgs (PySem.W.fnOf x ql (qa7 st) (zk st) (qf st) .none kV b d c a ct) ⟨us,[]⟩=pure (ps.zip us)
theorem fg_mk(X:K.In h)(G:h.Ns mainGlobals mg)(a:PySem.W.nsIn K mainGlobals nm=some (some (.ref f)))(F:Fun K nm nm st f fd)(o:FnOk P w K mg base CX k f fd ps sp)
  (hb:BA nm nm st ps:=by first | (show λ_ _ _ _ _ _=>lN1 λ_=>rfl) | (show λ_ _ _ _ _ _=>lN2 λ_ _=>rfl) | (show λ_ _ _ _ _ _=>lN3 λ_ _ _=>rfl) | (show λ_ _ _ _ _ _=>lN4 λ_ _ _ _=>rfl)) :
  DefOk P w K mg base CX k nm ps sp:=⟨_,_,o,kL X G a,F.kp,F.binds hb⟩
theorem fm_mk(b:Cls K C)(a:PySem.W.findIn K (.ref C) m=some (some (.ref f)))(n:PySem.W.isFn K (.ref f)=true)(F:Fun K m ql st f fd)(o:FnOk P w K mg base CX k f fd ps sp)
  (hb:BA m ql st ps:=by first | (show λ_ _ _ _ _ _=>lN1 λ_=>rfl) | (show λ_ _ _ _ _ _=>lN2 λ_ _=>rfl) | (show λ_ _ _ _ _ _=>lN3 λ_ _ _=>rfl) | (show λ_ _ _ _ _ _=>lN4 λ_ _ _ _=>rfl)) :
  MethOk P w K mg base CX k C m ps sp:=⟨⟨_,_,o,⟨a,n,F.kp⟩,F.binds hb⟩,b⟩
theorem fw_mk(X:K.In h)(G:h.Ns mainGlobals mg)(c:PySem.W.nsIn K mainGlobals x=some (some (.ref C)))(b:PySem.W.makesIn K C=true)(d:PySem.W.keepIn K (.ref C)=true)(a:PySem.W.findIn K (.ref C) "__init__"=some (some (.ref f)))(n:PySem.W.isFn K (.ref f)=true)(F:Fun K "__init__" ql st f fd)(o:FnOk P w K mg base CX k f fd ps sp)
  (hb:BA "__init__" ql st ps:=by first | (show λ_ _ _ _ _ _=>lN1 λ_=>rfl) | (show λ_ _ _ _ _ _=>lN2 λ_ _=>rfl) | (show λ_ _ _ _ _ _=>lN3 λ_ _ _=>rfl)) :
  MakeOk P w K mg base CX k C x ps sp:=⟨⟨_,_,o,⟨b,a,n,d⟩,F.binds hb⟩,kL X G c⟩
theorem qgm(X:K.In h)(G:h.Ns mainGlobals mg)(c:PySem.W.nsIn K mainGlobals x=some (some (.ref C)))(Y:XAt K C)(q:XQ K C)(a:PySem.W.findIn K (.ref C) "__init__"=some (some (.ref f)))(n:PySem.W.isFn K (.ref f)=true)(F:Fun K "__init__" ql st f fd)(o:wqqg k f fd ps sp)
  (hb:BA "__init__" ql st ps:=by first | (show λ_ _ _ _ _ _=>lN1 λ_=>rfl) | (show λ_ _ _ _ _ _=>lN2 λ_ _=>rfl)) :
  XMakeOk P w K mg base k C x ps sp:=⟨⟨_,_,o,⟨Y,a,n,q.p⟩,F.binds hb⟩,kL X G c⟩
theorem fc_mk(X:K.In h)(G:h.Ns mainGlobals mg)(c:PySem.W.nsIn K mainGlobals x=some (some (.ref C)))(a:PySem.W.readsIn K C (.type "type")=true)(b:PySem.W.findCls K (.ref C) (.type "type") m=some (.val (.ref f)))(d:PySem.W.specialIn K (.ref C) "__getattribute__"=some (some (.builtin "type.__getattribute__")))(F:Fun K m ql st f fd)(o:FnOk P w K mg base CX k f fd ps sp)
  (hb:BA m ql st ps:=by(show λ_ _ _ _ _ _=>lN2 λ_ _=>rfl)) :
  CMethOk P w K mg base CX k C x m ps sp:=⟨⟨_,_,o,⟨a,b,d,F.kp⟩,F.binds hb⟩,kL X G c⟩
theorem qe6{c:List Value}(x:XL K C c)(hb:qdm c=true)(q:XQ K C)(a:PySem.W.specialIn K (.builtin "object.__class__") "__get__"=some (some (.builtin "getset_descriptor.__get__")))(b:PySem.W.takesIn K (.builtin "object.__class__")=some true):XAt K C:=x.xat hb q.xa q.xb q.xd q.xe q.xf q.xg a b q.xh
end
end L2
namespace HT
open PySem PySem.Spec PyProof.Rows
section
variable{prog:Program}{w:World}{A:Around}{E:Value->Shared->Prop}{s:Shared}
end
end HT
namespace L2
open PySem PySem.Spec PyProof.Rows
variable{H:Hp}{R:It->Hp->Prop}{es:List Expr}{pos:Pos}{ta:TA}{te:TE}{σ:St}
section
variable{X:Cx}{K:yf}{pos p:Pos}{x:Str}
end
section
variable{X:Cx}{K:yf}{e lo st:Expr}{te:TE}{tl ts:TO}{p2 pos:Pos}
def qik(K:yf)(te:TE):TI:=fun σ H R=>te σ H λv b=>∃ a xs,v=.ref a/\SqL K b a xs/\R (Itl K a) b
theorem qgn{K:yf}(h:te σ H λv b=>∃ a xs,v=.ref a/\SqL K b a xs/\R (Itl K a) b):qik K te σ H R:=h
theorem qeH{t:Expr}(j:X.K=K)(l:PE X e te):PI X t e (qik K te):=by
 subst j;intro c s σ H R I h;show thn (l c s σ H _ I h) λv d ⟨y,g,f,r,a,xs,i,m,q⟩=>?_;subst i;cases r
 have fp:∀ b∈[d.heap.objs.size],qdZ X c g b:=λb hb=>by
  have e:b=d.heap.objs.size:=by simpa using hb
  subst e;show f.fpOk (yg _) (f.hok.fresh (yg _))
 obtain⟨n,w,p,u⟩:=f.list m;show XH p.isList ⟨d.heap.objs.size,[d.heap.objs.size],_,_,g,rfl,f.kept (t':=d.toks) λb o e=>yu _ e,qds a _,⟨_,yS _ rfl,rfl,rfl⟩,fp,q⟩
end
def Itz(K:yf)(a b:Addr):It:=
 ⟨λi H=>∃ xs ys x y,SqL K H a xs/\SqL K H b ys/\xs[i]?=some x/\ys[i]?=some y,λi H v H'=>∃ t x y,v=.ref t/\H t=none/\H'=upd H t (.tup [x,y])/\(∀ xs,SqL K H a xs->xs[i]?=some x)/\∀ ys,SqL K H b ys->ys[i]?=some y,λi H=>∃ xs ys,SqL K H a xs/\SqL K H b ys/\(xs.length<=i\/ys.length<=i)⟩
def tnZ(z TI TO c d a b:Addr)(i:Nat)(h:Heap):Prop:=IsZip h z TI TO .none/\IsPair h TI (.ref c) (.ref d)/\(∃ u v,IsPair h TO u v)/\h.IsListIter c a i/\h.IsListIter d b i
theorem turn_zip{P:Program}{w:World}{K:yf}{x1}(a b z TI TO q r:Addr)(D:ZipApart z TI TO q r a b):Turn P w K (.Tuple es x1 pos) (Itz K a b) [z,TI,TO,q,r] z (tnZ z TI TO q r a b) where
 mem:=by simp
 obj:=λi h st c hc=>by
  obtain⟨l,d,⟨u,v,g⟩,⟨o1,e1,c1,d1⟩,⟨o2,e2,c2,d2⟩⟩:=st;simp only[yy,yR,YJ] at hc;rcases hc with rfl | rfl | rfl | rfl | rfl
  .show⟨_,l,λv z=>by have G:Data.fields _=Data.cell v:=z;cases G⟩
  .show⟨_,d,λv z=>by have G:Data.seq _ _=Data.cell v:=z;cases G⟩
  .show⟨_,g,λv z=>by have G:Data.seq _ _=Data.cell v:=z;cases G⟩
  .show⟨o1,e1,λv z=>by rw[d1] at z;cases z⟩
  .show⟨o2,e2,λv z=>by rw[d2] at z;cases z⟩
 keep:=λi h h' st k=>by
  obtain⟨l,d,⟨u,v,g⟩,h1,A⟩:=st;show⟨k z (by simp) _ l,k TI (by simp) _ d,⟨u,v,k TO (by simp) _ g⟩,h1.at λo x=>k q (by simp) o x,A.at λo x=>k r (by simp) o x⟩
 item:=by
  intro X T hw S hc i m s σ H E I U st W;subst T hw S;obtain⟨l,d,⟨u,v,g⟩,h1,A⟩:=st;obtain⟨xs,ys,x,y,L,n,hx,hy⟩:=W;obtain⟨ae,rv,p,_⟩:=I.list L;obtain⟨F,t,p2,_⟩:=I.list n;obtain⟨M,Y,ah⟩:=rv.get hx;obtain⟨N,Z,ai⟩:=t.get hy;show wpAny_pyNext_zip_item D l d g h1 A p.isList p2.isList (x:=M) (y:=N) (by simpa using Y) (by simpa using Z) λh' ac B O R hT hsz J=>?_;show⟨_,rfl,wpAny_letOwnedTupleGo_zip ac λh3 ad j=>?_⟩;have fre:H s.heap.objs.size=none:=I.hok.fresh (yg _);have lt:∀{c o},s.heap.get? c=some o->s.heap.objs.size≠c:=λe=>xO (yM e);have nz:=lt l;have af:=lt d;have ag:=lt g;have n1:s.heap.objs.size≠q:=by obtain⟨_,e,_⟩:=h1;show lt e
  have n2:s.heap.objs.size≠r:=by obtain⟨_,e,_⟩:=A;show lt e
  have I1:Inv X m σ (upd H s.heap.objs.size (.tup [x,y])) { s with heap:=s.heap.push { cls:=.type "tuple",data:=.seq #[M,N] },toks:=s.toks }:=
   I.laid (λb u e=>yu _ e) (yg _) ⟨wqqk,[M,N],.cons ah (.cons ai .nil),⟨_,yS _ rfl,rfl,_,rfl⟩⟩
  have C:∀ c∈[z,TI,TO,q,r],qdZ X m (upd H s.heap.objs.size (.tup [x,y])) c:=λc hc=>by
   obtain⟨f0,f⟩:=U c hc;show⟨?_,f⟩;rw[qk]
   .show f0
   .simp only[yy,yR,YJ] at hc;rcases hc with rfl | rfl | rfl | rfl | rfl
    .show nz.symm
    .show af.symm
    .show ag.symm
    .show n1.symm
    .show n2.symm
  have kk:∀ c o,c∉[z,TI,TO,q,r]->(s.heap.push { cls:=.type "tuple",data:=.seq #[M,N] }).get? c=some o->h3.get? c=some o:=λc o hc e=>by
   simp only[yy,yR,YJ,Kh] at hc;show j.extBut _ _ hc.1 ?_;by_cases l:c=s.heap.objs.size
   .subst l;rw[yS _ rfl] at e;cases e;show hT
   .show J c o hc.1 hc.2.2.1 hc.2.2.2.1 hc.2.2.2.2 (qdL e l)
  have I2:=I1.turnedL (h':=h3) (t':=s.toks) (fp:=[z,TI,TO,q,r]) kk C;show⟨.ref s.heap.objs.size,_,I2,rfl,⟨_,x,y,rfl,fre,rfl,λaj aa=>by rw[I.list_inj aa L];show hx,λys' ab=>by rw[I.list_inj ab n];show hy⟩,⟨ad,?_,⟨_,_,j.extBut _ _ D.TOz B⟩,O.extBut j.extBut D.i1z,R.extBut j.extBut D.i2z⟩,λc hc=>(C c hc).1⟩;show j.extBut _ _ D.TIz (J _ _ D.TIz D.TITO D.TIi1 D.TIi2 d)
 done:=by
  intro X T hw S hc i m s σ H E I U st W;subst T hw S;obtain⟨l,d,⟨u,v,g⟩,h1,A⟩:=st;obtain⟨xs,ys,L,n,he⟩:=W;obtain⟨ae,rv,p,_⟩:=I.list L;obtain⟨F,t,p2,_⟩:=I.list n;have l1:=rv.length;have l2:=t.length;show wpAny_pyNext_zip_end (I.ok.hd hc) D l d g h1 A p.isList p2.isList (he.imp (λe=>XI (by simp;lk)) λe=>XI (by simp;lk)) λh' J=>⟨rfl,I.turnedL (t':=s.toks) (fp:=[z,TI,TO,q,r]) (λc o hc e=>?_) U⟩;simp only[yy,yR,YJ,Kh] at hc;show J c o hc.1 hc.2.2.1 hc.2.2.2.1 hc.2.2.2.2 e
 self:=λ_ _ _ _ _ st h=>wpAny_pyIter_zip st.1 h
theorem boot_zip:bootBuiltins "zip"=some (.type "zip"):=by room
def qil(K:yf)(ta:TA):TI:=fun σ H R=>ta σ H λvs c=>∃ a b xs ys,vs=[.ref a,.ref b]/\SqL K c a xs/\SqL K c b ys/\R (Itz K a b) c
theorem vZip{K:yf}{c:TA}(h:c σ H λvs d=>∃ a b xs ys,vs=[.ref a,.ref b]/\SqL K d a xs/\SqL K d b ys/\R (Itz K a b) d):qil K c σ H R:=h
theorem pi_zip{X:Cx}{K:yf}{a b:Expr}{x1}{M p:Pos}(z:X.K=K)(B:Gl X "zip")(hm:X.mg "zip"=none)(A:PA X [a,b] ta)(E:starEach [a,b] X.env=[(false,eval a X.env),(false,eval b X.env)]:=by rfl)(g:starEach [b] X.env=[(false,eval b X.env)]:=by rfl):PI X (.Tuple es x1 M) (.Call (.Name "zip" p) [a,b] [] pos) (qil K ta):=by
 subst z;intro i s σ H R I h;show Call_ (qaz I B hm boot_zip (Yt (thn (A pos i s σ H _ I h) λus f ⟨vs,y,d,J,G⟩=>?_) (by rw[E,g]) (by rw[g];rfl)));obtain⟨a,b,xs,ys,e,D,t,q⟩:=G;subst e
 cases J with
 | cons r rr =>
  cases rr with
  | cons r2 rr =>
   cases rr;cases r;cases r2;obtain⟨F,N,pl,_⟩:=d.list D;obtain⟨x,L,j,_⟩:=d.list t;have u:a<f.heap.objs.size:=by obtain⟨_,e,_⟩:=pl.isList;show yM e
   have v:b<f.heap.objs.size:=by obtain⟨_,e,_⟩:=j.isList;show yM e
   show call_zip_2 pl.isList j.isList λh' w l m n o hsz C=>wpAny_pyIter_zip w ?_;show⟨_,[f.heap.objs.size+4,f.heap.objs.size+2,f.heap.objs.size+3,f.heap.objs.size,f.heap.objs.size+1],_,_,y,rfl,d.kept (t':=f.toks) C,turn_zip a b _ _ _ _ _ (PySem.W.ktu_apart _ _ _ u v),⟨w,l,⟨_,_,m⟩,n,o⟩,λc hc=>?_,q⟩;simp only[yy,yR,YJ] at hc;rcases hc with rfl | rfl | rfl | rfl | rfl
   .show d.fpOk (Xc _ _) (d.hok.fresh (Xc _ _))
   .show d.fpOk (Xc _ _) (d.hok.fresh (Xc _ _))
   .show d.fpOk (Xc _ _) (d.hok.fresh (Xc _ _))
   .show d.fpOk (yg _) (d.hok.fresh (yg _))
   .show d.fpOk (YO _) (d.hok.fresh (YO _))
def qim(K:yf)(te:TE)(d:TO):TE:=fun σ H Q=>te σ H λx c=>d σ c λo b=>o=some (-1)/\∃ a xs,x=.ref a/\SqL K b a xs/\∀ p,b p=none->Q (.ref p) (upd b p (.lst xs.reverse))
theorem qin{K:yf}{c:TO}{Q:VK}(h:te σ H λx d=>c σ d λo b=>o=some (-1)/\∃ a xs,x=.ref a/\SqL K b a xs/\∀ p,b p=none->Q (.ref p) (upd b p (.lst xs.reverse))):qim K te c σ H Q:=h
theorem qeI:∀{xs:List V} {us:List Value},Vals xs us->Vals xs.reverse us.reverse
 | _,_,.nil=>.nil
 | _,_,.cons r t=>by
  rw[List.reverse_cons,List.reverse_cons];show(qeI t).append (.cons r .nil)
section
variable{X:Cx}{K:yf}{e st:Expr}{te:TE}{ts:TO}{p2 pos:Pos}
theorem qgH(y:X.K=K)(z:PE X e te)(B:PO X (some st) ts):PE X (.Subscript e (.Slice none none (some st) p2) pos) (qim K te ts):=by
 subst y;intro c s σ H Q I h;show Subscript_ (thn (z c s σ H _ I h) λv L ⟨x,l,n,J,G⟩=>?_);show wpAny_Slice ?_;rw[evalPart_none];show yA ?_;show yA ?_;show thn (B c L σ l _ n G) λj d ⟨o,m,p,pt,t,a,xs,u,C,q⟩=>?_;subst t u;cases J;have f:Inv X c σ m { d with heap:=d.heap.push { cls:=.type "slice",data:=.fields #[.none,.none,j] } }:=p.kept (t':=d.toks) λb F q=>yu _ q;obtain⟨E,r,i,D⟩:=f.list C;have g:=r.length;show wpAny (model X.prog X.w) X.A (subscriptTail e (.Slice none none (some st) p2) (.ref a) (.ref d.heap.objs.size)) (EP X c σ Q) X.xe { d with heap:=d.heap.push { cls:=.type "slice",data:=.fields #[.none,.none,j] } };show tail_any (ops:=[.ref a,.ref d.heap.objs.size]) i.isList.typeIs kC.lookup (wpAny_getItem_list_slice i.isList (Heap.IsSliceOf.new ..) .none .none pt (by decide) ?_ (by rw[yz]<;>lk)) (by with_unfolding_all rfl);rw[PySem.W.krv_pick];show⟨.ref _,_,f.laid (t':=d.toks) (o:=.lst xs.reverse) (λb F q=>yu _ q) (yg _) ?_,rfl,q _ (f.hok.fresh (yg _))⟩;show⟨by rw[xz];show D,_,0,qeI r,yS _ rfl⟩
end
def tLR(ta:TA):TE:=fun σ H Q=>ta σ H λvs a=>∃ n:Nat,vs=[.int n]/\n<=1000/\∀ l,a l=none->Q (.ref l) (upd a l (.lst ((List.range n).map λi=>V.int ((i:Nat):Int))))
theorem vLR{Q:VK}(h:ta σ H λvs a=>∃ n:Nat,vs=[.int n]/\n<=1000/\∀ l,a l=none->Q (.ref l) (upd a l (.lst ((List.range n).map λi=>V.int ((i:Nat):Int))))):tLR ta σ H Q:=h
section
variable{X:Cx}{a:Expr}{ta:TA}{p p2 pos pos2:Pos}
theorem pe_lrng(hc:X.calm=true)(G:Gl X "list")(g:Gl X "range")(hm:X.mg "list"=none)(l:X.mg "range"=none)(F:PA X [a] ta)(L:starEach [a] X.env=[(false,eval a X.env)]:=by rfl)
  (z:starEach [.Call (.Name "range" p2) [a] [] pos2] X.env=[(false,eval (.Call (.Name "range" p2) [a] [] pos2) X.env)]:=by rfl):PE X (.Call (.Name "list" p) [.Call (.Name "range" p2) [a] [] pos2] [] pos) (tLR ta):=by
 intro d s σ H Q I h;show Call_ (qaz I G hm xr (Yt (T:="list") ?_ z rfl));rw[z];show wpAny _ _ (spliced ((false,eval (.Call (.Name "range" p2) [a] [] pos2) X.env)::[])) _ _ s;show kn ?_;show Call_ (qaz I g l boot_range (Yt (thn (F pos2 d s σ H _ I h) λus f ⟨vs,A,v,O,N⟩=>?_) L rfl));obtain⟨n,e,hn,q⟩:=N;subst e
 cases O with
 | cons r rr =>
  cases rr;obtain⟨t,rfl⟩:=r;show call_range_1 (kA ?_);show call_list_range (n:=n) (v.ok.hd hc) (IsRange.new ..) (small_one (by lk) (by lk) (by lk) (by lk)) (by rw[rangeSize_one];split<;>lk) (by lk) λh' tk c B K E x=>?_;have C:c.toList.length=n:=by rw[Y8];show x.1
  have hv:Vals ((List.range n).map λi=>V.int ((i:Nat):Int)) c.toList:=by
   show qac (by rw[ya,Yh,C]) λj y u h1 D=>?_;have J:j<n:=by have:=(yc.mp h1).1;rwa[ya,Yh] at this
   rw[yd,Xv J] at h1;cases h1;obtain⟨t',m⟩:=x.2 j u (by rw[<- xJ];show D);show⟨t',by rw[m];congr 1;lk⟩
  have w:Inv X d σ A { f with heap:=f.heap.push { cls:=.type "range",data:=.fields #[.int 0 f.toks,.int n t,.int 1 (f.toks+1)] },toks:=f.toks+1+1 }:=v.kept λb o e=>yu _ e;show⟨.ref _,_,w.laid (t':=tk) (o:=.lst ((List.range n).map λi=>V.int ((i:Nat):Int))) (λb M q=>K b M q) (yg _) ?_,rfl,q _ (w.hok.fresh (yg _))⟩;show⟨by rw[ya,Yh];show yh hn (by decide),c.toList,B,hv,?_⟩;rw[Array.toArray_toList];show E
end
end L2
namespace L2
variable{L:LN}{b n v x:Nat}
theorem qa8(x:Nat):x ^^^ x=0:=Nat.xor_self x
theorem qa9(x y:Nat):x ^^^ y=y ^^^ x:=Nat.xor_comm x y
theorem q9(x y z:Nat):(x ^^^ y) ^^^ z=x ^^^ (y ^^^ z):=Nat.xor_assoc x y z
theorem j8(x y:Nat):(x ^^^ y) ^^^ y=x:=by rw[q9,qa8,Xi]
theorem qbH(x y z:Nat):(x ^^^ y) ^^^ z=(x ^^^ z) ^^^ y:=by rw[q9,qa9 y z,<- q9]
structure Sb(V:Nat->Prop):Prop where
 z:V 0
 a:∀ x y,V x->V y->V (x ^^^ y)
def jn(V:Nat->Prop)(x:Nat):Nat->Prop:=λy=>V y\/V (y ^^^ x)
def Spn:LN->Nat->Prop
 | []=>λy=>y=0
 | a::L=>jn (Spn L) a
theorem Sb.jn{V:Nat->Prop}(s:Sb V)(x:Nat):Sb (jn V x):=by
 show⟨.inl s.z,λy z h1 h2=>?_⟩;rcases h1 with h1 | h1<;>rcases h2 with h2 | h2
 .show .inl (s.a _ _ h1 h2)
 .show .inr ?_;have:=s.a _ _ h1 h2
  rwa[<- q9] at this
 .show .inr ?_;have:=s.a _ _ h1 h2
  rwa[qbH] at this
 .show .inl ?_;have:=s.a _ _ h1 h2;rw[qbH,<- q9,qbH,q9,qa8,Xi] at this
  first | show this | (rw[qa9];show this)
theorem zP:∀ L,Sb (Spn L)
 | []=>⟨rfl,λx y h1 b=>by rw[show x=0 from h1,show y=0 from b];rfl⟩
 | a::L=>(zP L).jn a
theorem zF:∀{L:LN} {a:Nat},a∈L->Spn L a
 | b::L,a,h=>by
  rcases yy.mp h with rfl | h
  .show .inr ?_;rw[qa8];show(zP L).z
  .show .inl (zF h)
theorem qbm{V:Nat->Prop}(s:Sb V):∀{L:LN},(∀ a∈L,V a)->∀ x,Spn L x->V x
 | [],_,x,h=>by rw[show x=0 from h];show s.z
 | b::L,hl,x,h=>by
  rcases h with h | h
  .show qbm s (λa c=>hl a (yw _ c)) x h
  .have:=s.a _ _ (qbm s (λa c=>hl a (yw _ c)) _ h) (hl b (yC ..))
   rwa[j8] at this
theorem qc3{a:Nat}:Spn (L++[a]) x↔jn (Spn L) a x:=by
 constructor
 .show λh=>qbm ((zP L).jn a) (λb hb=>?_) x h;rcases yK.mp hb with z | z
  .show .inl (zF z)
  .rw [yr.mp z];show .inr ?_;rw[qa8];show(zP L).z
 .have c:∀ y,Spn L y->Spn (L++[a]) y:=λy d=>qbm (zP _) (λb hb=>zF (Yz _ hb)) y d;rintro(h | h)
  .show c _ h
  .have:=(zP (L++[a])).a _ _ (c _ h) (zF (yQ _ (yr.mpr rfl)))
   rwa[j8] at this
open Classical in
def qcD:Nat->Nat->(Nat->Prop)->Nat
 | 0,_,_=>0
 | n+1,b,V=>if ∃ v,V v/\v.testBit b=true then 1+qcD n (b+1) (λv=>V v/\v.testBit b=false) else qcD n (b+1) V
theorem Sb.low{V:Nat->Prop}(s:Sb V)(b:Nat):Sb (λv=>V v/\v.testBit b=false):=
 ⟨⟨s.z,YE b⟩,λx y h1 c=>⟨s.a _ _ h1.1 c.1,by rw[Yg,h1.2,c.2];rfl⟩⟩
def Bnd(b n v:Nat):Prop:=∀ i,v.testBit i=true->b<=i/\i<b+n
theorem Bnd.zero(h:Bnd b 0 v):v=0:=by
 show YQ λi=>?_;rw[YE]
 cases e:v.testBit i with
 | false=>rfl
 | true=>have:=h i e;lk
theorem Bnd.low(h:Bnd b (n+1) v)(hb:v.testBit b=false):Bnd (b+1) n v:=λi a=>by
 have h1:=h i a;by_cases e:i=b
 .rw [e,hb] at a;cases a
 .omega
theorem Bnd.xor{w:Nat}(h:Bnd b n v)(h':Bnd b n w):Bnd b n (v ^^^ w):=λi a=>by
 rw[Yg] at a
 cases e:v.testBit i with
 | true=>show h i e
 | false =>
  rw[e] at a;show h' i ?_
  cases c:w.testBit i with
  | true=>rfl
  | false=>rw[c] at a;cases a
theorem qbn{V W:Nat->Prop}(h:∀ v,V v↔W v):qcD n b V=qcD n b W:=by
 have:V=W:=funext λv=>propext (h v);rw[this]
open Classical in
theorem qfz:∀(n b:Nat) {V:Nat->Prop} {x:Nat},Sb V->(∀ v,V v->Bnd b n v)->Bnd b n x->qcD n b (jn V x)=qcD n b V+if V x then 0 else 1
 | 0,b,V,x,s,hV,hx=>by
  have:x=0:=hx.zero;rw[this,yH s.z];rfl
 | n+1,b,V,x,s,hV,hx=>by
  by_cases hv:∃ v,V v/\v.testBit b=true
  .obtain⟨p,d,r⟩:=hv;have j:qcD (n+1) b V=1+qcD n (b+1) (λv=>V v/\v.testBit b=false):=yH ⟨p,d,r⟩;have g:qcD (n+1) b (jn V x)=1+qcD n (b+1) (λv=>jn V x v/\v.testBit b=false):=yH ⟨p,.inl d,r⟩
   have key:∃ f,f.testBit b=false/\Bnd b (n+1) f/\(V f↔V x)/\∀ v,jn V x v↔jn V f v:=by
    cases e:x.testBit b with
    | false=>show⟨x,e,hx,Ki,λ_=>Ki⟩
    | true =>
     show⟨x ^^^ p,by rw[Yg,e,r];rfl,hx.xor (hV p d),⟨λh=>?_,λh=>s.a _ _ h d⟩,λv=>⟨λh=>?_,λh=>?_⟩⟩
     .have:=s.a _ _ h d;rwa[j8] at this
     .show h.imp id λh=>?_;rw[<- q9];show s.a _ _ h d
     .show h.imp id λh=>?_;have:=s.a _ _ h d
      rwa[<- q9,j8] at this
   obtain⟨f,l,o,i,t⟩:=key;have u:=qfz n (b+1) (x:=f) (s.low b) (λv hv=>(hV v hv.1).low hv.2) (o.low l);rw[j,g,qbn (W:=jn (λv=>V v/\v.testBit b=false) f) λv=>?_,u]
   .by_cases h:V x
    .rw [yH h,yH ⟨i.mpr h,l⟩];rfl
    .rw [yB h,yB λz=>h (i.mp z.1)];lk
   .constructor
    .rintro ⟨h,hb⟩;rcases(t v).mp h with h | h
     .show .inl ⟨h,hb⟩
     .show .inr ⟨h,by rw[Yg,hb,l];rfl⟩
    .rintro (⟨h,hb⟩ | ⟨h,hb⟩)
     .show⟨.inl h,hb⟩
     .show⟨(t v).mpr (.inr h),?_⟩;rw[Yg,l] at hb
      cases e:v.testBit b with
      | false=>rfl
      | true=>rw[e] at hb;cases hb
  .have c:∀ v,V v->v.testBit b=false:=λv h=>by
    cases e:v.testBit b with
    | false=>rfl
    | true=>show absurd ⟨v,h,e⟩ hv
   have j:qcD (n+1) b V=qcD n (b+1) V:=yB hv;have m:∀ v,V v->Bnd (b+1) n v:=λv h=>(hV v h).low (c v h)
   cases e:x.testBit b with
   | false =>
    have g:qcD (n+1) b (jn V x)=qcD n (b+1) (jn V x):=yB λ⟨v,h,hb⟩=>by
     rcases h with h | h
     .rw [c v h] at hb;cases hb
     .have:=c _ h;rw[Yg,hb,e] at this;cases this
    rw[j,g];show qfz n (b+1) s m (hx.low e)
   | true =>
    have g:qcD (n+1) b (jn V x)=1+qcD n (b+1) (λv=>jn V x v/\v.testBit b=false):=yH ⟨x,.inr (by rw[qa8];show s.z),e⟩;have q:¬ V x:=λh=>by rw[c x h] at e;cases e
    rw[j,g,yB q,qbn (W:=V) λv=>?_,Nat.add_comm];constructor
    .rintro ⟨h | h,hb⟩
     .show h
     .have:=c _ h;rw[Yg,hb,e] at this;cases this
    .show λh=>⟨.inl h,c v h⟩
def swp:Nat->Nat->LN->Nat
 | 0,_,_=>0
 | n+1,b,L=>match L.filter (λv=>v.testBit b) with
  | []=>swp n (b+1) L
  | p::t=>1+swp n (b+1) (L.filter (λv=>!v.testBit b)++t.map λv=>v ^^^ p)
open Classical in
theorem qc4:∀(n b:Nat) (L:LN),swp n b L=qcD n b (Spn L)
 | 0,_,_=>rfl
 | n+1,b,L=>by
  cases e:L.filter (λv=>v.testBit b) with
  | nil =>
   have h1:swp (n+1) b L=swp n (b+1) L:=by
    show(match L.filter (λv=>v.testBit b) with | []=>_ | p::t=>_)=_;rw[e]
   have s:qcD (n+1) b (Spn L)=qcD n (b+1) (Spn L):=yB λ⟨v,h,hb⟩=>by
    have:=qbm (V:=λv=>Spn L v/\v.testBit b=false) ((zP L).low b) (λa d=>⟨zF d,by
     cases w:a.testBit b with
     | false=>rfl
     | true =>
      have:a∈L.filter (λv=>v.testBit b):=yo.mpr ⟨d,w⟩;rw[e] at this;cases this⟩) v h
    rw[this.2] at hb;cases hb
   rw[h1,s,qc4 n (b+1) L]
  | cons p t =>
   have h1:swp (n+1) b L=1+swp n (b+1) (L.filter (λv=>!v.testBit b)++t.map λv=>v ^^^ p):=by
    show(match L.filter (λv=>v.testBit b) with | []=>_ | p::t=>_)=_;rw[e]
   have u:∀ q∈p::t,q∈L/\q.testBit b=true:=λq l=>by rw[<- e] at l;show yo.mp l
   have j:=u p (yC ..);have s:qcD (n+1) b (Spn L)=1+qcD n (b+1) (λv=>Spn L v/\v.testBit b=false):=yH ⟨p,zF j.1,j.2⟩;rw[h1,s,qc4 n (b+1)]
   congr 1
   show qbn λv=>⟨λh=>?_,λh=>?_⟩
   .show qbm (V:=λv=>Spn L v/\v.testBit b=false) ((zP L).low b) (λa d=>?_) v h;rcases yK.mp d with z | z
    .have:=yo.mp z;show⟨zF this.1,by simpa using this.2⟩
    .obtain⟨q,l,rfl⟩:=yE.mp z;have i:=u q (yw _ l);show⟨(zP L).a _ _ (zF i.1) (zF j.1),by rw[Yg,i.2,j.2];rfl⟩
   .generalize A:L.filter (λv=>!v.testBit b)++t.map (λv=>v ^^^ p)=r;have S:=zP r
    have hw:Sb (λv=>(v.testBit b=false->Spn r v)/\(v.testBit b=true->Spn r (v ^^^ p))):=by
     show⟨⟨λ_=>S.z,λh=>by rw[YE] at h;cases h⟩,λx y m o=>?_⟩;have c:=Yg x y b;cases f:x.testBit b<;>cases g:y.testBit b<;>rw[f,g] at c
     .show⟨λ_=>S.a _ _ (m.1 f) (o.1 g),λh=>by rw[c] at h;cases h⟩
     .show⟨λh=>(by rw[c] at h;cases h),λ_=>?_⟩;rw[q9];show S.a _ _ (m.1 f) (o.2 g)
     .show⟨λh=>(by rw[c] at h;cases h),λ_=>?_⟩;rw[qbH];show S.a _ _ (m.2 f) (o.1 g)
     .show⟨λ_=>?_,λh=>by rw[c] at h;cases h⟩;have:=S.a _ _ (m.2 f) (o.2 g);rw[qa9 y p,<- q9,j8] at this;show this
    have:=qbm hw (L:=L) (λa d=>?_) v h.1
    .show this.1 h.2
    .subst A;show⟨λhb=>zF (Yz _ (yo.mpr ⟨d,by rw[hb];rfl⟩)),λhb=>?_⟩;have:a∈p::t:=by rw[<- e];show yo.mpr ⟨d,hb⟩
     rcases yy.mp this with rfl | h3
     .rw [qa8];show S.z
     .show zF (yQ _ (yE.mpr ⟨a,h3,rfl⟩))
def rk(L:LN):Nat:=swp 30 0 L
theorem qhJ(h:v<2 ^ 30):Bnd 0 30 v:=λi a=>⟨Yi _,by
 by_cases hl:i<30
 .omega
 .have:=YU (yi h (YR (by decide) (XU hl)));rw[this] at a;cases a⟩
theorem bnd_sb:Sb (Bnd b n):=⟨λi a=>(by rw[YE] at a;cases a),λx y c d=>c.xor d⟩
open Classical in
theorem qgI(b:∀ v∈L,v<2 ^ 30)(d:x<2 ^ 30):rk (L++[x])=rk L+if Spn L x then 0 else 1:=by
 unfold rk;rw[qc4,qc4,qbn λv=>qc3];show qfz 30 0 (zP L) (qbm bnd_sb λa c=>qhJ (b a c)) (qhJ d)
theorem rk_in(a:∀ v∈L,v<2 ^ 30)(b:x<2 ^ 30)(h:Spn L x):rk (L++[x])=rk L:=by
 rw[qgI a b,yH h];rfl
theorem rk_out(a:∀ v∈L,v<2 ^ 30)(b:x<2 ^ 30)(h:¬ Spn L x):rk (L++[x])=rk L+1:=by
 rw[qgI a b,yB h]
def les:Nat×Nat->List (Nat×Nat)->Nat×Nat
 | s,[]=>s
 | s,o::os=>if s.1 ^^^ o.1<s.1 then les (s.1 ^^^ o.1,s.2 ^^^ o.2) os else les s os
structure Ech(os:List (Nat×Nat)):Prop where
 nz:∀ o∈os,o.1≠0
 pw:os.Pairwise λa b=>b.1.testBit a.1.log2=false
theorem qfA{y i:Nat}(c:x.testBit i=false)(d:y.testBit i=true)(h:∀ j,i<j->x.testBit j=y.testBit j):x<y:=by
 have e:x / 2 ^ (i+1)=y / 2 ^ (i+1):=YQ λj=>by
  rw[Nat.testBit_div_two_pow,Nat.testBit_div_two_pow];show h _ (by lk)
 have h1:x % 2 ^ (i+1)<2 ^ i:=Xs _ λj g=>by
  rw[Nat.testBit_mod_two_pow];by_cases e:j=i
  .rw [e,c,kr]
  .rw [yk (by lk)];rfl
 have f:2 ^ i<=y % 2 ^ (i+1):=XU λz=>by
  have:=YU z;rw[Nat.testBit_mod_two_pow,d,yv (by lk)] at this;cases this
 have a:=k9 x (2 ^ (i+1));have b:=k9 y (2 ^ (i+1));rw[e] at a;lk
theorem qaS{o:Nat}(c:o≠0):x ^^^ o<x↔x.testBit o.log2=true:=by
 have hb:o.testBit o.log2=true:=kT c;have b:∀ j,o.log2<j->o.testBit j=false:=λj a=>YU (yi Nat.lt_log2_self (YR (by decide) a));constructor
 .intro h
  cases e:x.testBit o.log2 with
  | true=>rfl
  | false =>
   have:x<x ^^^ o:=qfA (i:=o.log2) e (by rw[Yg,e,hb];rfl) λj a=>by rw[Yg,b j a,YS]
   lk
 .intro h;show qfA (i:=o.log2) (by rw[Yg,h,hb];rfl) h λj a=>by rw[Yg,b j a,YS]
theorem Ech.tail{o:Nat×Nat}{b:List (Nat×Nat)}(h:Ech (o::b)):Ech b:=⟨λa c=>h.nz a (yw _ c),(Xj.mp h.pw).2⟩
theorem bit_sb(b:Nat):Sb (λv=>v.testBit b=false):=⟨YE b,λx y h1 a=>by rw[Yg,h1,a];rfl⟩
theorem qcr:∀(a:List (Nat×Nat)) (s:Nat×Nat),Spn (a.map (·.1)) (s.1 ^^^ (les s a).1)
 | [],s=>qa8 s.1
 | o::a,s=>by
  unfold les;split
  .have:=qcr a (s.1 ^^^ o.1,s.2 ^^^ o.2);show .inr ?_;rw[qbH];show this
  .show .inl (qcr a s)
theorem qbZ:∀(b:List (Nat×Nat)) (s:Nat×Nat),Ech b->Spn (b.map (·.1)) s.1->(les s b).1=0
 | [],s,_,h=>h
 | o::b,s,e,h=>by
  have d:=e.nz o (yC ..)
  have c:∀ v,Spn (b.map (·.1)) v->v.testBit o.1.log2=false:=qbm (bit_sb _) λa g=>by
   obtain⟨q,i,rfl⟩:=yE.mp g;show(Xj.mp e.pw).1 q i
  have hb:o.1.testBit o.1.log2=true:=kT d;unfold les;rcases h with h | h
  .rw [yB λz=>by have:=c _ h;rw[(qaS d).mp z] at this;cases this];show qbZ b s e.tail h
  .have:s.1.testBit o.1.log2=true:=by
    have:=c _ h;rw[Yg,hb] at this
    cases f:s.1.testBit o.1.log2 with
    | true=>rfl
    | false=>rw[f] at this;cases this
   rw[yH ((qaS d).mpr this)];show qbZ b _ e.tail h
theorem qb0:∀(c:List (Nat×Nat)) (s:Nat×Nat) (b:Nat),(∀ o∈c,o.1.testBit b=false)->(les s c).1.testBit b=s.1.testBit b
 | [],s,b,_=>rfl
 | o::c,s,b,h=>by
  unfold les;split
  .rw [qb0 c _ b λa d=>h a (yw _ d),Yg,h o (yC ..),YS]
  .show qb0 c s b λa d=>h a (yw _ d)
theorem qeb:∀(b:List (Nat×Nat)) (s:Nat×Nat),Ech b->∀ o∈b,(les s b).1.testBit o.1.log2=false
 | o::b,s,e,q,hq=>by
  have c:=e.nz o (yC ..);have hb:o.1.testBit o.1.log2=true:=kT c;rcases yy.mp hq with rfl | hq
  .have hn:∀ a∈b,a.1.testBit q.1.log2=false:=(Xj.mp e.pw).1;unfold les;split
   .rename_i h
    rw[qb0 b _ _ hn,Yg,hb,(qaS c).mp h];rfl
   .rename_i h
    rw[qb0 b _ _ hn]
    cases d:s.1.testBit q.1.log2 with
    | false=>rfl
    | true=>show absurd ((qaS c).mpr d) h
  .unfold les;split
   .show qeb b _ e.tail q hq
   .show qeb b _ e.tail q hq
def csm:LN->Nat->Nat->Nat
 | [],_,_=>0
 | a::L,k,c=>(if c.testBit k then a else 0) ^^^ csm L (k+1) c
theorem qfB:∀(L:LN) (k c d:Nat),csm L k (c ^^^ d)=csm L k c ^^^ csm L k d
 | [],_,_,_=>(Xi 0).symm
 | a::L,k,c,d=>by
  unfold csm;rw[qfB L,Yg];cases c.testBit k<;>cases d.testBit k
  .show 0 ^^^ (csm L (k+1) c ^^^ csm L (k+1) d)=(0 ^^^ csm L (k+1) c) ^^^ (0 ^^^ csm L (k+1) d);rw[xC,xC,xC]
  .show a ^^^ (csm L (k+1) c ^^^ csm L (k+1) d)=(0 ^^^ csm L (k+1) c) ^^^ (a ^^^ csm L (k+1) d);rw[xC,<- q9,<- q9,qa9 a]
  .show a ^^^ (csm L (k+1) c ^^^ csm L (k+1) d)=(a ^^^ csm L (k+1) c) ^^^ (0 ^^^ csm L (k+1) d);rw[xC,<- q9]
  .show 0 ^^^ (csm L (k+1) c ^^^ csm L (k+1) d)=(a ^^^ csm L (k+1) c) ^^^ (a ^^^ csm L (k+1) d);rw[xC,qa9 a (csm L (k+1) d),<- q9,qa9 a,qbH (csm L (k+1) c) a,j8]
theorem qbI(n i:Nat):(1 <<< n).testBit i=decide (i=n):=by
 rw[Nat.testBit_shiftLeft];by_cases h:i=n
 .subst h;simp
 .by_cases a:n<=i
  .have:i-n=(i-n-1)+1:=by lk
   rw[yv a,yk h,this,Nat.testBit_succ];simp
  .rw [yk a,yk h];rfl
theorem qeJ:∀(L:LN) (k n:Nat),n<k->csm L k (1 <<< n)=0
 | [],_,_,_=>rfl
 | a::L,k,n,h=>by
  unfold csm;rw[qeJ L (k+1) n (by lk),qbI,yk (by lk),yB (by decide),Xi]
theorem qfC:∀(L:LN) (k n:Nat) {v:Nat},L[n]?=some v->csm L k (1 <<< (k+n))=v
 | a::L,k,0,v,h=>by
  cases h;unfold csm;rw[qeJ L (k+1) _ (by lk),qbI,yv (by lk)];show Xi _
 | a::L,k,n+1,v,h=>by
  unfold csm;rw[qbI,yk (by lk),show k+(n+1)=(k+1)+n by lk,qfC L (k+1) n h];show xC _
theorem qec:∀(b:List (Nat×Nat)) (s:Nat×Nat),(∀ o∈b,csm L 0 o.2=o.1)->csm L 0 s.2=s.1->csm L 0 (les s b).2=(les s b).1
 | [],s,_,h=>h
 | o::b,s,ho,h=>by
  unfold les;split
  .show qec b _ (λa c=>ho a (yw _ c)) (by rw[qfB,h,ho o (yC ..)])
  .show qec b s (λa c=>ho a (yw _ c)) h
theorem qc5:∀(b:List (Nat×Nat)) (s:Nat×Nat) (n i:Nat),(∀ o∈b,o.2<2 ^ n)->n<=i->(les s b).2.testBit i=s.2.testBit i
 | [],s,_,_,_,_=>rfl
 | o::b,s,n,i,h,hi=>by
  unfold les;split
  .rw [qc5 b _ n i (λa c=>h a (yw _ c)) hi,Yg,YU (yi (h o (yC ..)) (YR (by decide) hi)),YS]
  .show qc5 b s n i (λa c=>h a (yw _ c)) hi
def stp(st:List (Nat×Nat))(n v:Nat):List (Nat×Nat):=if (les (v,1 <<< n) st).1=0 then st else st++[les (v,1 <<< n) st]
def sts(L:LN):Nat->List (Nat×Nat)
 | 0=>[]
 | n+1=>stp (sts L n) n (L.getD n 0)
structure Stp(L:LN)(n:Nat)(st:List (Nat×Nat)):Prop where
 ech:Ech st
 sum:∀ o∈st,csm L 0 o.2=o.1
 low:∀ o∈st,o.2<2 ^ n
 lt:∀ o∈st,o.1<2 ^ 30
 spn:∀ v,Spn (st.map (·.1)) v↔Spn (L.take n) v
 free:st.map (λo=>o.2.log2)=(List.range n).filter λi=>decide (rk (L.take i)<rk (L.take (i+1)))
 len:st.length<=n
theorem lt_bits(h:∀ i,n<=i->v.testBit i=false):v<2 ^ n:=Xs v h
theorem qfD:∀(b:List (Nat×Nat)) (s:Nat×Nat),(∀ o∈b,o.1<2 ^ n)->s.1<2 ^ n->(les s b).1<2 ^ n
 | [],s,_,h=>h
 | o::b,s,ho,h=>by
  unfold les;split
  .show qfD b _ (λa c=>ho a (yw _ c)) (kt h (ho o (yC ..)))
  .show qfD b s (λa c=>ho a (yw _ c)) h
theorem qfE(u:∀ v∈L,v<2 ^ 30):∀ n,n<=L.length->Stp L n (sts L n)
 | 0,_=>⟨⟨λ_ h=>(nomatch h),.nil⟩,λ_ h=>(nomatch h),λ_ h=>(nomatch h),λ_ h=>(nomatch h),λ_=>by rw[List.take_zero];show Ki,rfl,yg _⟩
 | n+1,hn=>by
  have I:=qfE u n (by lk);obtain⟨v,hv⟩:∃ v,L[n]?=some v:=⟨_,yb (by lk)⟩;have C:L.getD n 0=v:=by rw[yY,hv];rfl
  have m:v<2 ^ 30:=u v (ye hv);have s:L.take (n+1)=L.take n++[v]:=by rw[yL,hv];rfl
  have p:∀ a∈L.take n,a<2 ^ 30:=λa w=>u a (X6 w);show Stp L (n+1) (stp (sts L n) n (L.getD n 0));rw[C];generalize sts L n=st at I
  have A:(les (v,1 <<< n) st).1=0↔Spn (L.take n) v:=by
   rw[<- I.spn];constructor
   .intro h;have:=qcr st (v,1 <<< n);rw[h,Xi] at this;show this
   .show qbZ st (v,1 <<< n) I.ech
  have c:∀ o∈st,o.2<2 ^ (n+1):=λo d=>yi (I.low o d) (YR (by decide) (by lk));unfold stp;split
  .rename_i h
   have t:=A.mp h;have B:rk (L.take (n+1))=rk (L.take n):=by rw[s];show rk_in p m t
   show⟨I.ech,I.sum,c,I.lt,λx=>?_,?_,Nat.le_succ_of_le I.len⟩
   .rw [I.spn,s,qc3];show⟨.inl,λh=>h.elim id λh=>?_⟩;have:=(zP (L.take n)).a _ _ h t
    rwa[j8] at this
   .rw [xN,Yd,<- I.free];have:decide (rk (L.take n)<rk (L.take (n+1)))=false:=yk (by lk);rw[yZ,this];simp
  .rename_i h
   have t:¬ Spn (L.take n) v:=λz=>h (A.mpr z);have B:rk (L.take (n+1))=rk (L.take n)+1:=by rw[s];show rk_out p m t
   have j:=qec (L:=L) st (v,1 <<< n) I.sum (by have:=qfC L 0 n hv;rw[xS] at this;show this);have hb:(les (v,1 <<< n) st).2.testBit n=true:=by rw[qc5 st _ n n I.low (yg _)];show(1 <<< n).testBit n=true;rw[qbI];simp
   have l:(les (v,1 <<< n) st).2<2 ^ (n+1):=lt_bits λi F=>by rw[qc5 st _ n i I.low (by lk)];show(1 <<< n).testBit i=false;rw[qbI];simp;lk
   have e:=qeb st (v,1 <<< n) I.ech;have f:=qfD (n:=30) st (v,1 <<< n) I.lt m;have r:=qcr st (v,1 <<< n);generalize les (v,1 <<< n) st=y at h j hb l e f r
   have q:y.2.log2=n:=by
    have h0:y.2≠0:=λz=>by rw[z,YE] at hb;cases hb
    have h1:y.2.log2<n+1:=(Nat.log2_lt h0).mpr l
    have E:n<=y.2.log2:=by
     show XU λD=>?_;have:=YU (x:=y.2) (i:=n) ((Nat.log2_lt h0).mp D);rw[this] at hb;cases hb
    lk
   show⟨⟨λo d=>?_,?_⟩,λo d=>?_,λo d=>?_,λo d=>?_,λx=>?_,?_,?_⟩
   .rcases yK.mp d with z | z
    .show I.ech.nz o z
    .rw [yr.mp z];show h
   .show X7.mpr ⟨I.ech.pw,List.pairwise_singleton _ _,λa w b hb=>?_⟩;rw[yr.mp hb];show e a w
   .rcases yK.mp d with z | z
    .show I.sum o z
    .rw [yr.mp z];show j
   .rcases yK.mp d with z | z
    .show c o z
    .rw [yr.mp z];show l
   .rcases yK.mp d with z | z
    .show I.lt o z
    .rw [yr.mp z];show f
   .rw [yt,s,qc3];show Spn (st.map (·.1)++[y.1]) x↔_;rw[qc3];have g:Spn (L.take n) (v ^^^ y.1):=(I.spn _).mp r;show⟨λz=>z.imp (I.spn _).mp λz=>?_,λz=>z.imp (I.spn _).mpr λz=>?_⟩
    .have:=(zP (L.take n)).a _ _ ((I.spn _).mp z) g
     rwa[qa9 v,<- q9,j8] at this
    .show(I.spn _).mpr ?_;have:=(zP (L.take n)).a _ _ z g
     rwa[<- q9,j8] at this
   .rw [xN,Yd,<- I.free,yt];have:decide (rk (L.take n)<rk (L.take (n+1)))=true:=yv (by lk);rw[yZ,this];simp[q]
   .rw [yx];have:=I.len;simp;lk
def qe7(L:LN)(g:Nat):Nat:=(les (g,0) (sts L L.length)).2
theorem qdN(a:∀ v∈L,v<2 ^ 30)(g:Nat):(les (g,0) (sts L L.length)).1=0↔Spn L g:=by
 have I:=qfE a L.length (yg _);have e:=I.spn g;rw[yD] at e;rw[<- e];constructor
 .intro h;have:=qcr (sts L L.length) (g,0);rw[h,Xi] at this;show this
 .show qbZ (sts L L.length) (g,0) I.ech
def xsm(L:LN):Nat:=L.foldl (· ^^^ ·) 0
theorem qb1:∀(L:LN) (a:Nat),L.foldl (· ^^^ ·) a=a ^^^ xsm L
 | [],a=>(Xi a).symm
 | b::L,a=>by
  show L.foldl (· ^^^ ·) (a ^^^ b)=a ^^^ L.foldl (· ^^^ ·) (0 ^^^ b);rw[qb1 L (a ^^^ b),xC,qb1 L b,q9]
theorem xsm_snoc(L:LN)(a:Nat):xsm (L++[a])=xsm L ^^^ a:=by unfold xsm;rw[List.foldl_append];rfl
end L2
namespace L2
open PySem PySem.Spec PyProof.Rows
variable{n:Nat}
section
variable{X:Cx}
end
section
variable{X:Cx}{K:yf}
end
theorem qeK{b i j:Nat}{K:yf}(m:i<b:=by decide)(o:j<b:=by decide):qfq b (qhO K n (qg7 (qcB i) (qg7 (qcB j) qia))):=by
 intro x s H Q ⟨a,xs,e,g,hn,v,r,c,l,h,d,q⟩;obtain⟨f,q⟩:=q;show⟨a,xs,e,g,hn,v,r,c,l,h,d,f,q,?_,λk p=>?_⟩
 .rw [kc,kc]
 .rw [xp (by lk),xp (by lk)]
section
variable{K:yf}{a:Addr}{xs:List V}{g:TG}{tc:TT}{te:TE}{σ':St}{H1:Hp}{Q:V->Hp->Prop}
end
theorem xor_and_add(a b:Nat):(a ^^^ b)+2*(a &&& b)=a+b:=by
 induction a using Nat.strongRecOn generalizing b with
 | ind a ih =>
  by_cases h:a=0
  .subst h;simp
  .have i:=ih (a / 2) (by lk) (b / 2);have x:=@Nat.xor_div_two a b;have y:=@Nat.and_div_two a b;have c:=@Nat.xor_mod_two_eq_one a b;have d:=@Nat.and_mod_two_eq_one a b;rw[<- x,<- y] at i;generalize a ^^^ b=p at *;generalize a &&& b=q at *;lk
theorem qeL(a b:Nat):Builtin.bitXor (a:Int) (b:Int)=((a ^^^ b:Nat):Int):=by
 have h:=xor_and_add a b;rw[PyProof.Rows.bitXor_and,PyProof.Rows.bitAnd_pp (by lk) (by lk),Ym,Ym];lk
theorem bit_nat(m j:Nat):decide (Builtin.bitAnd ((m:Int) / 2 ^ (j:Int).toNat) 1=1)=m.testBit j:=by
 rw[PyProof.Rows.bitAnd_m1,Nat.testBit_eq_decide_div_mod_eq];rw[Ym]
 have e:((m:Int) / 2 ^ j) % 2=((m / 2 ^ j % 2:Nat):Int):=by
  rw[Int.natCast_emod,Int.natCast_ediv,XA];rfl
 rw[e];by_cases h:m / 2 ^ j % 2=1
 .rw [h];rfl
 .rw [yk h,yk (by lk)]
section
variable{K:yf}{a b:Addr}{xs ys:List V}{g:TG}{tc:TT}{te:TE}{σ':St}{H1:Hp}{Q:V->Hp->Prop}
theorem comp_zip(D:ys.length<=xs.length)(d:Nat->List V->Hp->Prop)(h0:d 0 [] H1)(hl:∀ i c H,i<=ys.length->d i c H->SqL K H a xs/\SqL K H b ys)
  (z:∀ i x y t c H,xs[i]?=some x->ys[i]?=some y->H t=none->d i c H->g (.ref t) σ' (upd H t (.tup [x,y])) λh o=>tc h o λb n=>if b=true then te h n λv r=>c.length<sizeLine/\d (i+1) (c++[v]) r else d (i+1) c n)
  (s:∀ c H,d ys.length c H->c.length<=sizeLine/\∀ p,H p=none->Q (.ref p) (upd H p (.lst c))):qd5 (Itz K a b) g tc te σ' H1 Q:=by
 show⟨λi m c H=>m=ys.length-i/\i<=ys.length/\d i c H,⟨ys.length,by simp,Yi _,h0⟩,?_⟩;rintro i m c H ⟨rfl,w,p⟩;obtain⟨q,l⟩:=hl i c H w p;by_cases f:i<ys.length
 .have j:i<xs.length:=by lk
  show .inr ⟨⟨xs,ys,xs[i],ys[i],q,l,by simp[j],by simp[f]⟩,d (i+1),λys' H' B=>⟨ys.length-(i+1),by lk,rfl,f,B⟩,λx H' y=>?_⟩;obtain⟨t,v,u,rfl,A,rfl,y,C⟩:=y;show z i v u t c _ (y xs q) (C ys l) A p
 .have e:i=ys.length:=by lk
  subst e;show .inl ⟨⟨xs,ys,q,l,.inr (yg _)⟩,s c H p⟩
end
section
variable{X:Cx}{K:yf}
def rSorted(K:yf):List V->Hp->VK->Prop:=λxs H Q=>∃(p:Addr) (ns:LQ),xs=[.ref p]/\SqL K H p (ns.map V.int)/\ns.length<64/\∀(l:Addr) (a:LQ),H l=none->a.Perm ns->a.Pairwise (·<=·)->Q (.ref l) (upd H l (.lst (a.map V.int)))
theorem qeM(n:X.K=K):zW X (.builtin "sorted") (rSorted K):=by
 subst n;intro g s A H xs us Q I r h;obtain⟨p,ns,rfl,x,l,q⟩:=h;obtain⟨u,rfl,y⟩:=qbf r;cases y;obtain⟨a,i,pl,z⟩:=I.list x;have m:IntsAre a ns:=intsAre_of i;have hl:a.length<64:=by have:=i.length;rw[ya] at this;lk
 show PyProof.Rows.sorted_ints (vs:=a) pl.isList m hl λc d h1 f j=>?_;obtain⟨e,t⟩:=PyProof.Rows.sortedAll_at s.heap a c;have v:H (s.heap.objs.size+1)=none:=I.hok.fresh (YO _);have hv:=qch h1
 have new:ObjOk X.prog X.w (upd H (s.heap.objs.size+1) (.lst (d.map V.int))) (PyProof.Rows.sortedAll s.heap a c) (s.heap.objs.size+1) (.lst (d.map V.int)):=by
  show⟨?_,c.toList,e,hv,?_⟩
  .rw [ya,f.length_eq];show yI (qg (by lk))
  .rw [t]
 show⟨.ref (s.heap.objs.size+1),_,I.laid (t':=s.toks) (λb o e=>PyProof.Rows.sortedAll_old e) (YO _) new,rfl,q _ d v f j⟩
end
section
variable{X:Cx}{K:yf}{e st:Expr}{te:TE}{ts:TO}{p2 pos:Pos}
end
mutual
inductive Dat(H:Hp):V->PyData->Prop
 | non:Dat H .non .none
 | bl (b:Bool):Dat H (.bl b) (.bool b)
 | int (i:Int):Dat H (.int i) (.int i)
 | str (x:Str):Dat H (.str x) (.str x)
 | lst {a:Addr} {xs:List V} {ds:List PyData}:H a=some (.lst xs)->DatS H xs ds->Dat H (.ref a) (.list ds)
 | tup {a:Addr} {xs:List V} {ds:List PyData}:H a=some (.tup xs)->DatS H xs ds->Dat H (.ref a) (.tuple ds)
 | dnil {a:Addr}:H a=some (.dK [])->Dat H (.ref a) (.dict [])
inductive DatS(H:Hp):List V->List PyData->Prop
 | nil:DatS H [] []
 | cons {v:V} {vs:List V} {d:PyData} {ds:List PyData}:Dat H v d->DatS H vs ds->DatS H (v::vs) (d::ds)
end
theorem Dat.same{H H':Hp}(s:Same H H'){v:V}{d:PyData}(h:Dat H v d):Dat H' v d:=
 Dat.rec (H:=H) (motive_1:=λv d _=>Dat H' v d) (motive_2:=λvs c _=>DatS H' vs c) .non .bl .int .str (λe _ r=>.lst (s _ _ e) r) (λe _ r=>.tup (s _ _ e) r) (λe=>.dnil (s _ _ e)) .nil (λ_ _ a b=>.cons a b) h
theorem DatS.same{H H':Hp}(s:Same H H'){vs:List V}{c:List PyData}(h:DatS H vs c):DatS H' vs c:=
 DatS.rec (H:=H) (motive_1:=λv d _=>Dat H' v d) (motive_2:=λvs c _=>DatS H' vs c) .non .bl .int .str (λe _ r=>.lst (s _ _ e) r) (λe _ r=>.tup (s _ _ e) r) (λe=>.dnil (s _ _ e)) .nil (λ_ _ a b=>.cons a b) h
theorem DatS.app{H:Hp}:∀{xs ys:List V} {c d:List PyData},DatS H xs c->DatS H ys d->DatS H (xs++ys) (c++d)
 | _,_,_,_,.nil,h=>h
 | _,_,_,_,.cons a b,h=>.cons a (b.app h)
theorem DatS.strs{H:Hp}:∀(ks:LS),DatS H (ks.map V.str) (ks.map PyData.str)
 | []=>.nil
 | k::ks=>.cons (.str k) (DatS.strs ks)
structure Shw(d:PyData)(n m:Nat):Prop where
 s:d.showable=true
 l:d.leavesShort 13=true
 b:d.bulk<=n
 p:d.depth<=m
structure ShwS(ds:List PyData)(n m:Nat):Prop where
 s:PyData.showableAll ds=true
 l:PyData.leavesShortAll 13 ds=true
 b:PyData.bulkAll ds<=n
 p:PyData.depthAll ds<=m
theorem ShwS.nil{m:Nat}:ShwS [] 0 m:=⟨rfl,rfl,yg _,Yi _⟩
theorem ShwS.cons{d:PyData}{a:List PyData}{n n' m:Nat}(h:Shw d n m)(r:ShwS a n' m):ShwS (d::a) (n+1+n') m:=
  ⟨by show(PyData.showable d&&PyData.showableAll a)=true;rw[h.s,r.s];rfl,by show(PyData.leavesShort 13 d&&PyData.leavesShortAll 13 a)=true;rw[h.l,r.l];rfl,
   by have:=h.b;have:=r.b;show PyData.bulk d+1+PyData.bulkAll a<=_;lk,
   by have:=h.p;have:=r.p;simp only[PyData.depthAll];lk⟩
theorem ShwS.mono{a:List PyData}{n n' m c:Nat}(h:ShwS a n m)(hn:n<=n')(hm:m<=c):ShwS a n' c:=⟨h.s,h.l,yh h.b hn,yh h.p hm⟩
theorem Shw.mono{d:PyData}{n n' m a:Nat}(h:Shw d n m)(hn:n<=n')(hm:m<=a):Shw d n' a:=⟨h.s,h.l,yh h.b hn,yh h.p hm⟩
theorem ShwS.list{a:List PyData}{n m:Nat}(h:ShwS a n m):Shw (.list a) n (m+1):=
 ⟨by simpa only[PyData.showable] using h.s,by simpa only[PyData.leavesShort] using h.l,by simpa only[PyData.bulk] using h.b,by have:=h.p;simp only[PyData.depth];lk⟩
theorem ShwS.tuple{a:List PyData}{n m:Nat}(h:ShwS a n m):Shw (.tuple a) n (m+1):=
 ⟨by simpa only[PyData.showable] using h.s,by simpa only[PyData.leavesShort] using h.l,by simpa only[PyData.bulk] using h.b,by have:=h.p;simp only[PyData.depth];lk⟩
theorem Shw.non{m:Nat}:Shw .none 0 m:=⟨rfl,rfl,yg _,Yi _⟩
theorem Shw.bl{b:Bool}{m:Nat}:Shw (.bool b) 0 m:=⟨rfl,rfl,yg _,Yi _⟩
theorem Shw.int{i:Int}{m:Nat}(h1:-999999999999<=i)(a:i<=999999999999):Shw (.int i) 0 m:=
 ⟨yv (log2_small (yi (show i.natAbs<2 ^ 40 by lk) (YR (by decide) (by decide)))),yv (PyData.shown_int_le2 h1 a),yg _,Yi _⟩
theorem Shw.str{x:Str}{m:Nat}(h:∀ c∈x.cps.toList,c<16 ^ 8):Shw (.str x) x.length m:=
 ⟨rfl,by simpa only[PyData.leavesShort,Yp,decide_eq_true_eq] using h,yg _,Yi _⟩
theorem Shw.dnil{m:Nat}:Shw (.dict []) 0 (m+1):=⟨rfl,rfl,yg _,by simp[PyData.depth,PyData.depthKv]⟩
section
variable{X:Cx}{K:yf}{pins:List (Addr×Obj)}{σ:List (Option V)}{H:Hp}{s:Shared}
theorem Dat.reads(I:Inv X pins σ H s)(hm:H sysModules=none){v:V}{d:PyData}(h:Dat H v d):∀ u,RelV v u->∃ as,Reads s.heap u d as/\sysModules∉as:=
 Dat.rec (H:=H) (motive_1:=λv d _=>∀ u,RelV v u->∃ as,Reads s.heap u d as/\sysModules∉as) (motive_2:=λvs l _=>∀ us,Vals vs us->∃ as,ReadsAll s.heap us l as/\sysModules∉as)
  (λu r=>⟨[],by cases r;show .none,nofun⟩) (λb u r=>⟨[],by cases r;show .bool b,nofun⟩) (λi u r=>⟨[],by obtain⟨t,rfl⟩:=r;show .int i t,nofun⟩) (λx u r=>⟨[],by obtain⟨t,rfl⟩:=r;show .str x t,nofun⟩)
  (λ{a xs l} e _ w u r=>by
   cases r;obtain⟨z,c,n,D,f⟩:=I.hok a _ e;obtain⟨as,j,hn⟩:=w c D;show⟨a::as,.list f rfl rfl (by rw[List.toList_toArray];show j),λg=>?_⟩;rcases yy.mp g with z | z
   .rw [z,e] at hm;cases hm
   .show hn z)
  (λ{a xs l} e _ w u r=>by
   cases r;obtain⟨c,D,⟨o,m,f,n,p⟩,_⟩:=I.tuple (SqT.of e);obtain⟨as,j,hn⟩:=w c D;show⟨as,.tuple m f p (by rw[List.toList_toArray];show j),hn⟩)
  (λ{a} e u r=>by
   cases r;obtain⟨z,G,vs,C,o,F,ep,m,f,p,N,E,O⟩:=qgg I.hok e;cases C;have J:F.toList=[]:=by cases q:F.toList with | nil=>rfl | cons y ys=>rw[q] at E;cases E
   show⟨a::[]++[],.dict m f.1 p (by rw[J];show .nil) (by rw[J];show .nil),λg=>?_⟩;rcases yy.mp g with z | z
   .rw [<- z] at G;simp at G
   .cases z)
  (λus r=>by cases r;show⟨[],.nil,nofun⟩)
  (λ_ _ A B us r=>by
   cases r with
   | cons r rr =>
    obtain⟨as,j,K⟩:=A _ r;obtain⟨bs,M,L⟩:=B _ rr;show⟨as++bs,.cons j M,λg=>(yK.mp g).elim K L⟩) h
def qgJ:List V->Hp->VK->Prop:=λxs H Q=>∃ v d,xs=[v]/\Dat H v d/\Shw d (2 ^ 20) 60/\Q (.str d.shown) H
theorem k_reprD(n:X.K=K)(C:X.A.units+100<cLine)(f:X.A.guards=some [])(w:∃ o,K.lookup sysModules=some o):zW X (.builtin "repr") qgJ:=by
 subst n;intro pins s σ H xs us Q I r h;obtain⟨v,d,rfl,m,hw,q⟩:=h;obtain⟨u,rfl,a⟩:=qbf r;obtain⟨o,t⟩:=w;have hm:H sysModules=none:=(I.bs _ _ (I.mod.kin _ _ t)).2;have hsz:d.shown.length<=sizeLine:=PyData.shown_fits_bulk (B:=13) (by decide) (by decide) hw.l hw.b;obtain⟨as,j,g⟩:=m.reads I hm u a;have y:=hw.p
 cases m with
 | non=>cases a;show P.repr_of_none ⟨.str _,H,I.tok _,⟨_,rfl⟩,q⟩
 | bl b=>cases a;show P.repr_of_bool ⟨.str _,H,I.tok _,⟨_,rfl⟩,q⟩
 | int i=>obtain⟨tk,rfl⟩:=a;show P.repr_of_int (yj (by simpa only[PyData.showable] using hw.s)) ⟨.str _,H,I.tok _,⟨_,rfl⟩,q⟩
 | str x=>obtain⟨tk,rfl⟩:=a;show P.repr_of_str (hsz:=hsz) ⟨.str _,H,I.tok _,⟨_,rfl⟩,q⟩
 | lst e _=>cases a;show ku j hw.s (λ_=>g) f (by lk) (λ_ _ z=>z) (λh' u tk c=>⟨.str _,H,I.kept (t':=tk) c,⟨_,rfl⟩,q⟩) hsz
 | tup e _=>cases a;show ku j hw.s (λ_=>g) f (by lk) (λ_ _ z=>z) (λh' u tk c=>⟨.str _,H,I.kept (t':=tk) c,⟨_,rfl⟩,q⟩) hsz
 | dnil e=>cases a;show ku j hw.s (λ_=>g) f (by lk) (λ_ _ z=>z) (λh' u tk c=>⟨.str _,H,I.kept (t':=tk) c,⟨_,rfl⟩,q⟩) hsz
end
section
variable{X:Cx}{tg elt iter:Expr}{ifs:List Expr}{scope sc1:Scope}{pos:Pos}{N N1:LS}{nl:Nat}{ixs:LN}{wi:TI}{g:TG}{tc:TT}{te:TE}{C1:Addr}{s1:Shared}{H1:Hp}{ex1:LI}
end
section
variable{X:Cx}{K:yf}
def rIsNotB:R2:=λx y H Q=>∃ i j,x=.bl i/\y=.bl j/\Q (.bl (i != j)) H
theorem qeN:OpR X (compareOp .IsNot) rIsNotB:=by
 intro a s d H x y v u Q I b c h;obtain⟨i,j,rfl,rfl,q⟩:=h;cases b;cases c;show isnot_bool ⟨.bl _,H,I,rfl,q⟩
end
section
variable{prog:Program}{w:World}{A:Around}{E:Value->Shared->Prop}{s:Shared}
end
section
variable{prog:Program}{w:World}{A:Around}{R:Result->Shared->Prop}{z TI TO i1 i2 a b S N:Nat}{xs ys:Array Value}{h0:Heap}
end
section
variable{prog:Program}{w:World}{A:Around}{E:Value->Shared->Prop}{s:Shared}
end
theorem Inv.freeze{X:Cx}{f:List (Addr×Obj)}{l:St}{H:Hp}{s:Shared}{d:Addr}{kvs:List (Key×V)}{o:Obj}(I:Inv X f l H s)(e:H d=some (.dK kvs))(y:s.heap.get? d=some o):Inv X f l (upd H d (.frz o (.dK kvs))) s:=by
 have h:∀ b,H b=none->upd H d (.frz o (.dK kvs)) b=none:=λb hb=>by
  rw[qk (λz=>by rw[z,e] at hb;cases hb)];show hb
 have g:∀ b u,u≠.dK kvs->H b=some u->upd H d (.frz o (.dK kvs)) b=some u:=λb u B hb=>by
  rw[qk (λz=>by rw[z,e] at hb;show B (yl hb).symm)];show hb
 have st:∀ a u,ObjOk X.prog X.w H s.heap a u->ObjOk X.prog X.w (upd H d (.frz o (.dK kvs))) s.heap a u:=λa u x =>
  x.stay (λ_ _ _ q=>q) (λb q=>g b _ (λz=>by cases z) q) λb xs q=>g b _ (λz=>by cases z) q
 show⟨I.ok,I.os,I.bare,⟨I.base.keep,I.base.slot,λb i q n C=>h b (I.base.free b i q n C),I.base.there,λb xs q=>g b _ (λz=>by cases z) (I.base.tups b xs q),λb i u q=>g b _ (λz=>by cases z) (I.base.frzs b i u q),λb ps q=>?_⟩,I.loc,I.cell,h _ I.free,λx c q=>h _ (I.freeC x c q),λp A=>?_,λa u q=>?_,I.len⟩
 .obtain⟨more,z⟩:=I.base.tbls b ps q;show⟨more,g b _ (λz=>by cases z) z⟩
 .obtain⟨h1,m,r,t,v⟩:=I.pin p A;show⟨h1,h _ m,r,t,v⟩
 .by_cases j:a=d
  .subst j;rw[qb] at q;cases q;show⟨y,st _ _ (I.hok _ _ e)⟩
  .rw [qk j] at q;show st _ _ (I.hok _ _ q)
def Itk(d:Addr)(o:Obj)(kvs:List (Key×V)):It:=
 ⟨λi H=>H d=some (.frz o (.dK kvs))/\i<kvs.length,λi H x H'=>H'=H/\∃ k v,kvs[i]?=some (k,v)/\x=kV k,λi H=>H d=some (.frz o (.dK kvs))/\kvs.length=i⟩
theorem qad{a b:Type}{F:a->b->Prop}:∀{l:List a} {m:List b},Paired F l m->l.length=m.length
 | _,_,.nil=>rfl
 | _,_,.cons _ t=>congrArg (· + 1) (qad t)
theorem qdO{a b:Type}{F:a->b->Prop}:∀{l:List a} {m:List b},Paired F l m->∀{i:Nat} {x:a},l[i]?=some x->∃ y,m[i]?=some y/\F x y
 | _,_,.nil,i,x,h=>by simp at h
 | _,_,.cons r t,0,x,h=>by simp at h;subst h;show⟨_,rfl,r⟩
 | _,_,.cons r t,i+1,x,h=>by simp at h;simpa using qdO t h
theorem turn_keys{P:Program}{w:World}{K:yf}{tg:Expr}(d it:Addr)(o:Obj)(kvs:List (Key×V)){F:Array DictEntry}{ep:Nat}(B:o.data=.dict F ep):Turn P w K tg (Itk d o kvs) [it] it (λi h=>h.IsKeyIter it d i kvs.length ep) where
 mem:=by simp
 obj:=λi h st b hb=>by
  have e:b=it:=by simpa using hb
  subst e;obtain⟨o,e,c,d⟩:=st;show⟨o,e,λv z=>by rw[d] at z;cases z⟩
 keep:=λi h h' st k=>by
  obtain⟨o,e,c,d⟩:=st;show⟨o,k it (by simp) o e,c,d⟩
 item:=by
  intro X T hw S hc i j s σ H E I C st U;subst T hw S;obtain⟨R,hi⟩:=U;obtain⟨g,hz,aa,vs,A,o',G,D,f,l,a,W,Z,m⟩:=I.hok d _ R;rw[g] at f;cases f;rw[B] at a;cases a;obtain⟨⟨k,v⟩,y⟩:∃ q,kvs[i]?=some q:=⟨_,yb hi⟩;obtain⟨⟨k',u⟩,hu,Y,ru⟩:=qdO A y;have r:k=k':=Y;subst r;obtain⟨J,L,f2,M,N,O⟩:=C it (by simp);rw[qad A] at st;show wpAny_pyNext_dict_item (knd:=qU X.prog X.w) st ⟨o,F,g,l,B,W,Z,m⟩ hu λkey h' p n sb=>?_;have I1:Inv X j σ H { s with heap:=h' }:=I.turned (t':=s.toks) (λb o hb e=>(sb.2 b hb).trans e) J L M N O
  have rk:RelV (kV k) key:=by
   rcases qX p with⟨i,t,rfl,rfl⟩ | ⟨x,t,rfl,rfl⟩
   .show⟨t,rfl⟩
   .show⟨t,rfl⟩
  rw[<- qad A] at n;obtain⟨o2,e2,c2,d2⟩:=id n;show⟨key,rfl,qgd (s:={ s with heap:=h' }) e2 c2 d2 (by decide) ⟨kV k,H,I1,rk,⟨rfl,k,v,y,rfl⟩,n,λb hb=>(C b hb).1⟩⟩
 done:=by
  intro X T hw S hc i j s σ H E I C st U;subst T hw S;obtain⟨R,hi⟩:=U;obtain⟨g,hz,aa,vs,A,o',G,D,f,l,a,W,Z,m⟩:=I.hok d _ R;rw[g] at f;cases f;rw[B] at a;cases a;obtain⟨J,L,f2,M,N,O⟩:=C it (by simp);have hl:=qad A;rw[hl] at st;show wpAny_pyNext_dict_end (knd:=qU X.prog X.w) (I.ok.hd hc) st ⟨o,F,g,l,B,W,Z,m⟩ (by rw[List.getElem?_eq_none_iff];lk) λh' eb=>⟨rfl,I.turned (t':=s.toks) (λb o hb e=>eb b o hb e) J L M N O⟩
 self:=λ_ _ _ _ _ st h=>wpAny_pyIter_keyiter st h
def qio(c:TE):TI:=λd H R=>c d H λv b=>∃ a kvs,v=.ref a/\b a=some (.dK kvs)/\∀ o,R (Itk a o kvs) (upd b a (.frz o (.dK kvs)))
theorem qgK{X:Cx}{D e:Expr}{r:TE}(u:PE X e r):PI X D e (qio r):=by
 intro d s E H R I h;show thn (u d s E H _ I h) λv f ⟨y,F,m,B,A⟩=>?_;obtain⟨a,kvs,rfl,n,q⟩:=A;cases B;obtain⟨G,l,vs,C,o,t,ep,p,i,c,x,z,j⟩:=m.hok a _ n;have hl:=qad C;have g:=m.freeze n p;show wpAny_pyIter_dict (knd:=qU X.prog X.w) l ⟨o,t,p,i,c,x,z,j⟩ ?_;show⟨f.heap.objs.size,[f.heap.objs.size],_,_,_,rfl,g.kept (t':=f.toks) λb o e=>yu _ e,turn_keys a _ o kvs c,⟨_,yS _ rfl,rfl,by rw[hl];rfl⟩,λb hb=>?_,q o⟩;have e:b=f.heap.objs.size:=by simpa using hb
 subst e;show g.fpOk (yg _) (g.hok.fresh (yg _))
theorem qhK{c:TE}{d:St}{H:Hp}{R:It->Hp->Prop}(h:c d H λv b=>∃ a kvs,v=.ref a/\b a=some (.dK kvs)/\∀ o,R (Itk a o kvs) (upd b a (.frz o (.dK kvs)))):qio c d H R:=h
theorem qdP{d:Addr}{o:Obj}{kvs:List (Key×V)}{g:TG}{s:TT}{t:TE}{h:St}{n:Hp}{Q:V->Hp->Prop}(c:Nat->List V->Hp->Prop)(h0:c 0 [] n)(hl:∀ i a H,i<=kvs.length->c i a H->H d=some (.frz o (.dK kvs)))
  (B:∀ i k v a H,kvs[i]?=some (k,v)->c i a H->g (kV k) h H λj u=>s j u λb r=>if b=true then t j r λv w=>a.length<sizeLine/\c (i+1) (a++[v]) w else c (i+1) a r)
  (z:∀ a H,c kvs.length a H->a.length<=sizeLine/\∀ p,H p=none->Q (.ref p) (upd H p (.lst a))):qd5 (Itk d o kvs) g s t h n Q:=by
 show⟨λi m a H=>m=kvs.length-i/\i<=kvs.length/\c i a H,⟨kvs.length,by simp,Yi _,h0⟩,?_⟩;rintro i m a H ⟨rfl,A,p⟩;have q:=hl i a H A p;by_cases f:i<kvs.length
 .show .inr ⟨⟨q,f⟩,c (i+1),λys' H' C=>⟨kvs.length-(i+1),by lk,rfl,f,C⟩,λx H' y=>?_⟩;obtain⟨e,k,v,l,rfl⟩:=y;subst e;show B i k v a _ l p
 .have e:i=kvs.length:=by lk
  subst e;show .inl ⟨⟨q,rfl⟩,z a H p⟩
section
variable{X:Cx}{C:Addr}{x:Str}{p pos:Pos}
end
section
variable{prog:Program}{w:World}{A:Around}{E:Value->Shared->Prop}{s:Shared}
theorem list_keys_by{tk:Tok}{a:Addr}{o:Obj}{xs:Array Value}{k:Nat}{Q:Value->Shared->Prop}
  (p:s.heap.get? a=some o) (hc:o.cls=.type "list") (b:o.data=.seq xs k) (n:o.dict=none) (r:A.handled=none)
  (h:∀ h' t e,Heap.NewExcOf s.heap h' e "AttributeError"->E (.ref e) { s with heap:=h',toks:=t }) :
  wpAny (model prog w) A (getAttrBy (.ref a) (.str "keys" tk) false) Q E s:=by
 obtain⟨c,dct,q,x⟩:=o;simp only at hc b n;subst hc b n;obtain⟨u,g,d,y,v⟩:=s;have m:∀ l,(⟨u,g,d,l,v⟩:Shared).TypeIs (.ref a) "list":=λ_=>⟨_,p,rfl⟩;have z:=sub_AttributeError;have B:=F.slot_list_getattribute.lookup;have C:=F.slot_list_getattribute.bind (.ref a);have D:=am_list_getattr_none;have f:typeLookup (.type "list") "keys"=pure none:=am_miss_of_fast (by kernel_rfl);have i:(["__module__","__name__","__qualname__","__doc__","__annotations__"]:LS).contains "keys"=false:=by room
 unfold getAttrBy
 repeat (any_goals (first | assumption | show m _ | ((with_reducible show wpAny _ _ (call (Value.builtin "list.__getattribute__") _ _) _ _ _);show XT F.slot_list_getattribute (m _) am_entry_list_getattribute (F.args_list_getattribute_2 _ _) (meets_getattribute_miss_list a xs k x "keys" _ f i (by room)) ⟨p,r,λh' l e j=>?_⟩) | wp_step))
 obtain⟨t',H,G⟩:=j.there;show wpAny _ _ (getattributeRaised _ _ _ _ _ _ _) _ _ _;unfold getattributeRaised
 repeat (any_goals (first | assumption | wp_step))
 show h _ _ _ j.of
theorem list_keys_none{a:Addr}{o:Obj}{xs:Array Value}{k:Nat}{Q:Option Value->Shared->Prop}
  (j:s.heap.get? a=some o) (hc:o.cls=.type "list") (c:o.data=.seq xs k) (g:o.dict=none) (f:A.handled=none)
  (h:∀ h' tk,(∀ b u,s.heap.get? b=some u->h'.get? b=some u)->Q none { s with heap:=h',toks:=tk }) :
  wpAny (model prog w) A (getAttr? (.ref a) "keys") Q E s:=by
 unfold getAttr?;show yq (wpAny_mkText ?_);unfold getAttrBy?;show yq (kK (list_keys_by j hc c g f λh' t e hn=>?_));obtain⟨l,fs,i,d,_⟩:=hn.there;show yq (wpAny_isInstance (show Shared.TypeIs _ (.ref e) "AttributeError" from⟨_,i,d⟩) sub_AttributeError ?_);show yA (h _ _ hn.keeps)
theorem qb2:plainId "dict.update.loop"=true:=by room
theorem qeO:entryFor table "dict.update.loop"=some Builtin.«dict.update.loop»:=entryFor_of_tree (by kernel_rfl)
theorem dict_loop{ps:List (Key×V)}{v:Array Value}{l it d:Addr}{h0:Heap}{res:Value}{R:Result->Shared->Prop}
  (B:∀(i:Nat) (p:Key×V),ps[i]?=some p->∃(t:Addr) (o:Obj) (n:Nat) (a b:Value),v[i]?=some (.ref t)/\h0.get? t=some o/\o.cls=.type "tuple"/\o.data=.seq #[a,b] n/\qcA p.1 a=true/\RelV p.2 b)
  (D:v.size=ps.length) (hl:h0.IsList l v) (U:A.handled=none) (Z:ps.length<=1000) (I:h0.objs.size<=d) (L:h0.objs.size<=it) (q:it≠d) :
  ∀(m i:Nat) (h:Heap) (t:Tok) (vs:List (Key×Value)),ps.length-i=m->i<=ps.length->(∀ b u,h0.get? b=some u->h.get? b=some u)->h.IsListIter it l i->h.DictOf (qU prog w) d vs->KV (j5 [] (ps.take i)) vs ->
   (∀ h' tk G,(∀ b u,h0.get? b=some u->h'.get? b=some u)->h'.DictOf (qU prog w) d G->KV (j5 [] ps) G->R (.ok (.ret res)) { s with heap:=h',toks:=tk }) ->
   codeAny (model prog w) A (.builtin "dict.update.loop" ⟨[.ref d,.ref it,.int i 0,res],[]⟩) R { s with heap:=h,toks:=t }:=by
 have nd:∀{b u},h0.get? b=some u->b≠d:=λe z=>absurd (yM (z ▸ e)) (Nat.not_lt.mpr I);have S:∀{b u},h0.get? b=some u->b≠it:=λe z=>absurd (yM (z ▸ e)) (Nat.not_lt.mpr L);intro m
 induction m with
 | zero =>
  intro i h t vs hm X C f c hv H;have M:i=ps.length:=by lk
  subst M;show codeAny_builtin qeO ?_;rw[Around.under_plainId qb2 _];show wpAny _ A.in1 (pyNext (.ref it)>>=_) _ _ _;show yq (wpAny_pyNext_list_end (A:=A.in1) U f (let ⟨o,a,r⟩:=hl;⟨o,C _ _ a,r⟩) (by simp[D]) λh' E=>?_);show wpAny _ _ (pure _) _ _ _;show yA (H h' _ vs (λb u e=>E b u (S e) (C b u e)) (c.extBut E (Yv q)) (by rw[yD] at hv;show hv))
 | succ m ih =>
  intro i h t vs hm X C f c hv H;have j:i<ps.length:=by lk
  obtain⟨tt,o,n,a,b,Y,P,hc,K,N,O⟩:=B i ps[i] (yb j);show codeAny_builtin qeO ?_;rw[Around.under_plainId qb2 _];show wpAny _ A.in1 (pyNext (.ref it)>>=_) _ _ _;show yq (wpAny_pyNext_list_item f (let ⟨o,a,r⟩:=hl;⟨o,C _ _ a,r⟩) Y λh' y E=>?_);have g:∀ b u,h0.get? b=some u->h'.get? b=some u:=λb u e=>(E.2 b (S e)).trans (C b u e);have x:=c.sameBut E (Yv q);have W:Shared.TypeIs { s with heap:=h',toks:=t } (.ref tt) "tuple":=⟨o,g _ _ P,hc⟩;show yq (YF ?_);show yq (kq ?_);unfold Builtin.Dict.pairItems;show yq (wpAny_typeOf W ?_);rw[yH (by decide)];show yq (wpAny_seqItems (g _ _ P) K (yA ?_))
  have vl:vs.length<=1000:=by
   have:=hv.length;have:=zw (ps.take i) [];rw[yN] at this;simp only[YT] at this;lk
  show YF (wpAny_dictSet_pairs (knd:=qU prog w) (k:=ps[i].1) N x (λT J F=>?_) (by have:=xi;lk));show yA ⟨plainId_quiet qb2 _,?_⟩
  have:=ih (i+1) T (t+1) _ (by lk) j (λb u e=>(F.2 b (nd e)).trans (g b u e)) (let ⟨o,a,r⟩:=y;⟨o,(F.2 it q).trans a,r⟩) J (by
   have e:j5 [] (ps.take (i+1))=qa6 (j5 [] (ps.take i)) ps[i].1 ps[i].2:=by
    rw[List.take_succ_eq_append_getElem j];unfold j5;rw[List.foldl_append];rfl
   rw[e];show hv.put _ O) H
  show this
theorem call_dict_pairs{ps:List (Key×V)}{f:Array Value}{l:Addr}{Q:Value->Shared->Prop}
  (m:∀(i:Nat) (p:Key×V),ps[i]?=some p->∃(t:Addr) (o:Obj) (n:Nat) (a b:Value),f[i]?=some (.ref t)/\s.heap.get? t=some o/\o.cls=.type "tuple"/\o.data=.seq #[a,b] n/\qcA p.1 a=true/\RelV p.2 b)
  (q:f.size=ps.length) {o:Obj} {n:Nat} (y:s.heap.get? l=some o) (hc:o.cls=.type "list") (d:o.data=.seq f n) (C:o.dict=none) (H:A.handled=none) (G:ps.length<=1000)
  (h:∀ h' tk g,(∀ b u,s.heap.get? b=some u->h'.get? b=some u)->h'.DictOf (qU prog w) s.heap.objs.size g->KV (j5 [] ps) g->Q (.ref s.heap.objs.size) { s with heap:=h',toks:=tk }) :
  wpAny (model prog w) A (call (.type "dict") [.ref l]) Q E s:=by
 show callType_codes (Q₁:=λv j=>v=.ref s.heap.objs.size/\j={ s with heap:=s.heap.push { cls:=.type "dict",data:=.dict #[] } }) F.kt_called_dict (F.kt_typeCall_dict_1 _) F.entry_dict_init (kt_code_dict_new _ ⟨rfl,rfl⟩) ?_;rintro v j ⟨rfl,rfl⟩;have c:(s.heap.push { cls:=.type "dict",data:=.dict #[] }).DictOf (qU prog w) s.heap.objs.size []:=Heap.DictOf.new s.heap;have B:∀ b u,s.heap.get? b=some u->(s.heap.push { cls:=.type "dict",data:=.dict #[] }).get? b=some u:=λb u e=>yu _ e;show⟨c.typeIs,F.args_dict_init_2 _ _,?_⟩;unfold Builtin.«dict.__init__»;show yq ?_;unfold Builtin.Dict.selfAndRest;show yq (wpAny_notOrdered_dict c.typeIs ?_);show wpAny _ _ (pure (s.heap.objs.size,[Value.ref l])) _ _ _;show yA ?_;show wpAny _ _ (Builtin.Dict.updateFrom "dict.__init__" s.heap.objs.size (.ref l) [] .none) _ _ _;unfold Builtin.Dict.updateFrom;show yq (wpAny_typeOf (show Shared.TypeIs _ (.ref l) "list" from⟨o,B _ _ y,hc⟩) ?_);rw[yH (by decide)];show yq (list_keys_none (B _ _ y) hc d C H λh1 M z=>?_);show yq (wpAny_rule ?_);have D:h1.IsList l f:=⟨o,z _ _ (B _ _ y),hc,n,d⟩;show yq (XH D ?_);show yA ⟨plainId_quiet qb2 _,?_⟩;have K:∀ b u,s.heap.get? b=some u->(h1.push { cls:=.type "list_iterator",data:=.fields #[.ref l,.int 0 0] }).get? b=some u:=λb u e=>yu _ (z _ _ (B _ _ e))
 have sz:s.heap.objs.size<h1.objs.size:=by
  obtain⟨L,_,_,e,_⟩:=c;show yM (z _ _ e)
 show dict_loop (A:=A.in1) (R:=wants (λr x=>r=Value.none/\Q (Value.ref s.heap.objs.size) x) E) (res:=.none) (s:=s) (ps:=ps) (h0:=s.heap) m q ⟨o,y,hc,n,d⟩ H G (yg _) (yI sz) (Yv (Yk sz)) ps.length 0 _ _ [] rfl (Yi _) K ⟨_,yS _ rfl,rfl,rfl⟩ ((c.keep z).push _) .nil λh' tk g J I hv=>⟨rfl,h h' tk g J I hv⟩
end
section
variable{X:Cx}{K:yf}{pins:List (Addr×Obj)}{σ:List (Option V)}{H:Hp}{s:Shared}
def rDictP(K:yf):List V->Hp->VK->Prop:=λxs H Q=>∃(l:Addr) (a:LI) (ps:List (Key×V)),xs=[.ref l]/\SqL K H l (a.map V.ref)/\a.length=ps.length/\(∀(i:Nat) t p,a[i]?=some t->ps[i]?=some p->H t=some (.tup [kV p.1,p.2]))/\ps.length<=1000/\∀ d,H d=none->Q (.ref d) (upd H d (.dK (j5 [] ps)))
theorem k_dictP(G:X.K=K)(hc:X.calm=true):zW X (.type "dict") (rDictP K):=by
 subst G;intro pins s σ H xs us Q I r h;obtain⟨l,d,ps,rfl,M,hl,N,a,q⟩:=h;obtain⟨u,rfl,U⟩:=qbf r;cases U;obtain⟨m,B,⟨o,n,e,g,j,b⟩,W⟩:=I.list M;have Y:m.length=d.length:=by rw[<- B.length,ya]
 show call_dict_pairs (ps:=ps) (λi p A=>?_) (by rw[yz];lk) e g b j (I.ok.hd hc) a λh' tk w f J hv=>?_
 .have y:i<d.length:=by rw[hl];show(yc.mp A).1
  have F:=N i d[i] p (yb y) A;obtain⟨O,c,⟨S,C,D,R,E⟩,_⟩:=I.tuple (SqT.of F);obtain⟨v,hv,T⟩:=B.get (i:=i) (x:=V.ref d[i]) (by rw[yd,yb y];rfl);cases T
  cases c with
  | cons ra c =>
   cases c with
   | cons rb c =>
    cases c;show⟨d[i],S,R,_,_,by simpa using hv,C,D,E,?_,rb⟩
    cases f:p.1 with
    | inl k=>rw[f] at ra;obtain⟨t,rfl⟩:=ra;show qdp k t
    | inr k=>rw[f] at ra;obtain⟨t,rfl⟩:=ra;show qdq k t
 .have L:=I.hok.fresh (yg s.heap.objs.size);have P:=zw ps [];show⟨.ref _,_,I.laid (o:=.dK (j5 [] ps)) (t':=tk) f (yg _) ⟨by have:=xi;simp only[YT] at P;lk,Yr.mpr (λz=>absurd I.big (by rw[<- z];show Yw _)),w,hv,J⟩,rfl,q _ L⟩
theorem qgL(f:Nat->Int):∀ i,(firstMet f i).length<=i/\((firstMet f i).length=i↔((List.range i).map f).Nodup)
 | 0=>by simp[firstMet_zero]
 | i+1=>by
  obtain⟨h1,b⟩:=qgL f i;have c:=firstMet_any f i (f i);rw[firstMet_succ,step_length,c,xN,yt]
  have e:(((List.range i).map f).any λx=>x==f i)=true↔f i∈(List.range i).map f:=by
   rw[xn];show⟨λ⟨x,a,z⟩=>by rw[<- (Yq.mp z)];show a,λh=>⟨_,h,xD _⟩⟩
  by_cases h:f i∈(List.range i).map f
  .rw [yH (e.mpr h)];show⟨by lk,⟨λz=>by lk,λz=>?_⟩⟩;have:=(YI.mp z).2.2 _ h _ (yr.mpr rfl);show absurd rfl this
  .rw [yB (λz=>h (e.mp z))];show⟨by lk,⟨λz=>?_,λz=>?_⟩⟩
   .show YI.mpr ⟨b.mp (by lk),by simp,λx a y d z=>h ?_⟩;rw[<- show y=f i from yr.mp d,<- z];show a
   .have:=b.mpr (YI.mp z).1;lk
theorem range_getD(ns:LQ):(List.range ns.length).map (λi=>ns.getD i 0)=ns:=by
 show List.ext_getElem (by simp) λi h1 a=>?_;simp[List.getD,a]
def rSetJ(K:yf):List V->Hp->VK->Prop:=λxs H Q=>∃(p:Addr) (ns:LQ),xs=[.ref p]/\SqL K H p (ns.map V.int)/\ns.length<=100/\∀(l:Addr) (S:Int->Bool) (m:Nat),H l=none->m<=ns.length->(m=ns.length↔ns.Nodup)->Q (.ref l) (upd H l (.set S m))
theorem qgM(j:X.K=K)(hc:X.calm=true):zW X (.type "set") (rSetJ K):=by
 subst j;intro pins s σ H xs us Q I r h;obtain⟨p,ns,rfl,t,h1,q⟩:=h;obtain⟨u,rfl,v⟩:=qbf r;cases v;obtain⟨a,f,pl,w⟩:=I.list t;have m:=qeG f;have hl:a.length=ns.length:=by rw[<- f.length,ya]
 show call_set_list (ns:=ns) (I.ok.hd hc) pl.isList m (by unfold scanBound;simp only[yz];lk) λh' tk d n=>?_;have l:=I.hok.fresh (yg s.heap.objs.size);simp only[yz,hl] at d;obtain⟨g,c⟩:=qgL (λi=>ns.getD i 0) ns.length;rw[range_getD] at c;show⟨.ref _,_,I.laid (o:=.set (λk'=>(firstMet (λi=>ns.getD i 0) ns.length).any λx=>x==k') (firstMet (λi=>ns.getD i 0) ns.length).length) (t':=tk) (λb o e=>n b o (yM e) e) (yg _) d,rfl,q _ _ _ l g c⟩
def rLenJ:List V->Hp->VK->Prop:=λxs H Q=>∃(p:Addr) (S:Int->Bool) (n:Nat),xs=[.ref p]/\H p=some (.set S n)/\Q (.int (n:Int)) H
theorem qgN:zW X (.builtin "len") rLenJ:=by
 intro pins s σ H xs us Q I r h;obtain⟨p,S,n,rfl,d,q⟩:=h;obtain⟨u,rfl,f⟩:=qbf r;cases f;obtain⟨o,g,ep,t,c,e,a,_,_,hb,b,hn⟩:=(I.hok p _ d:s.heap.SetOf (intKind X.prog X.w) p S n);show call_len_set c e a b (by unfold scanBound at hb;lk) ?_;subst hn;show⟨.int _,H,I.tok _,⟨_,rfl⟩,q⟩
def ktP(k:Str):Key×V:=(Sum.inr k,.bl true)
theorem kt_put{ks:LS}{k:Str}:∃ a:LS,qa6 (ks.map ktP) (Sum.inr k) (.bl true)=a.map ktP/\(∀ x∈a,x=k\/x∈ks)/\a.length<=ks.length+1:=by
 unfold qa6;by_cases h:((ks.map ktP).any λc=>decide (c.1=Sum.inr k))=true
 .rw [yH h];show⟨ks,?_,λx b=>.inr b,YO _⟩;rw[YL];show xX λx _=>?_;show(if (Sum.inr x:Key)=Sum.inr k then((Sum.inr x:Key),V.bl true) else ktP x)=ktP x;split<;>rfl
 .rw [yB h];show⟨ks++[k],by rw[yt];rfl,λx b=>?_,by rw[yx];show yg _⟩;rcases yK.mp b with z | z
  .show .inr z
  .show .inl (yr.mp z)
theorem qeP:∀{more ks:LS},∃ a:LS,j5 (ks.map ktP) (more.map ktP)=a.map ktP/\(∀ x∈a,x∈more\/x∈ks)/\a.length<=ks.length+more.length
 | [],ks=>⟨ks,rfl,λx b=>.inr b,yg _⟩
 | k::more,ks=>by
  obtain⟨f,c,h1,h⟩:=kt_put (ks:=ks) (k:=k);obtain⟨g,d,e,i⟩:=qeP (more:=more) (ks:=f);show⟨g,?_,λx b=>?_,by rw[Yb];lk⟩
  .rw [<- d,<- c];rfl
  .rcases e x b with z | z
   .show .inl (yw _ z)
   .rcases h1 x z with y | y
    .show .inl (by rw[y];show yC)
    .show .inr y
def ktD(ks:LS):PyData:=.dict (ks.map λk=>(.str k,.bool true))
theorem qgO:∀{ks:LS} {n:Nat},(∀ k∈ks,k.length<=n/\∀ c∈k.cps.toList,c<16 ^ 8)->PyData.showableKv (ks.map λk=>(.str k,.bool true))=true/\PyData.leavesShortKv 13 (ks.map λk=>(.str k,.bool true))=true/\PyData.bulkKv (ks.map λk=>(.str k,.bool true))<=ks.length*(n+2)
 | [],n,_=>⟨rfl,rfl,Yi _⟩
 | k::ks,n,h=>by
  obtain⟨h1,a,e⟩:=qgO λx b=>h x (yw _ b);obtain⟨f,d⟩:=h k yC;show⟨?_,?_,?_⟩
  .show(PyData.showable (.str k)&&PyData.showable (.bool true)&&_)=true;rw[h1];rfl
  .show(PyData.leavesShort 13 (.str k)&&PyData.leavesShort 13 (.bool true)&&_)=true;rw[a,show PyData.leavesShort 13 (.str k)=true by simpa only[PyData.leavesShort,Yp,decide_eq_true_eq] using d];rfl
  .show k.length+0+2+_<=_;rw[Yb,Nat.add_mul];lk
theorem qeQ{h:Heap}:∀{b:List DictEntry} {vs:List (Key×Value)} {ks:LS},Pairs (qU X.prog X.w) b vs->KV (ks.map ktP) vs->ReadsAll h (b.map (·.key)) ((ks.map λk=>((.str k,.bool true):PyData×PyData)).map (·.1)) []/\ReadsAll h (b.map (·.val)) ((ks.map λk=>((.str k,.bool true):PyData×PyData)).map (·.2)) []
 | _,_,[],hp,hk=>by cases hk;cases hp;show⟨.nil,.nil⟩
 | _,_,k::ks,hp,hk=>by
  cases hk with
  | @cons p0 kv vs0 vs1 a r =>
   cases hp with
   | @cons en _ b _ h1 h2 hp =>
    obtain⟨g,j⟩:=qeQ (h:=h) hp r;obtain⟨c,d⟩:=a;rw[<- c] at h1;rcases qX (show qcA (Sum.inr k) _=true from h1) with⟨i,t,z,_⟩ | ⟨x,t,z,e⟩
    .cases z
    .cases z
     have f:en.val=.bool true:=by
      have z:RelV (.bl true) kv.2:=d;rw[h2];generalize kv.2=u at z;cases z;rfl
     show⟨?_,?_⟩
     .show ReadsAll h (en.key::_) (.str k::_) _;rw[e];show .cons (as:=[]) (bs:=[]) (.str _ _) g
     .show ReadsAll h (en.val::_) (.bool true::_) _;rw[f];show .cons (as:=[]) (bs:=[]) (.bool _) j
def qfF:List V->Hp->VK->Prop:=λxs H Q=>qgJ xs H Q\/∃(a:Addr) (ks:LS),xs=[.ref a]/\H a=some (.dK (ks.map ktP))/\(∀ k∈ks,k.length<=6/\∀ c∈k.cps.toList,c<16 ^ 8)/\ks.length<=100/\Q (.str (ktD ks).shown) H
theorem qc6(d:X.K=K)(v:X.A.units+100<cLine)(g:X.A.guards=some [])(t:∃ o,K.lookup sysModules=some o):zW X (.builtin "repr") qfF:=by
 intro pins s σ H xs us Q I r h;rcases h with h | ⟨a,ks,rfl,e,hks,h100,q⟩
 .show k_reprD d v g t pins s σ H xs us Q I r h
 .subst d;obtain⟨u,rfl,y⟩:=qbf r;cases y;obtain⟨z,f,vs,c,o,J,ep,i,j,l,F,m,G⟩:=qgg I.hok e;obtain⟨w,x⟩:=qeQ (h:=s.heap) m c;obtain⟨C,D,E⟩:=qgO hks;have hb:(ktD ks).bulk<=2 ^ 20:=yh E (by lk)
  have b:(ktD ks).depth<=3:=by
   show PyData.depthKv _+1<=3
   have:∀ ks:LS,PyData.depthKv (ks.map λk=>(.str k,.bool true))<=1:=by
    intro ks
    induction ks with
    | nil=>simp[PyData.depthKv]
    | cons k r ih=>simp only[Ys,PyData.depthKv,PyData.depth];lk
   have:=this ks;lk
  have hsz:(ktD ks).shown.length<=sizeLine:=PyData.shown_fits_bulk (B:=13) (by decide) (by decide) D hb
  show ku (.dict i j.1 l w x) C (λ_=>λn=>by
   rcases yy.mp n with z | z
   .rw [<- z] at f;simp at f
   .cases z) g (by
    have:(PyData.dict (ks.map λk=>(.str k,.bool true))).depth<=3:=b;lk) (λ_ _ z=>z) (λh' u tk p=>⟨.str _,H,I.kept (t':=tk) p,⟨_,rfl⟩,q⟩) hsz
end
def qip(b:TA):TE:=λc H Q=>b c H λvs a=>∃ lo n:Nat,vs=[.int lo,.int ((lo+n:Nat):Int)]/\lo+n<=1000/\∀ l,a l=none->Q (.ref l) (upd a l (.lst ((List.range n).map λi=>V.int ((lo+i:Nat):Int))))
section
variable{X:Cx}{a b:Expr}{ta:TA}{p p2 pos pos2:Pos}
theorem pe_lrng2(hc:X.calm=true)(J:Gl X "list")(f:Gl X "range")(hm:X.mg "list"=none)(g:X.mg "range"=none)(G:PA X [a,b] ta)(M:starEach [a,b] X.env=(false,eval a X.env)::starEach [b] X.env:=by rfl)(l:((backTo pos2 (starEach [b] X.env)).any λx=>x.1)=false:=by rfl)
  (B:starEach [.Call (.Name "range" p2) [a,b] [] pos2] X.env=[(false,eval (.Call (.Name "range" p2) [a,b] [] pos2) X.env)]:=by rfl):PE X (.Call (.Name "list" p) [.Call (.Name "range" p2) [a,b] [] pos2] [] pos) (qip ta):=by
 intro d s R H Q I h;show Call_ (qaz I J hm xr (Yt (T:="list") ?_ B rfl));rw[B];show wpAny _ _ (spliced ((false,eval (.Call (.Name "range" p2) [a,b] [] pos2) X.env)::[])) _ _ s;show kn ?_;show Call_ (qaz I f g boot_range (Yt (thn (G pos2 d s R H _ I h) λus v ⟨vs,S,w,P,O⟩=>?_) M l));obtain⟨lo,n,e,hn,q⟩:=O;subst e
 cases P with
 | cons r rr =>
  cases rr with
  | cons r' rr =>
   cases rr;obtain⟨t,rfl⟩:=r;obtain⟨t',rfl⟩:=r';show call_range_2 (kA ?_);show call_list_range (n:=n) (w.ok.hd hc) (IsRange.new ..) (small_one (by lk) (by lk) (by lk) (by lk)) (by rw[rangeSize_one];split<;>lk) (by lk) λh' tk c C L F A=>?_;have D:c.toList.length=n:=by rw[Y8];show A.1
   have hv:Vals ((List.range n).map λi=>V.int ((lo+i:Nat):Int)) c.toList:=by
    show qac (by rw[ya,Yh,D]) λj y u h1 E=>?_;have K:j<n:=by have:=(yc.mp h1).1;rwa[ya,Yh] at this
    rw[yd,Xv K] at h1;cases h1;obtain⟨t',m⟩:=A.2 j u (by rw[<- xJ];show E);show⟨t',by rw[m];congr 1;lk⟩
   have z:=w.kept (t':=v.toks+1) (h':=v.heap.push { cls:=.type "range",data:=.fields #[.int lo t,.int ((lo+n:Nat):Int) t',.int 1 v.toks] }) λb o e=>yu _ e;show⟨.ref _,_,z.laid (t':=tk) (o:=.lst ((List.range n).map λi=>V.int ((lo+i:Nat):Int))) (λb N q=>L b N q) (yg _) ?_,rfl,q _ (z.hok.fresh (yg _))⟩;show⟨by rw[ya,Yh];show yh (show n<=1000 by lk) (by decide),c.toList,C,hv,?_⟩;rw[Array.toArray_toList];show F
end
end L2
namespace K72
open PySem L2 PyProof.Rows
variable{A:Str->Str->Prop}{C a b cw d dx f g l p q t x:Addr}{CX:CXT}{D:Ends}{E:XK}{G H H' H1 H2 J J':Hp}{K:W.Frag}{L M gs ns ps tr:LN}{N:Addr->Prop}{P:Program}{base:Heap}{c:Bool}{cc:Nat->Addr}{cl:Nat->Bool}{fd:FuncData}{first way:Int}{i j n:Nat}{kps tps:LP}{kvs:List (Key×V)}{m m1:Str->Option (LS)}{mg:Str->Option Value}{o:HO}{ol v:V}{r ss:LS}{s txt y z:Str}{ta:TA}{ts:LI}{w:World}{xs ys:List V}{α β:Type}{σ:L2.St}
theorem Sr(H:Hp):L2.Same H H:=L2.Same.refl H
theorem jJ{k:Nat}{A:Around}(a:Room k A):A.units+100<cLine:=by have:=a.un;lk
theorem hmR{k:Nat}{A:Around}(a:Room k A)(h:j<=k:=by decide):Room j A:=a.mono h
theorem uK:FnScope wqK wqK (qf jR):=fS
theorem u8:FnScope wqh wqh (qf zm):=fS
theorem uU:FnScope wqh wqh (qf j9):=fS
theorem uL:FnScope wqh wqh (qf jS):=fS
local macro_rules | `(tactic| walk_at "w")=>`(tactic| first
 | with_reducible refine vSeq ?_ | with_reducible refine vAsg ?_ | with_reducible refine vAsgS ?_ | with_reducible refine vIfS ?_ | with_reducible refine vRet ?_ | with_reducible refine vNext ?_ | with_reducible refine vC ?_
 | ((with_reducible refine' vVar ?hv ?_);(case hv=>rfl)) | with_reducible refine vOp ?_ | with_reducible refine vChain ?_ | with_reducible refine vNil ?_ | with_reducible refine vCons ?_ | with_reducible refine vCB ?_ | with_reducible refine vCall ?_
 | with_reducible refine vLst ?_ | with_reducible refine vTup ?_ | with_reducible refine vTest ?_ | with_reducible refine vB ?_ | with_reducible refine vNot ?_ | with_reducible refine vAnd ?_ | with_reducible refine vOr ?_
 | with_reducible refine vAndV ?_ | with_reducible refine vOrV ?_ | with_reducible refine vNotV ?_ | with_reducible refine vYes ?_ | with_reducible refine vLeI ?_ | with_reducible refine vLeS ?_ | with_reducible refine vIsB ?_ | with_reducible refine vAddI ?_ | with_reducible refine vSl ?_ | with_reducible refine vNoPart ?_ | with_reducible refine vPart ?_ | with_reducible refine vExI ?_ | with_reducible refine vBM ?_ | with_reducible refine vBM0 ?_ | with_reducible refine vComp ?_ | with_reducible refine vFor ?_ | with_reducible refine vRng1 ?_ | with_reducible refine vAny ?_ | with_reducible refine vGN ?_ | with_reducible refine vI0 ?_ | with_reducible refine vEqI ?_ | with_reducible refine vEqB ?_ | with_reducible refine vEx ?_ | with_reducible refine vDrop ?_ | with_reducible refine vRetN ?_ | with_reducible refine vFldU ?_ | with_reducible refine vSFldU ?_ | with_reducible refine vXMake ?_ | with_reducible refine vMake ?_ | with_reducible refine vMeth ?_ | with_reducible refine vVinit ?_ | with_reducible refine vCallS ?_ | with_reducible refine vRaise ?_ | with_reducible refine vMethS ?_ | with_reducible refine vMakeS ?_ | with_reducible refine vUn ?_ | with_reducible refine vIf ?_ | with_reducible refine vRev ?_ | with_reducible refine vEnum ?_ | with_reducible refine vDGet2 ?_ | with_reducible refine vStep ?_)
local macro_rules | `(tactic| walk_at "v")=>`(tactic| repeat walk_at "w")
local macro_rules | `(tactic| ext)=>`(tactic| walk_at "v")
local macro_rules | `(tactic| apply $e)=>`(tactic| (ext;refine $e))
def qed:Nat->Str
 | 4=>"many"
 | _=>"found"
structure Txt(K:W.Frag)(mg:Str->Option Value)(cc:Nat->Addr)(cw:Addr):Prop where
 b_len:mg "len"=none
 b_int:mg "int"=none
 b_enumerate:mg "enumerate"=none
 b_all:mg "all"=none
 b_max:mg "max"=none
 b_min:mg "min"=none
 b_isinstance:mg "isinstance"=none
 b_bool:mg "bool"=none
 b_str:mg "str"=none
 b_range:mg "range"=none
 b_list:mg "list"=none
 b_tuple:mg "tuple"=none
 b_ValueError:mg "ValueError"=none
 g_LONGEST_NAME:∃ tk,mg "LONGEST_NAME"=some (.int 6 tk)
 g_MOST_PLACES:∃ tk,mg "MOST_PLACES"=some (.int 14 tk)
 g_MOST_TIES:∃ tk,mg "MOST_TIES"=some (.int 30 tk)
 m_NoPlayer:mg "NoPlayer"=some (.ref (cc 0))
 m_NoNumbers:mg "NoNumbers"=some (.ref (cc 1))
 m_NoPlace:mg "NoPlace"=some (.ref (cc 2))
 m_NoMove:mg "NoMove"=some (.ref (cc 3))
 m_TooMany:mg "TooMany"=some (.ref (cc 4))
 m_OnceError:mg "OnceError"=some (.ref (cc 5))
 vinit:VInit K
 xat:∀ i,i<5+1->XAt K (cc i)
 na:∀ i,i<5->NoAttr K (cc i) (qed i)
 kit:∀ i j,i<5->j<5->W.kitOne K (.ref (cc i)) (.ref (cc j))=some (decide (i=j))
 kitV:∀ i,i<5+1->W.kitOne K (.ref (cc i)) (.type "ValueError")=some true
 mroO:∀ i,i<5->W.mroIn K (cc i) (.ref (cc 5))=some true
 wcl:Cls K cw
 wn:NoAttr K cw "numbers"
 wo:NoAttr K cw "order"
 wr:NoAttr K cw "near"
 g_MOST_SUMMED:∃ tk,mg "MOST_SUMMED"=some (.int 40 tk)
 g_HIGHEST_SUMMED:∃ tk,mg "HIGHEST_SUMMED"=some (.int 1073741823 tk)
 m_Web:mg "Web"=some (.ref cw)
 m_Road:mg "Road"=some (.ref (cc 8))
 pcl:Cls K (cc 8)
 pb:NoAttr K (cc 8) "board"
 pp:NoAttr K (cc 8) "path"
 b_zip:mg "zip"=none
 b_sorted:mg "sorted"=none
 b_set:mg "set"=none
 b_dict:mg "dict"=none
 b_repr:mg "repr"=none
 smod:∃ o,K.lookup sysModules=some o
 m_Evener:mg "Evener"=some (.ref (cc 9))
 ecl:Cls K (cc 9)
 en:NoAttr K (cc 9) "names"
 m_Numbered:mg "Numbered"=some (.ref (cc 10))
 g_MOST_NUMBERS:∃ tk,mg "MOST_NUMBERS"=some (.int 60 tk)
 g_MOST_TIES_LEFT:∃ tk,mg "MOST_TIES_LEFT"=some (.int 10 tk)
 ety:∀(H:Hp) (a dx:Addr) (fs:List (Str×V)),H a=some (.ins (cc 9) dx fs)->TyOf K H (.ref a) (.ref (cc 9))
 eP:W.kitOne K (.ref (cc 9)) (.ref (cc 11))=some true
 kP:∀ t∈wqR,W.kitOne K (.type t) (.ref (cc 11))=some false
 m_Player:mg "Player"=some (.ref (cc 11))
inductive spOnce(K:W.Frag)(vs:List V)(H:Hp)(Q:VK)(E:XK):Prop|mk (e C:Addr) (y:V) (_:vs=[.ref e,y]) (_:H e=some (XN e C none)) (_:XAt K C) (_:Q .non H)
inductive spX(C:Addr)(fl:Str)(vs:List V)(H:Hp)(Q:VK)(E:XK):Prop|mk (e:Addr) (v:V) (_:vs=[.ref e,v]) (_:H e=some (XN e C none)) (_:∀ dx,H dx=none->Q .non (upd (upd H dx (.xd [(fl,v)])) e (XN e C (some dx))))
theorem qae{g:Str}{y:V}(c:XAt K C)(q:∀ dx H',L2.Same H1 H'->H' dx=some (.xd [(g,y)])->E (.ref C) (some dx) H') :
  [y].length<=1000/\∀ x,H1 x=none->spX C g (.ref x::[y]) (upd H1 x (XN x C none)) (λv H2=>v=.non/\∃ a f dx,(V.ref x)=.ref a/\H2 a=some (XN a f dx)/\XAt K f/\E (.ref f) dx (upd H2 a (XO a f dx))) E0:=by
 show⟨by show 1<=1000;decide,λx h=>⟨x,y,rfl,qb,λdx d=>⟨rfl,x,C,some dx,rfl,qb,c,q dx _ (λb o e=>?_) ?_⟩⟩⟩
 .have nx:b≠x:=λz=>by rw[z,h] at e;cases e
  have nd:b≠dx:=λz=>by rw[<- z,qk nx,e] at d;cases d
  rw[qk nx,qk nx,qk nd,qk nx];show e
 .have nx:dx≠x:=λz=>by rw[z,qb] at d;cases d
  rw[qk nx,qk nx,qb]
def Rz(cc:Nat->Addr)(H:Hp)(E:XK)(r:Nat×V):Prop:=∀ dx H',L2.Same H H'->H' dx=some (.xd [(qed r.1,r.2)])->E (.ref (cc r.1)) (some dx) H'
theorem Rz.later{r:Nat×V}(h:Rz cc H E r)(s:L2.Same H H1):Rz cc H1 E r:=λdx H' t e=>h dx H' (s.trans t) e
section
variable{P:Program}{w:World}{K:W.Frag}{mg:Str->Option Value}{base:Heap}{cc:Nat->Addr}{cw:Addr}{f:Addr}{fd:FuncData}
theorem ok_once(F:Fun K "__init__" "OnceError.__init__" jR f fd)(T:Txt K mg cc cw):wqqg 1 f fd wqK (spOnce K):=by
 show F.ok uK λ_ _ _ _ H vs Q E b h=>?_
 .obtain⟨e,C,y,rfl,a,c,q⟩:=h;show⟨_,(qe (qK (k_vinit (K:=K) rfl T.vinit rfl T.b_ValueError j7 (qa (pv 0) (qa (pv 1) qc))))),?_⟩;apply⟨e,C,y,rfl,a,c,q⟩
theorem ok_NoPlayer(F:Fun K "__init__" "NoPlayer.__init__" j9 f fd)(T:Txt K mg cc cw)(b:CMethOk P w K mg base CX0 1 (cc 5) "OnceError" "__init__" wqK (spOnce K)) :
  wqqg 2 f fd wqh (spX (cc 0) (qed 0)):=by
 show F.ok uU λ_ _ _ _ H vs Q E c h=>?_
 .obtain⟨e,v,rfl,a,q⟩:=h;show⟨_,(qd (qK (qc0 b (hmR c) (qa (pv 0) (qa jg qc))))
 (qe (zX (K:=K) rfl (pv 0) (pv 1) rfl))),?_⟩
  apply⟨e,_,_,rfl,a,T.xat 0 (by decide),?_⟩;apply .inr ⟨e,_,rfl,a,T.xat 0 (by decide),T.na 0 (by decide),q⟩
theorem ok_NoNumbers(F:Fun K "__init__" "NoNumbers.__init__" jS f fd)(T:Txt K mg cc cw)(b:CMethOk P w K mg base CX0 1 (cc 5) "OnceError" "__init__" wqK (spOnce K)) :
  wqqg 2 f fd wqh (spX (cc 1) (qed 1)):=by
 show F.ok uL λ_ _ _ _ H vs Q E c h=>?_
 .obtain⟨e,v,rfl,a,q⟩:=h;show⟨_,(qd (qK (qc0 b (hmR c) (qa (pv 0) (qa jg qc))))
 (qe (zX (K:=K) rfl (pv 0) (pv 1) rfl))),?_⟩
  apply⟨e,_,_,rfl,a,T.xat 1 (by decide),?_⟩;apply .inr ⟨e,_,rfl,a,T.xat 1 (by decide),T.na 1 (by decide),q⟩
theorem ok_NoPlace(F:Fun K "__init__" "NoPlace.__init__" zm f fd)(T:Txt K mg cc cw)(b:CMethOk P w K mg base CX0 1 (cc 5) "OnceError" "__init__" wqK (spOnce K)) :
  wqqg 2 f fd wqh (spX (cc 2) (qed 2)):=by
 show F.ok u8 λ_ _ _ _ H vs Q E c h=>?_
 .obtain⟨e,v,rfl,a,q⟩:=h;show⟨_,(qd (qK (qc0 b (hmR c) (qa (pv 0) (qa jg qc))))
 (qe (zX (K:=K) rfl (pv 0) (pv 1) rfl))),?_⟩
  apply⟨e,_,_,rfl,a,T.xat 2 (by decide),?_⟩;apply .inr ⟨e,_,rfl,a,T.xat 2 (by decide),T.na 2 (by decide),q⟩
theorem u9:FnScope wqb wqb (qf zG):=fS
theorem UI:FnScope wqB wqB (qf qbo):=fS
theorem uR:FnScope wqq wqq (qf qaf):=fS
theorem K1:FnScope ["numbers","thing","both"] wqq (qf jT):=fS
theorem qu(a:L2.Same H H1)(hl:H1 l=none):L2.Same H (upd H1 l o):=λc u e=>by
 have q:=a c u e;rw[qk (qM q hl)];show q
theorem qhk(a:L2.Same H H1)(hl:H l=none):L2.Same H (upd H1 l o):=λc u e=>by
 rw[qk (qM e hl)];show a c u e
def sg(c:Nat):Bool:=if (!decide (([c]:LN)<("a":Str).cps.toList))=true then !decide (("z":Str).cps.toList < [c]) else false
def jx(x:Str):Bool:=if 1<=x.length/\x.length<=6 then x.cps.toList.all sg else false
theorem nameS_at{x:Str}(h:jx x=true):1<=x.length/\x.length<=6/\x.cps.toList.all sg=true:=by
 unfold jx at h;split at h
 .rename_i z;show⟨z.1,z.2,h⟩
 .cases h
structure All2{α β:Type}(R:α->β->Prop)(l:List α)(m:List β):Prop where
 len:l.length=m.length
 at_:∀(k:Nat) a b,l[k]?=some a->m[k]?=some b->R a b
theorem All2.nil{R:α->β->Prop}:All2 R [] []:=⟨rfl,λk a b h=>by simp at h⟩
theorem All2.mono{R S:α->β->Prop}{l:List α}{m:List β}(h:All2 R l m)(f:∀ a b,R a b->S a b):All2 S l m:=⟨h.len,λk a b x y=>f a b (h.at_ k a b x y)⟩
theorem All2.snoc{R:α->β->Prop}{l:List α}{m:List β}{x:α}{y:β}(h:All2 R l m)(r:R x y):All2 R (l++[x]) (m++[y]):=by
 show⟨by rw[yx,yx,h.len];rfl,λk a b c hb=>?_⟩;by_cases d:k<l.length
 .rw [yP d] at c;rw[yP (by rw[<- h.len];show d)] at hb;show h.at_ k a b c hb
 .rw [yX (by lk)] at c;rw[yX (by rw[<- h.len];lk)] at hb
  have h0:k-l.length=0:=by
   have:=(yc.mp c).1;simp at this;lk
  rw[<- h.len] at hb;rw[h0] at c hb;cases c;cases hb;show r
theorem All2.mem{R:α->β->Prop}{l:List α}{m:List β}(h:All2 R l m){x:α}(c:x∈l):∃ y∈m,R x y:=by
 obtain⟨k,b,e⟩:=List.getElem_of_mem c;have a:k<m.length:=by rw[<- h.len];show b
 show⟨m[k],Xb a,h.at_ k x m[k] (by rw[yb b,e]) (yb a)⟩
def PL(H:Hp)(l:Addr)(ts:LI)(tps:LP):Prop:=H l=some (.lst (ts.map V.ref))/\All2 (λt a=>H t=some (.tup [.str a.1,.str a.2])) ts tps
theorem PL.same(h:PL H l ts tps)(s:L2.Same H H'):PL H' l ts tps:=⟨s _ _ h.1,h.2.mono λ_ _ z=>s _ _ z⟩
inductive spName(vs:List V)(H:Hp)(Q:VK)(E:XK):Prop|mk (x:Str) (_:vs=[.str x]) (_:jx x=true) (_:∀ H',L2.Same H H'->Q (.bl true) H')
theorem ok_name(F:Fun K "is_name" "is_name" zG f fd)(T:Txt K mg cc cw):wqqg 1 f fd wqb spName:=by
 show F.ok u9 λ_ _ _ _ H vs Q E p h=>?_
 .obtain⟨x,rfl,hn,q⟩:=h;obtain⟨r,m,n⟩:=nameS_at hn;show⟨_,(qd (qJ (PW.pt (zU (qS (qN (qj (jY (K:=K) rfl) rfl T.b_isinstance yV (qa (pv 0) (qa (qY (v:=.ty "str") rfl T.b_str boot_str rfl) qc))))) (zu (qS (qcX qeB qeB qh (qj (zx (K:=K) rfl) rfl T.b_len YM (qa (pv 0) qc)) (zN rfl T.g_LONGEST_NAME)))))) (qe (qm jW)) qt)
 (qe (qm (qj (qdI (K:=K) rfl rfl) rfl T.b_all kx (qa (qG (sc:=qf zG) (XN:=wqb) ["sign"] 1 [] rfl rfl rfl (by room) rfl (by room)
  (qF (K:=K) rfl (pv 0)) (λ_ _ _ _=>(qo (i:=0) (show(["sign"]:LS).Nodup by room) rfl (yF rfl))) qE
  (λ_ _ _ _=>jh)
  (λ_ _ _ _=>(qap qeB qeB jg (pv 0) jg))) qc))))),?_⟩
  apply zy (.inl (.str x)) rfl (je K "str" (by simp) "str" (by simp)) ?_;apply yp ?_;apply qhC (yh m (by decide)) ?_;apply qI (λh1=>?_) λh1=>absurd (yv (by lk)) h1;apply qI (λe=>by simp only[xQ,Xd] at e;lk) λe=>?_;apply qez (λi ys H'=>H'=H/\ys=((x.cps.toList.take i).map sg).map V.bl) ⟨rfl,by simp⟩ (λi c ys H' hc d=>?_) λys H' d=>?_
  .obtain⟨rfl,rfl⟩:=d;apply jp ?_;ext
   have hl:(List.map V.bl (List.map sg (List.take i x.cps.toList))).length<sizeLine:=by
    rw[ya,ya,yN];show qg (yh (XR _ _) (by simpa [Str.length] using(show x.length<=1000 by lk)))
   have key:∀ b,b=sg c->(List.map V.bl (List.map sg (List.take i x.cps.toList)))++[V.bl b]=List.map V.bl (List.map sg (List.take (i+1) x.cps.toList)):=by
    intro b hb;have g:x.cps.toList[i]?=some c:=by simpa using hc
    rw[hb,yL,g];simp
   show qI (λa=>?_) λa=>⟨hl,rfl,key _ (by unfold sg;rw[yB a])⟩;apply⟨hl,rfl,key _ (by unfold sg;rw[yH a])⟩
  .obtain⟨rfl,rfl⟩:=d;have j:x.cps.toList.take x.cps.size=x.cps.toList:=by rw[<- Y8,yD]
   rw[j];show⟨?_,λl hl=>?_⟩
   .rw [ya,ya];show yI (qg (by simpa [Str.length] using(show x.length<=1000 by lk)))
   .ext;show⟨l,x.cps.toList.map sg,rfl,SqL.of qb,?_⟩;have z:=q _ (qu (Sr H') (o:=.lst ((x.cps.toList.map sg).map V.bl)) hl);rw[xA];rw[<- n] at z;show z
inductive spBit(vs:List V)(H:Hp)(Q:VK)(E:XK):Prop|mk (b n:Int) (_:vs=[.int b,.int n]) (_:0<=n) (_:Q (.bl (decide (Builtin.bitAnd (b / 2 ^ n.toNat) 1=1))) H)
theorem ok_bit(F:Fun K "has_bit" "has_bit" qbo f fd):wqqg 1 f fd wqB spBit:=by
 show F.ok UI λ_ _ _ _ H vs Q E a h=>?_
 .obtain⟨b,n,rfl,hn,q⟩:=h;have c:=jJ a;show⟨_,(qe (qm (jk (zA (K:=K) rfl c) (qz op_and (qz op_shr (pv 0) (pv 1)) qh) qh (qv _)))),?_⟩;apply vI hn ?_;apply .inl (.inl (.inl ⟨rfl,rfl,?_⟩));show q
def qbP:LS->Nat->List (Key×V)
 | [],_=>[]
 | s::r,i=>(.inr s,.int i)::qbP r (i+1)
theorem qdQ(y:Str):∀(ss:LS) (i:Nat),qbP (ss++[y]) i=qbP ss i++[(.inr y,.int (i+ss.length:Nat))]
 | [],i=>rfl
 | s::r,i=>by
  show(_::qbP (r++[y]) (i+1))=_::(qbP r (i+1)++_);rw[qdQ y r (i+1)];have:i+1+r.length=i+(s::r).length:=by simp;lk
  rw[this]
theorem qau:∀(ss:LS) (i:Nat),(qbP ss i).length=ss.length
 | [],_=>rfl
 | _::r,i=>congrArg (· + 1) (qau r (i+1))
theorem qbp:∀{ss:LS} {i:Nat},y∉ss->qab (qbP ss i) (.inr y:Key)=none
 | [],_,_=>rfl
 | s::r,i,h=>by
  have h1:¬ s=y:=λe=>h (by rw[e];show yC);show qab ((.inr s,V.int i)::qbP r (i+1)) _=none;rw[jv (p:=((.inr s:Key),V.int i)) (λe=>h1 (kz e))];show qbp λm=>h (yw _ m)
theorem zq:∀{ss:LS} {i:Nat},y∈ss->∃ j,j<ss.length/\ss[j]?=some y/\qab (qbP ss i) (.inr y:Key)=some (.int (i+j:Nat))
 | [],_,h=>by cases h
 | s::r,i,h=>by
  by_cases e:s=y
  .subst e;show⟨0,by simp,rfl,jQ (p:=((.inr s:Key),V.int i)) rfl⟩
  .rcases yy.mp h with z | z
   .show absurd z.symm e
   .obtain⟨j,h1,b,c⟩:=zq (i:=i+1) z;show⟨j+1,by simp;lk,by simpa using b,?_⟩;show qab ((.inr s,V.int i)::qbP r (i+1)) _=_;rw[jv (p:=((.inr s:Key),V.int i)) (λa=>e (kz a)),c];have:i+1+j=i+(j+1):=by lk
    rw[this]
theorem qba(y:Str)(ss:LS)(i:Nat):(qab (qbP ss i) (.inr y:Key)).isSome=decide (y∈ss):=by
 by_cases h:y∈ss
 .obtain⟨j,_,_,e⟩:=zq (i:=i) h;rw[e,yv h];rfl
 .rw [qbp h,yk h];rfl
inductive spPlace(vs:List V)(H:Hp)(Q:VK)(E:XK):Prop|mk (d:Addr) (ss:LS) (x:Str) (_:vs=[.ref d,.str x]) (_:H d=some (.dK (qbP ss 0))) (_:jx x=true) (_:x∈ss) (_:∀ H',L2.Same H H'->Q (.bl true) H')
theorem ok_place(F:Fun K "is_place" "is_place" qaf f fd)(c:wqqe 1 "is_name" wqb spName):wqqg 2 f fd wqq spPlace:=by
 show F.ok uR λ_ _ _ _ H vs Q E a h=>?_
 .obtain⟨d,ss,x,rfl,e,hn,i,q⟩:=h;have g:=jJ a;show⟨_,(qe (qm (zv (qi c (hmR a) qr (qa (pv 1) qc)) (j4 (jk (qaC (K:=K) rfl g) (pv 1) (pv 0) (by with_unfolding_all rfl)))))),?_⟩;apply⟨x,rfl,hn,λH1 b=>?_⟩;apply jp ?_;apply .inr (.inl ⟨d,_,rfl,DGet.k (k:=Sum.inr x) (b d _ e),?_⟩);rw[qba,yv i];show q H1 b
inductive spTwo(vs:List V)(H:Hp)(Q:VK)(E:XK):Prop|mk (d t:Addr) (ss:LS) (a b:Str) (_:vs=[.ref d,.ref t]) (_:H d=some (.dK (qbP ss 0))) (_:H t=some (.tup [.str a,.str b])) (_:jx a=true) (_:jx b=true) (_:a∈ss) (_:b∈ss) (_:a≠b) (_:∀ H',L2.Same H H'->Q (.bl true) H')
theorem ok_two(F:Fun K "are_two_places" "are_two_places" jT f fd)(T:Txt K mg cc cw)(o:wqqe 2 "is_place" wqq spPlace):wqqg 3 f fd wqq spTwo:=by
 show F.ok K1 λ_ _ _ _ H vs Q E m h=>?_
 .obtain⟨d,t,ss,a,b,rfl,p,c,s,u,r,hb,l,q⟩:=h;have g:=jJ m;show⟨_,(qd (qJ (PW.pt (zU (qS (qN (qj (jY (K:=K) rfl) rfl T.b_isinstance yV (qa (pv 1) (qa (qY (v:=.ty "tuple") rfl T.b_tuple XV rfl) qc))))) (zu (qp (qaK (K:=K) rfl g) (qj (zx (K:=K) rfl) rfl T.b_len YM (qa (pv 1) qc)) qh (qv _))))) (qe (qm jW)) qt)
 (qd (qq (i:=2) K1.nd rfl (yF rfl) (zv (qi o (hmR m) qr (qa (pv 0) (qa (qB (qC (K:=K) rfl g) (pv 1) qh (λ_ _=>rfl)) qc))) (j4 (qi o (hmR m) qr (qa (pv 0) (qa (qB (qC (K:=K) rfl g) (pv 1) qh (λ_ _=>rfl)) qc))))))
 (qe (qm (zv (pv 2) (j4 (jk (qaK (K:=K) rfl g) (qB (qC (K:=K) rfl g) (pv 1) qh (λ_ _=>rfl)) (qB (qC (K:=K) rfl g) (pv 1) qh (λ_ _=>rfl)) (qv _)))))))),?_⟩
  apply zy (.inl (.tup c)) rfl (je K "tuple" (by simp) "tuple" (by simp)) ?_;apply yp ?_;apply qhD c ?_;apply .inl ⟨rfl,rfl,?_⟩;apply yp ?_;apply .inl (qcC c rfl ?_);apply⟨d,ss,a,rfl,p,s,r,λH1 j=>?_⟩;apply jp ?_;apply .inl (qcC (j _ _ c) rfl ?_);apply⟨d,ss,b,rfl,j _ _ p,u,hb,λH2 n=>?_⟩;apply jp ?_;apply .inl (qcC (n _ _ (j _ _ c)) rfl ?_);apply .inl (qcC (n _ _ (j _ _ c)) rfl ?_);show .inl ⟨rfl,rfl,?_⟩;have z:=q H2 (j.trans n);have e:(if true=true then !eqV (V.str a) (V.str b) else eqV (V.str a) (V.str b))=true:=by simp[eqV,l]
  rw[e];show z
theorem K0:FnScope ["names","numbers","name"] ["names"] (qf zQ):=fS
theorem qc7(m j:Nat):decide (Builtin.bitAnd ((m:Int) / 2 ^ (j:Int).toNat) 1=1)=m.testBit j:=by
 rw[PyProof.Rows.bitAnd_m1,Nat.testBit_eq_decide_div_mod_eq];rw[Ym];have e:(m:Int) / 2 ^ j=((m / 2 ^ j:Nat):Int):=by rw[Int.natCast_ediv,XA];rfl
 rw[e]
 congr 1
 apply propext;lk
theorem qgP(m j:Nat):Builtin.bitOr (m:Int) (1*2 ^ (j:Int).toNat)=((m ||| 2 ^ j:Nat):Int):=by
 have e:(1*2 ^ (j:Int).toNat:Int)=((2 ^ j:Nat):Int):=by rw[Ym,Int.one_mul,XA];rfl
 rw[e];generalize 2 ^ j=k;have c:Builtin.bitNot (m:Int)=-(m:Int)-1:=rfl;have d:Builtin.bitNot (k:Int)=-(k:Int)-1:=rfl;unfold Builtin.bitOr Builtin.bitAnd;rw[c,d,yk (by lk),yk (by lk)];dsimp only;unfold Builtin.bitNot;have a:(-(-(m:Int)-1)-1).toNat=m:=by lk
 have b:(-(-(k:Int)-1)-1).toNat=k:=by lk
 rw[a,b];lk
def But(x:Addr)(H H':Hp):Prop:=∀ b o,b≠x->H b=some o->H' b=some o
theorem But.refl(x:Addr)(H:Hp):But x H H:=λ_ _ _ e=>e
theorem But.same(a:But x H H1)(b:L2.Same H1 H2):But x H H2:=λc o n e=>b c o (a c o n e)
theorem But.put(a:But x H H1):But x H (upd H1 x o):=λc u n e=>by rw[qk n];show a c u n e
theorem But.new(a:But x H H1)(hl:H1 l=none):But x H (upd H1 l o):=a.same (qu (Sr H1) hl)
theorem isi_lst{Q:VK}(h:H a=some (.lst xs))(b:H q=some (.tup [.ty "list",.ty "tuple"]))(k:Q (.bl true) H):qfv K [.ref a,.ref q] H Q:=
 ⟨_,q,_,_,[.type "list",.type "tuple"],true,rfl,.inl (.lst h),b,rfl,rfl,k⟩
def LTu(H:Hp)(a:Addr)(xs:List V):Prop:=H a=some (.lst xs)\/H a=some (.tup xs)
theorem LTu.same(h:LTu H a xs)(s:L2.Same H H'):LTu H' a xs:=h.imp (s _ _) (s _ _)
theorem qgQ{Q:VK}(h:LTu H a xs)(b:H q=some (.tup [.ty "list",.ty "tuple"]))(k:Q (.bl true) H):qfv K [.ref a,.ref q] H Q:=
 h.elim (λh=>isi_lst h b k) λh=>⟨_,q,_,_,[.type "list",.type "tuple"],true,rfl,.inl (.tup h),b,rfl,rfl,k⟩
theorem qgR{Q:VK}(h:LTu H a xs)(q:Q (.int xs.length) H):qd7 K [.ref a] H Q:=h.elim (λe=>qaJ e q) λe=>qhD e q
def qiq(g:TG)(t:TS)(D:Ends)(σ:L2.St)(J:It)(H1:Hp):Prop:=∃ W:Nat->Nat->L2.St->Hp->Prop,(∃ m,W 0 m σ H1)/\∀ i m σ H,W i m σ H ->
 (J.stop i H/\D.nx σ H)\/(J.go i H/\∃ N:L2.St->Hp->Prop,(∀ a H',N a H'->∃ c,c<m/\W (i+1) c a H')/\∀ x H',J.yld i H x H'->g x σ H' λb H2=>t { D with nx:=N,ct:=N,bk:=D.nx } b H2)
theorem qgS{g:TG}{d:TS}(h:LTu H a xs)(m:L2.Same H H1)(b:Nat->L2.St->Hp->Prop)(h0:b 0 σ H1)(hl:∀ i σ H',b i σ H'->L2.Same H H')
  (l:∀ i x σ H,xs[i]?=some x->b i σ H->g x σ H λf H2=>d { D with nx:=b (i+1),ct:=b (i+1),bk:=D.nx } f H2) (j:∀ σ H,b xs.length σ H->D.nx σ H) :
  ((∃ xs,SqL K H1 a xs)/\qiq g d D σ (Itl K a) H1)\/((∃ xs,SqT K H1 a xs)/\qiq g d D σ (Itt K a) H1):=by
 rcases h with e | e
 .show .inl ⟨⟨_,SqL.of (m _ _ e)⟩,ju (K:=K) b h0 (λi σ H' _ c=>SqL.of (hl i σ H' c _ _ e)) l j⟩
 .show .inr ⟨⟨_,SqT.of (m _ _ e)⟩,for_tup (K:=K) b h0 (λi σ H' _ c=>SqT.of (hl i σ H' c _ _ e)) l j⟩
inductive spNums(vs:List V)(H:Hp)(Q:VK)(E:XK):Prop|mk (a:Addr) (ss:LS) (_:vs=[.ref a]) (_:LTu H a (ss.map V.str)) (_:ss.length<=14) (_:ss.Nodup) (_:(∀ s∈ss,jx s=true)) (_:∀ d H',L2.Same H H'->H d=none->H' d=some (.dK (qbP ss 0))->Q (.ref d) H')
theorem ok_nums(F:Fun K "numbers_of" "numbers_of" zQ f fd)(T:Txt K mg cc cw)(J:wqqe 1 "is_name" wqb spName) :
  wqqg 4 f fd ["names"] spNums:=by
 show F.ok K0 λ_ _ _ _ H vs Q E C h=>?_
 .obtain⟨a,ss,rfl,n,L,p,r,q⟩:=h;have D:=jJ C;show⟨_,(qd (qJ (qS (qN (qj (qbG (K:=K) rfl) rfl T.b_isinstance yV (qa (pv 0) (qa (q8 (qa (qY (v:=.ty "list") rfl T.b_list xr rfl) (qa (qY (v:=.ty "tuple") rfl T.b_tuple XV rfl) qc))) qc))))) (qe jF) qt)
 (qd (qJ (qp qeZ (qj (zx (K:=K) rfl) rfl T.b_len YM (qa (pv 0) qc)) (zN rfl T.g_MOST_PLACES) (qv _)) (qe jF) qt)
 (qd (qq (i:=1) K0.nd rfl (yF rfl) qbV)
 (qd (jy yW rfl (qF (K:=K) rfl (pv 0)) (qo (i:=2) K0.nd rfl (yF rfl))
 (qd (qJ (qS (qN (qi J (hmR C) qr (qa (pv 2) qc)))) (qe jF) qt)
 (qd (qJ (qp (qaC (K:=K) rfl D) (pv 2) (pv 1) (by with_unfolding_all rfl)) (qe jF) qt)
 (qe (qa2 (qj (zx (K:=K) rfl) rfl T.b_len YM (qa (pv 1) qc)) (qbL (pv 1) (pv 2) (qbO D)))))))
 (qe (qm (pv 1))))))),?_⟩
  apply⟨wqqk,λg M=>?_⟩;have l:=qu (Sr H) (o:=.tup [.ty "list",.ty "tuple"]) M;apply qgQ (n.same l) qb ?_;apply yp ?_;apply qgR (n.same l) ?_;rw[ya];apply qI (λh=>by have:=yj h;lk) λ_=>?_;ext;intro d B;have I:=qu l (o:=.dK []) B;have c:H d=none:=l.free B;apply qgS (K:=K) n I (λi σ H'=>∃ u,σ=[some (.ref a),some (.ref d),u]/\L2.Same H H'/\H' d=some (.dK (qbP (ss.take i) 0))) ⟨none,rfl,I,qb⟩ (λi σ H' e=>by obtain⟨_,_,z,_⟩:=e;show z) (λi y σ H' G e=>?_) fun σ H' e=>?_
  .obtain⟨u,rfl,t,b⟩:=e;rw[yd] at G;obtain⟨x,s,rfl⟩:=ym.mp G;have N:i<ss.length:=(yc.mp s).1;have j:ss.take (i+1)=ss.take i++[x]:=by rw[yL,s];rfl
   have hm:x∉ss.take i:=λz=>by
    have A:(ss.take (i+1)).Nodup:=p.sublist (kB _ _);rw[j] at A;show(YI.mp A).2.2 _ z x (by simp) rfl
   apply⟨x,rfl,r x (ye s),λH1 m=>?_⟩;have O:=t.trans m;apply yp ?_;apply .inr (.inl ⟨d,_,rfl,DGet.k (k:=Sum.inr x) (m _ _ b),?_⟩);rw[qba,yk hm];apply yp ?_;apply .inr ⟨_,m _ _ b,?_⟩;apply .inr ⟨d,_,rfl,DPut.k (k:=Sum.inr x) (m _ _ b) (qg (by rw[qau,yN];lk)),?_⟩;show⟨_,rfl,qhk O c,?_⟩;rw[qb,qcY _ (qbp hm),j,qdQ,qau];simp only[xS]
  .obtain⟨u,rfl,t,b⟩:=e;ext;rw[ya,yD] at b;show q d H' t c b
theorem UB:FnScope wqI wqI (qf qaT):=fS
theorem KN:FnScope ["numbers","ties","near","tie","one","other"] wqqc (qf qbq):=fS
def qcP(ss:LS)(ns:LN)(seen:LP):Prop:=ns.length=ss.length/\(∀ a,ns.getD a 0<2 ^ ss.length)/\∀ a b s t,ss[a]?=some s->ss[b]?=some t->(ns.getD a 0).testBit b=decide ((s,t)∈seen\/(t,s)∈seen)
theorem ji(h:ss.Nodup){a b:Nat}(i:ss[a]?=some s)(hb:ss[b]?=some s):a=b:=by
 have e:=Xr.mp h;obtain⟨f,c⟩:=yc.mp i;obtain⟨g,d⟩:=yc.mp hb;rcases Nat.lt_trichotomy a b with q | q | q
 .show absurd (c.trans d.symm) (e a b f g q)
 .show q
 .show absurd (d.trans c.symm) (e b a g f q)
theorem bits_zero:qcP ss (List.replicate ss.length 0) []:=by
 have z:∀ a,(List.replicate ss.length 0).getD a 0=0:=λa=>by
  simp only[List.getD,XD];split<;>rfl
 show⟨by simp,λa=>by rw[z a];show Nat.two_pow_pos _,λa b s t c hb=>?_⟩;rw[z a];simp
theorem qbr{v:Nat}(h:i<ns.length):(ns.set i v).getD j 0=if i=j then v else ns.getD j 0:=by
 simp only[List.getD,List.getElem?_set];by_cases e:i=j
 .subst e;simp[h]
 .simp [e]
theorem bits_step{seen:LP}(hb:qcP ss ns seen)(hn:ss.Nodup){t:Str}(d:ss[i]?=some s)(g:ss[j]?=some t)(m:s≠t) :
  qcP ss ((ns.set i (ns.getD i 0 ||| 2 ^ j)).set j (ns.getD j 0 ||| 2 ^ i)) (seen++[(s,t)]):=by
 obtain⟨hl,l,h⟩:=hb;have x:i<ns.length:=by rw[hl];show(yc.mp d).1
 have y:j<ns.length:=by rw[hl];show(yc.mp g).1
 have A:i≠j:=λe=>by rw[e,g] at d;cases d;show m rfl
 have r:i<ss.length:=(yc.mp d).1;have w:j<ss.length:=(yc.mp g).1;show⟨by simp[hl],λa=>?_,λa b u v f c=>?_⟩
 .rw [qbr (by simpa using y),qbr x];split
  .show kH (l _) (Xo (by decide) r)
  .split
   .show kH (l _) (Xo (by decide) w)
   .show l _
 rw[qbr (by simpa using y),qbr x];have h0:=h a b u v f c;have key:∀ P Q:Prop,(P↔Q)->∀ [Decidable P] [Decidable Q],decide P=decide Q:=λP Q e=>by intro _ _;show Yc.mpr e
 by_cases p:j=a
 .subst p;rw[g] at f;cases f;rw[yH rfl,Xe,h0,Y9];by_cases o:i=b
  .subst o;rw[d] at c;cases c;simp
  .have vs:v≠s:=λe=>by subst e;show o (ji hn d c)
   simp only[o,Ke,kJ];apply Yc.mpr;simp only[yK,yr,Kb];constructor
   .rintro (z | z)
    .show .inl (.inl z)
    .show .inr (.inl z)
   .rintro ((z | ⟨z,_⟩) | (z | ⟨z,_⟩))
    .show .inl z
    .show absurd z.symm m
    .show .inr z
    .show absurd z vs
 .rw [yB p];by_cases n:i=a
  .subst n;rw[d] at f;cases f;rw[yH rfl,Xe,h0,Y9];by_cases q:j=b
   .subst q;rw[g] at c;cases c;simp
   .have C:v≠t:=λe=>by subst e;show q (ji hn g c)
    simp only[q,Ke,kJ];apply Yc.mpr;simp only[yK,yr,Kb];constructor
    .rintro (z | z)
     .show .inl (.inl z)
     .show .inr (.inl z)
    .rintro ((z | ⟨_,z⟩) | (z | ⟨_,z⟩))
     .show .inl z
     .show absurd z C
     .show .inr z
     .show absurd z m
  .rw [yB n,h0];have us:u≠s:=λe=>by subst e;show n (ji hn d f)
   have B:u≠t:=λe=>by subst e;show p (ji hn g f)
   apply Yc.mpr;simp only[yK,yr,Kb];constructor
   .rintro (z | z)
    .show .inl (.inl z)
    .show .inr (.inl z)
   .rintro ((z | ⟨z,_⟩) | (z | ⟨_,z⟩))
    .show .inl z
    .show absurd z us
    .show .inr z
    .show absurd z B
def qdn(ns:LN):List V:=ns.map λ(n:Nat)=>.int (n:Int)
theorem qbs(h:i<ns.length):(qdn ns)[i]?=some (.int (ns.getD i 0:Nat)):=by
 unfold qdn;rw[yd,yb h];simp[List.getD,h]
theorem qeR(ns:LN)(i m:Nat):(qdn ns).set i (.int m)=qdn (ns.set i m):=by
 unfold qdn;rw[List.map_set]
theorem natV_zero(k:Nat):(List.replicate k [V.int 0]).flatten=qdn (List.replicate k 0):=by
 induction k with
 | zero=>rfl
 | succ k ih=>rw[xv,Xm,ih];rfl
theorem qbb(h:j<n):ixN n (j:Int)=some j:=by
 unfold ixN;rw[yH (by lk),yH (by lk)];rfl
def UN(x y:Str×Str):Prop:=x≠y/\x≠(y.2,y.1)
theorem UN.symm{x y:Str×Str}(h:UN x y):UN y x:=⟨λe=>h.1 e.symm,λe=>h.2 (by rw[e])⟩
structure TGo(ss:LS)(tps:LP):Prop where
 few:tps.length<=30
 inn:∀ ab∈tps,ab.1∈ss/\ab.2∈ss/\ab.1≠ab.2
 un:tps.Pairwise UN
structure WOk(ss:LS)(ns:LN):Prop where
 len:ns.length=ss.length
 few:ss.length<=14
 nd:ss.Nodup
 lt:∀ a,ns.getD a 0<2 ^ ss.length
 nm:∀ s∈ss,jx s=true
inductive WebAt(cw:Addr)(H:Hp)(x:Addr)(ss:LS)(ns:LN):Prop|mk (dx d ol n:_) (_:H x=some (.ins cw dx (jK "near" (.ref n) (jK "order" (.ref ol) (jK "numbers" (.ref d) []))))) (_:H d=some (.dK (qbP ss 0))) (_:H ol=some (.lst (ss.map V.str))) (_:H n=some (.lst (qdn ns))) (_:WOk ss ns)
theorem WebAt.same(h:WebAt cw H x ss ns)(s:L2.Same H H'):WebAt cw H' x ss ns:=by
 obtain⟨dx,d,ol,n,h1,a,b,c,e⟩:=h;show⟨dx,d,ol,n,s _ _ h1,s _ _ a,s _ _ b,s _ _ c,e⟩
inductive WebN(H0:Hp)(cw:Addr)(H:Hp)(x:Addr)(ss:LS)(ns:LN):Prop|mk (dx d ol n:_) (_:H x=some (.ins cw dx (jK "near" (.ref n) (jK "order" (.ref ol) (jK "numbers" (.ref d) []))))) (_:H d=some (.dK (qbP ss 0))) (_:H ol=some (.lst (ss.map V.str))) (_:H n=some (.lst (qdn ns))) (_:WOk ss ns) (_:H0 d=none) (_:H0 ol=none) (_:H0 n=none)
theorem qdR:∀(ss:LS) (i:Nat),(qbP ss i).map (λa=>kV a.1)=ss.map V.str
 | [],_=>rfl
 | s::r,i=>congrArg (V.str s::·) (qdR r (i+1))
def PLT(H:Hp)(l:Addr)(ts:LI)(tps:LP):Prop:=LTu H l (ts.map V.ref)/\All2 (λt a=>H t=some (.tup [.str a.1,.str a.2])) ts tps
inductive spNear(vs:List V)(H:Hp)(Q:VK)(E:XK):Prop|mk (d l:Addr) (ss:LS) (ts:LI) (tps:LP) (_:vs=[.ref d,.ref l]) (_:H d=some (.dK (qbP ss 0))) (_:ss.length<=14) (_:ss.Nodup) (_:(∀ s∈ss,jx s=true)) (_:PLT H l ts tps) (_:TGo ss tps) (_:∀ n ns H',L2.Same H H'->H n=none->H' n=some (.lst (qdn ns))->qcP ss ns tps->Q (.ref n) H')
theorem ok_near(F:Fun K "near_of" "near_of" qbq f fd)(T:Txt K mg cc cw)(uV:wqqe 3 "are_two_places" wqq spTwo)(Kv:wqqe 1 "has_bit" wqB spBit) :
  wqqg 4 f fd wqqc spNear:=by
 show F.ok KN λ_ _ _ _ H vs Q E hr h=>?_
 .obtain⟨d,l,ss,ts,tps,rfl,W,ai,ae,G,⟨hl,D⟩,Y,q⟩:=h;have j:=jJ hr;have L:=D.len;have few:=Y.few;show⟨_,(qd (qJ (qS (qN (qj (qbG (K:=K) rfl) rfl T.b_isinstance yV (qa (pv 1) (qa (q8 (qa (qY (v:=.ty "list") rfl T.b_list xr rfl) (qa (qY (v:=.ty "tuple") rfl T.b_tuple XV rfl) qc))) qc))))) (qe jF) qt)
 (qd (qJ (qp qeZ (qj (zx (K:=K) rfl) rfl T.b_len YM (qa (pv 1) qc)) (zN rfl T.g_MOST_TIES) (qv _)) (qe jF) qt)
 (qd (qq (i:=2) KN.nd rfl (yF rfl) (qz qcg (qA (qa qh qc)) (qj (zx (K:=K) rfl) rfl T.b_len YM (qa (pv 0) qc))))
 (qd (jy yW rfl (qF (K:=K) rfl (pv 1)) (qo (i:=3) KN.nd rfl (yF rfl))
 (qd (qJ (qS (qN (qi uV (hmR hr) qr (qa (pv 0) (qa (pv 3) qc))))) (qe jF) qt)
 (qd (qq (i:=4) KN.nd rfl (yF rfl) (qB (qC (K:=K) rfl j) (pv 0) (qB (qC (K:=K) rfl j) (pv 3) qh (λ_ _=>rfl)) (λ_ _=>rfl)))
 (qd (qq (i:=5) KN.nd rfl (yF rfl) (qB (qC (K:=K) rfl j) (pv 0) (qB (qC (K:=K) rfl j) (pv 3) qh (λ_ _=>rfl)) (λ_ _=>rfl)))
 (qd (qJ (qN (qi Kv (hmR hr) qr (qa (qB (qC (K:=K) rfl j) (pv 2) (pv 4) (λ_ _=>rfl)) (qa (pv 5) qc)))) (qe jF) qt)
 (qd (qa2 (qz qge (qB (qC (K:=K) rfl j) (pv 2) (pv 4) (λ_ _=>rfl)) (qz qdv qh (pv 5))) (qbL (pv 2) (pv 4) (qbO j)))
 (qe (qa2 (qz qge (qB (qC (K:=K) rfl j) (pv 2) (pv 5) (λ_ _=>rfl)) (qz qdv qh (pv 4))) (qbL (pv 2) (pv 5) (qbO j))))))))))
 (qe (qm (pv 2))))))),?_⟩
  apply⟨wqqk,λg Z=>?_⟩;have s0:=qu (Sr H) (o:=.tup [.ty "list",.ty "tuple"]) Z;apply qgQ (hl.same s0) qb ?_;apply yp ?_;apply qgR (hl.same s0) ?_;rw[ya];apply qI (λh=>by have:=yj h;lk) λ_=>?_;apply⟨wqqj,λz ag=>?_⟩;have s1:=qu s0 (o:=.lst [.int 0]) ag;apply .inr ⟨_,s1 _ _ W,?_⟩;ext;rw[qau];show⟨z,_,_,rfl,rfl,qb,by lk,by lk,by show 1*_<=sizeLine;rw[Ym];show yI (qg (by lk)),λn hn=>?_⟩;rw[Ym,natV_zero];have s2:=qu s1 (o:=.lst (qdn (List.replicate ss.length 0))) hn;have n0:H n=none:=s1.free hn;apply qgS (K:=K) hl s2 (λi σ H'=>∃ v3 v4 v5 ns,σ=[some (.ref d),some (.ref l),some (.ref n),v3,v4,v5]/\L2.Same H H'/\H' n=some (.lst (qdn ns))/\qcP ss ns (tps.take i))
   ⟨none,none,none,_,rfl,s2,qb,bits_zero⟩ (λi σ H' I=>by obtain⟨_,_,_,_,_,z,_⟩:=I;show z) (λi y σ H' hy I=>?_) fun σ H' I=>?_
  .obtain⟨v3,v4,v5,ns,rfl,N,A,a⟩:=I;rw[yd] at hy;obtain⟨t,ht,rfl⟩:=ym.mp hy;have aa:i<ts.length:=(yc.mp ht).1;obtain⟨⟨p,r⟩,u⟩:∃ ab,tps[i]?=some ab:=⟨_,yb (by rw[<- L];show aa)⟩;have U:=D.at_ i t _ ht u;obtain⟨m1,X,c⟩:=Y.inn _ (ye u);dsimp only at U m1 X c;have J:tps.take (i+1)=tps.take i++[(p,r)]:=by rw[yL,u];rfl
   have af:¬ ((p,r)∈tps.take i\/(r,p)∈tps.take i):=λz=>by
    have h3:(tps.take (i+1)).Pairwise UN:=Y.un.sublist (kB _ _);rw[J] at h3;have h4:=(X7.mp h3).2.2;rcases z with z | z
    .show(h4 _ z (p,r) (by simp)).1 rfl
    .show(h4 _ z (p,r) (by simp)).2 rfl
   obtain⟨C,ac,b,R⟩:=zq (i:=0) m1;obtain⟨B,ad,s,S⟩:=zq (i:=0) X;rw[xS] at R S;have ah:C≠B:=λe=>by rw[e,s] at b;cases b;show c rfl
   have m:C<ns.length:=by rw[a.1];show ac
   have M:B<ns.length:=by rw[a.1];show ad
   apply⟨d,t,ss,p,r,rfl,N _ _ W,N _ _ U,G _ m1,G _ X,m1,X,c,λH1 t1=>?_⟩;have O:=N.trans t1;have x:=t1 _ _ A;apply yp ?_;apply .inl (qcC (O _ _ U) rfl ?_);show .inr ⟨d,.int C,rfl,?_,?_⟩
   .have:=DGet.k (k:=Sum.inr p) (O _ _ W);rw[R] at this;show this
   apply .inl (qcC (O _ _ U) rfl ?_);show .inr ⟨d,.int B,rfl,?_,?_⟩
   .have:=DGet.k (k:=Sum.inr r) (O _ _ W);rw[S] at this;show this
   apply .inl (qbW x (atI_nat (qbs m)) ?_);apply⟨_,_,rfl,by lk,?_⟩;rw[qc7,a.2.2 C B p r b s,yk af];apply yp ?_;apply .inl (qbW x (atI_nat (qbs m)) ?_);apply vI ⟨by lk,by lk,by decide⟩ ?_;ext;rw[qgP];show .inl (qhb x (qbb (by unfold qdn;rw[ya];show m)) ?_);rw[qeR];ext;have e2:(ns.set C (ns.getD C 0 ||| 2 ^ B)).getD B 0=ns.getD B 0:=by rw[qbr m,yB ah]
   show .inl (qbW qb (atI_nat (qbs (by simpa using M))) ?_);apply vI ⟨by lk,by lk,by decide⟩ ?_;ext;rw[qgP,e2];show .inl (qhb qb (qbb (by unfold qdn;rw[ya];simpa using M)) ?_);rw[qeR];show⟨_,_,_,_,rfl,qhk (qhk O n0) n0,qb,?_⟩;rw[J];show bits_step a ae b s c
  .obtain⟨v3,v4,v5,ns,rfl,N,A,a⟩:=I;ext;rw[ya,L,yD] at a;show q n _ H' N n0 A a
inductive spWeb(cw:Addr)(vs:List V)(H:Hp)(Q:VK)(E:XK):Prop|mk (x dx a l:Addr) (ss:LS) (ts:LI) (tps:LP) (_:vs=[.ref x,.ref a,.ref l]) (_:H x=some (.ins cw dx [])) (_:LTu H a (ss.map V.str)) (_:ss.length<=14) (_:ss.Nodup) (_:(∀ s∈ss,jx s=true)) (_:PLT H l ts tps) (_:TGo ss tps) (_:∀ ns H',But x H H'->WebN H cw H' x ss ns->qcP ss ns tps->Q .non H')
theorem PLT.but{fs:List (Str×V)}(h:PLT H l ts tps)(a:H x=some (.ins C dx fs))(b:But x H H'):PLT H' l ts tps:=
 ⟨h.1.imp (λe=>b _ _ (qbB e a (by intro z;cases z)) e) (λe=>b _ _ (qbB e a (by intro z;cases z)) e),h.2.mono λt c e=>b _ _ (qbB e a (by intro z;cases z)) e⟩
theorem ok_web(F:Fun K "__init__" "Web.__init__" qaT f fd)(T:Txt K mg cc cw)(Y:wqqe 4 "numbers_of" ["names"] spNums)(X:wqqe 4 "near_of" wqqc spNear) :
  wqqg 5 f fd wqI (spWeb cw):=by
 show F.ok UB λ_ _ _ _ H vs Q E N h=>?_
 .obtain⟨x,dx,a,l,ss,ts,tps,rfl,U,ha,j,nd,p,M,hg,q⟩:=h;have hu:=jJ N;show⟨_,(qd (zX (K:=K) rfl (pv 0) (qi Y (hmR N) qr (qa (pv 1) qc)) rfl)
 (qd (zX (K:=K) rfl (pv 0) (jz (qco (K:=K) rfl rfl) rfl T.b_list xr (qa (jA (K:=K) rfl (pv 0) rfl) qc)) rfl)
 (qe (zX (K:=K) rfl (pv 0) (qi X (hmR N) qr (qa (jA (K:=K) rfl (pv 0) rfl) (qa (pv 2) qc))) rfl)))),?_⟩
  apply⟨a,ss,rfl,ha,j,nd,p,λd H1 W L S=>?_⟩;have Z:=(But.refl x H).same W;have A:=W _ _ U;have r:d≠x:=qbB S A (by intro z;cases z);apply .inl ⟨x,cw,dx,[],rfl,A,T.wcl,T.wn,by decide,?_⟩;have J:=Z.put (o:=.ins cw dx (jK "numbers" (.ref d) []));have g:upd H1 x (.ins cw dx (jK "numbers" (.ref d) [])) d=some (.dK (qbP ss 0)):=by rw[qk r];show S
  have c:upd H1 x (.ins cw dx (jK "numbers" (.ref d) [])) x=_:=qb;generalize upd H1 x (.ins cw dx (jK "numbers" (.ref d) []))=H2 at J g c;apply .inl ⟨x,cw,dx,_,.ref d,rfl,c,T.wcl,T.wn,by rw[qD,yH rfl],?_⟩;apply .inr (.inl ⟨d,_,rfl,g,λol s=>?_⟩);rw[qdR];have G:ol≠x:=λe=>by subst e;rw[c] at s;cases s
  have b3:=J.new (o:=.lst (ss.map V.str)) s
  have y:H ol=none:=by
   cases R:H ol with
   | none=>rfl
   | some o'=>rw[J ol o' G R] at s;cases s
  have O:d≠ol:=qM g s;apply .inl ⟨x,cw,dx,_,rfl,(by rw[qk G.symm];show c),T.wcl,T.wo,Xh (zj _ _ _) (by decide),?_⟩;have D:=b3.put (o:=.ins cw dx (jK "order" (.ref ol) (jK "numbers" (.ref d) [])));have m:upd (upd H2 ol (.lst (ss.map V.str))) x (.ins cw dx (jK "order" (.ref ol) (jK "numbers" (.ref d) []))) d=some (.dK (qbP ss 0)):=by rw[qk r,qk O];show g
  have v:upd (upd H2 ol (.lst (ss.map V.str))) x (.ins cw dx (jK "order" (.ref ol) (jK "numbers" (.ref d) []))) ol=some (.lst (ss.map V.str)):=by rw[qk G];show qb
  have i:upd (upd H2 ol (.lst (ss.map V.str))) x (.ins cw dx (jK "order" (.ref ol) (jK "numbers" (.ref d) []))) x=_:=qb;generalize upd (upd H2 ol (.lst (ss.map V.str))) x (.ins cw dx (jK "order" (.ref ol) (jK "numbers" (.ref d) [])))=H3 at D m v i;apply .inl ⟨x,cw,dx,_,.ref d,rfl,i,T.wcl,T.wn,by rw[qD,yB (by room),qD,yH rfl],?_⟩;apply⟨d,l,ss,ts,tps,rfl,m,j,nd,p,M.but U D,hg,λn ns H4 I t hn b=>?_⟩;have B:=I _ _ i;have C:n≠x:=qbB hn B (by intro z;cases z);apply .inl ⟨x,cw,dx,_,rfl,B,T.wcl,T.wr,Xh (zj _ _ _) (Xh (kO (zj _ _ _)) (by decide)),?_⟩
  have u:H n=none:=by
   cases R:H n with
   | none=>rfl
   | some o'=>rw[D n o' C R] at t;cases t
  show q ns _ (D.same I).put ⟨dx,d,ol,n,qb,by rw[qk r];show I _ _ m,by rw[qk G];show I _ _ v,by rw[qk C];show hn,⟨b.1,j,nd,b.2.1,p⟩,L,y,u⟩ b
theorem Ul:FnScope wqs wqs (qf zR):=fS
theorem K4:FnScope wqH wqH (qf jB):=fS
theorem K5:FnScope wqe wqe (qf jC):=fS
theorem Um:FnScope wqe wqe (qf zS):=fS
theorem uF:FnScope wqe wqe (qf jG):=fS
theorem Ua:FnScope wqV wqV (qf jO):=fS
theorem zD{d n:V}:(jK "near" n (jK "order" ol (jK "numbers" d []))).lookup ("numbers":Str)=some d:=by
 rw[qD,yB (by room),qD,yB (by room),qD,yH rfl]
theorem qb3{d n:V}:(jK "near" n (jK "order" ol (jK "numbers" d []))).lookup ("order":Str)=some ol:=by
 rw[qD,yB (by room),qD,yH rfl]
theorem qfG{d n:V}:(jK "near" n (jK "order" ol (jK "numbers" d []))).lookup ("near":Str)=some n:=by
 rw[qD,yH rfl]
theorem zH{f:Str}{d n:V}(h:(f=="near"||f=="order"||f=="numbers")=false):(jK "near" n (jK "order" ol (jK "numbers" d []))).lookup f=none:=by
 simp only[Bool.or_eq_false_iff,Yr] at h;rw[qD,yB h.1.1,qD,yB h.1.2,qD,yB h.2];rfl
def inB:LS->Nat->Nat->LS
 | [],_,_=>[]
 | s::r,i,b=>if b.testBit i=true then s::inB r (i+1) b else inB r (i+1) b
theorem qb4(y:Str)(b:Nat):∀(l:LS) (k:Nat),inB (l++[y]) k b=inB l k b++(if b.testBit (k+l.length)=true then [y] else [])
 | [],k=>by simp[inB]
 | s::r,k=>by
  have a:=qb4 y b r (k+1);have e:k+1+r.length=k+(s::r).length:=by simp;lk
  rw[e] at a;simp only[kQ,inB,a];split<;>simp
theorem qc8(b:Nat):∀(l:LS) (k:Nat),(inB l k b).length<=l.length
 | [],_=>yg _
 | s::r,k=>by
  have a:=qc8 b r (k+1);simp only[inB];split
  .simp;lk
  .simp;lk
inductive spHas(cw:Addr)(vs:List V)(H:Hp)(Q:VK)(E:XK):Prop|mk (x:Addr) (ss:LS) (ns:LN) (y:Str) (_:vs=[.ref x,.str y]) (_:WebAt cw H x ss ns) (_:y∈ss) (_:∀ H',L2.Same H H'->Q (.bl true) H')
inductive spNum(cw:Addr)(vs:List V)(H:Hp)(Q:VK)(E:XK):Prop|mk (x:Addr) (ss:LS) (ns:LN) (y:Str) (j:Nat) (_:vs=[.ref x,.str y]) (_:WebAt cw H x ss ns) (_:ss[j]?=some y) (_:∀ H',L2.Same H H'->Q (.int (j:Nat)) H')
inductive spBB(cw:Addr)(vs:List V)(H:Hp)(Q:VK)(E:XK):Prop|mk (x:Addr) (ss:LS) (ns:LN) (y:Str) (j:Nat) (_:vs=[.ref x,.str y]) (_:WebAt cw H x ss ns) (_:ss[j]?=some y) (_:∀ H',L2.Same H H'->Q (.int (ns.getD j 0:Nat)) H')
inductive spNIn(cw:Addr)(vs:List V)(H:Hp)(Q:VK)(E:XK):Prop|mk (x:Addr) (ss:LS) (ns:LN) (b:Nat) (_:vs=[.ref x,.int b]) (_:WebAt cw H x ss ns) (_:∀ l,H l=none->Q (.ref l) (upd H l (.lst ((inB ss 0 b).map V.str))))
inductive spBs(cw:Addr)(vs:List V)(H:Hp)(Q:VK)(E:XK):Prop|mk (x:Addr) (ss:LS) (ns:LN) (y:Str) (j:Nat) (_:vs=[.ref x,.str y]) (_:WebAt cw H x ss ns) (_:ss[j]?=some y) (_:∀ H',L2.Same H H'->∀ l,H' l=none->Q (.ref l) (upd H' l (.lst ((inB ss 0 (ns.getD j 0)).map V.str))))
inductive spPls(cw:Addr)(vs:List V)(H:Hp)(Q:VK)(E:XK):Prop|mk (x:Addr) (ss:LS) (ns:LN) (_:vs=[.ref x]) (_:WebAt cw H x ss ns) (_:∀ l,H l=none->Q (.ref l) (upd H l (.lst (ss.map V.str))))
theorem ok_has(F:Fun K "has_place" "Web.has_place" jB f fd)(T:Txt K mg cc cw)(b:wqqe 2 "is_place" wqq spPlace):wqqg 3 f fd wqH (spHas cw):=by
 show F.ok K4 λ_ _ _ _ H vs Q E e h=>?_
 .obtain⟨x,ss,ns,y,rfl,⟨dx,d,ol,n,g,c,i,hn,hw⟩,a,q⟩:=h;show⟨_,(qe (qm (qi b (hmR e) qr (qa (jA (K:=K) rfl (pv 0) rfl) (qa (pv 1) qc))))),?_⟩;apply .inl ⟨x,cw,dx,_,.ref d,rfl,g,T.wcl,T.wn,zD,?_⟩;apply⟨d,ss,y,rfl,c,hw.nm _ a,a,q⟩
theorem ok_num(F:Fun K "number_of" "Web.number_of" jC f fd)(T:Txt K mg cc cw)(o:wqqf 3 cw "has_place" wqH (spHas cw)):wqqg 4 f fd wqe (spNum cw):=by
 show F.ok K5 λ_ _ _ _ H vs Q E e h=>?_
 .obtain⟨x,ss,ns,y,j,rfl,c,b,q⟩:=h;obtain⟨dx,d,ol,n,g,r,u,hn,hw⟩:=id c;have l:=ye b;have s:=jJ e;show⟨_,(qd (qJ (qS (qN (qZ o (hmR e) (pv 0) (qa (pv 1) qc)))) (qe jF) qt)
 (qe (qm (qB (qC (K:=K) rfl s) (jA (K:=K) rfl (pv 0) rfl) (pv 1) (λ_ _=>rfl))))),?_⟩
  apply⟨x,dx,_,rfl,g,zH (by room),?_⟩;apply⟨x,ss,ns,y,rfl,c,l,λH1 a=>?_⟩;apply yp ?_;obtain⟨i,t,p,m⟩:=zq (i:=0) l;rw[xS,ji hw.nd p b] at m;apply .inl ⟨x,cw,dx,_,.ref d,rfl,a _ _ g,T.wcl,T.wn,zD,?_⟩;apply .inr ⟨d,.int j,rfl,?_,q H1 a⟩;have:=DGet.k (k:=Sum.inr y) (a _ _ r);rw[m] at this;show this
theorem ok_bb(F:Fun K "bits_beside" "Web.bits_beside" jG f fd)(T:Txt K mg cc cw)(i:wqqf 4 cw "number_of" wqe (spNum cw)):wqqg 5 f fd wqe (spBB cw):=by
 show F.ok uF λ_ _ _ _ H vs Q E c h=>?_
 .obtain⟨x,ss,ns,y,j,rfl,b,a,q⟩:=h;obtain⟨dx,d,ol,n,e,m,o,hn,hw⟩:=id b;have l:=jJ c;show⟨_,(qe (qm (qB (qC (K:=K) rfl l) (jA (K:=K) rfl (pv 0) rfl) (qZ i (hmR c) (pv 0) (qa (pv 1) qc)) (λ_ _=>rfl)))),?_⟩;apply .inl ⟨x,cw,dx,_,.ref n,rfl,e,T.wcl,T.wr,qfG,?_⟩;apply⟨x,dx,_,rfl,e,zH (by room),?_⟩;apply⟨x,ss,ns,y,j,rfl,b,a,λH1 g=>?_⟩;show .inl (qbW (g _ _ hn) (atI_nat (qbs (by rw[hw.len];show(yc.mp a).1))) (q H1 g))
theorem ok_nin(F:Fun K "names_in" "Web.names_in" jO f fd)(T:Txt K mg cc cw)(z:wqqe 1 "has_bit" wqB spBit):wqqg 2 f fd wqV (spNIn cw):=by
 show F.ok Ua λ_ _ _ _ H vs Q E t h=>?_
 .obtain⟨x,ss,ns,b,rfl,⟨dx,d,ol,n,u,C,s,hn,hw⟩,q⟩:=h;have G:=jJ t;show⟨_,(qe (qm (qG (sc:=qf jO) (XN:=wqV) ["name","bits","self"] 1 [1,0] rfl rfl rfl (by room) rfl (by room)
  (qF (K:=K) rfl (jA (K:=K) rfl (pv 0) rfl)) (λ_ _ _ _=>(qo (i:=0) (show(["name","bits","self"]:LS).Nodup by room) rfl (yF rfl))) qE
  (λ_ _ _ _=>(qP (qN (qi z (hmR t) qr (qa (pv 1) (qa (qB (qC (K:=K) rfl G) (jA (K:=K) rfl (pv 2) rfl) (pv 0) (λ_ _=>rfl)) qc))))))
  (λ_ _ _ _=>(pv 0))))),?_⟩
  apply .inl ⟨x,cw,dx,_,.ref ol,rfl,u,T.wcl,T.wo,qb3,?_⟩;show .inl ⟨⟨_,SqL.of s⟩,qx (K:=K) (λi ys H'=>H'=H/\ys=(inB (ss.take i) 0 b).map V.str) ⟨rfl,by simp[inB]⟩ (λi ys H' _ e=>by rw[e.1];show SqL.of s) (λi y ys H' p e=>?_) λys H' e=>?_⟩
  .obtain⟨rfl,rfl⟩:=e;have D:i<ss.length:=by simpa using(yc.mp p).1
   have c:ss[i]?=some ss[i]:=yb D;generalize ss[i]=r at c;have A:y=.str r:=by rw[yd,c] at p;cases p;rfl
   subst A;obtain⟨j,I,B,v⟩:=zq (i:=0) (ye c);rw[xS] at v;have o:j=i:=ji hw.nd B c;subst o;have g:ss.take (j+1)=ss.take j++[r]:=by rw[yL,c];rfl
   have a:(ss.take j).length=j:=by rw[yN];lk
   apply .inl ⟨x,cw,dx,_,.ref d,rfl,u,T.wcl,T.wn,zD,?_⟩;apply .inr ⟨d,.int j,rfl,?_,?_⟩
   .have:=DGet.k (k:=Sum.inr r) C;rw[v] at this;show this
   apply⟨_,_,rfl,by lk,?_⟩;rw[qc7];ext
   have few:((inB (ss.take j) 0 b).map V.str).length<sizeLine:=by
    rw[ya];show qg (yh (qc8 _ _ _) (by rw[a];have:=hw.few;lk))
   show qI (λhb=>?_) λhb=>?_
   .ext;show⟨few,rfl,?_⟩;rw[g,qb4,a,xS,yH hb];simp
   .show⟨rfl,?_⟩;rw[g,qb4,a,xS,yB hb];simp
  .obtain⟨rfl,rfl⟩:=e;have m:ss.take (ss.map V.str).length=ss:=by rw[ya,yD]
   rw[m];show⟨?_,λl hl=>q l hl⟩;rw[ya];show yI (qg (yh (qc8 _ _ _) (by have:=hw.few;lk)))
theorem ok_bs(F:Fun K "beside" "Web.beside" zS f fd)(T:Txt K mg cc cw)(i:wqqf 5 cw "bits_beside" wqe (spBB cw))(g:wqqf 2 cw "names_in" wqV (spNIn cw)):wqqg 6 f fd wqe (spBs cw):=by
 show F.ok Um λ_ _ _ _ H vs Q E b h=>?_
 .obtain⟨x,ss,ns,y,j,rfl,a,l,q⟩:=h;obtain⟨dx,d,ol,n,c,_⟩:=id a;show⟨_,(qe (qm (qZ g (hmR b) (pv 0) (qa (qZ i (hmR b) (pv 0) (qa (pv 1) qc)) qc)))),?_⟩;apply⟨x,dx,_,rfl,c,zH (by room),?_⟩;apply⟨x,dx,_,rfl,c,zH (by room),?_⟩;apply⟨x,ss,ns,y,j,rfl,a,l,λH1 e=>?_⟩;apply⟨x,ss,ns,_,rfl,a.same e,q H1 e⟩
theorem ok_pls(F:Fun K "places" "Web.places" zR f fd)(T:Txt K mg cc cw):wqqg 1 f fd wqs (spPls cw):=by
 show F.ok Ul λ_ _ _ _ H vs Q E e h=>?_
 .obtain⟨x,ss,ns,rfl,⟨dx,d,ol,n,b,c,a,hn,hw⟩,q⟩:=h;show⟨_,(qe (qm (jz (qco (K:=K) rfl rfl) rfl T.b_list xr (qa (jA (K:=K) rfl (pv 0) rfl) qc)))),?_⟩;apply .inl ⟨x,cw,dx,_,.ref ol,rfl,b,T.wcl,T.wo,qb3,?_⟩;apply .inl ⟨ol,_,rfl,.inl (SqL.of a),q⟩
theorem Ku:FnScope ["self","pieces","seen","number","piece"] wqs (qf zT):=fS
theorem Ko:FnScope ["near","number","piece","before","at","bits"] ["near","number"] (qf zn):=fS
theorem qfH(m k:Nat):Builtin.bitOr (m:Int) (k:Int)=((m ||| k:Nat):Int):=by
 have c:Builtin.bitNot (m:Int)=-(m:Int)-1:=rfl;have d:Builtin.bitNot (k:Int)=-(k:Int)-1:=rfl;unfold Builtin.bitOr Builtin.bitAnd;rw[c,d,yk (by lk),yk (by lk)];dsimp only;unfold Builtin.bitNot;have a:(-(-(m:Int)-1)-1).toNat=m:=by lk
 have b:(-(-(k:Int)-1)-1).toNat=k:=by lk
 rw[a,b];lk
theorem shl_nat(j:Nat):(1*2 ^ (j:Int).toNat:Int)=((2 ^ j:Nat):Int):=by rw[Ym,Int.one_mul,XA];rfl
inductive Rch(ns:LN)(i:Nat):Nat->Prop
 | zero:Rch ns i i
 | step {a b:Nat} (h:Rch ns i a) (t:(ns.getD a 0).testBit b=true):Rch ns i b
theorem Rch.trans{a b:Nat}(h:Rch ns i a)(g:Rch ns a b):Rch ns i b:=by
 induction g with
 | zero=>show h
 | step _ t ih=>show .step ih t
inductive spPc(vs:List V)(H:Hp)(Q:VK)(E:XK):Prop|mk (n:Addr) (ns:LN) (i:Nat) (_:vs=[.ref n,.int i]) (_:H n=some (.lst (qdn ns))) (_:i<ns.length) (_:ns.length<=14) (_:(∀ a,ns.getD a 0<2 ^ ns.length)) (_:∀(b:Nat) (H':Hp),L2.Same H H'->(∀ c,b.testBit c=true↔Rch ns i c)->Q (.int b) H')
def qe8(ns:LN)(k:Nat):Bool:=@decide (∀ j,j<k->¬ Rch ns j k) (Classical.propDecidable _)
theorem isRep_iff{k:Nat}:qe8 ns k=true↔∀ j,j<k->¬ Rch ns j k:=by unfold qe8;show @decide_eq_true_iff _ (Classical.propDecidable _)
def qfd(ns:LN)(n:Nat):LN:=(List.range n).filter (qe8 ns)
open Classical in
def qcs(ss:LS)(ns:LN)(k:Nat):LS:=ss.filter λs=>decide (Rch ns k (ss.idxOf s))
theorem idx_at(hn:ss.Nodup)(h:ss[i]?=some s):ss.idxOf s=i:=by
 have hm:s∈ss:=ye h;have hl:ss.idxOf s<ss.length:=Yj hm;show ji hn (by rw[yb hl,Yy]) h
theorem qag(hn:ss.Nodup)(b:Nat):inB ss 0 b=ss.filter λs=>b.testBit (ss.idxOf s):=by
 have key:∀ k,k<=ss.length->inB (ss.take k) 0 b=(ss.take k).filter λs=>b.testBit (ss.idxOf s):=λk=>by
  induction k with
  | zero=>intro _;simp[inB]
  | succ k ih =>
   intro f;have a:ss[k]?=some ss[k]:=yb (by lk);generalize ss[k]=e at a;have d:ss.take (k+1)=ss.take k++[e]:=by rw[yL,a];rfl
   have c:(ss.take k).length=k:=by rw[yN];lk
   rw[d,qb4,Yd,ih (by lk),c,xS]
   congr 1
   rw[yZ,XB,idx_at hn a]
 have:=key ss.length (yg _)
 rwa[yD] at this
theorem comp_of(hn:ss.Nodup){b k:Nat}(h:∀ c,b.testBit c=true↔Rch ns k c):inB ss 0 b=qcs ss ns k:=by
 rw[qag hn];unfold qcs;apply XJ;intro s _;rw[Ye,h];simp
def qir(H H':Hp)(l:Addr)(a:Addr)(ps:LS):Prop:=H a=none/\a≠l/\H' a=some (.lst (ps.map V.str))
inductive spPcs(cw:Addr)(vs:List V)(H:Hp)(Q:VK)(E:XK):Prop|mk (x:Addr) (ss:LS) (ns:LN) (_:vs=[.ref x]) (_:WebAt cw H x ss ns) (_:∀(l:Addr) (ls:LI) (H':Hp),L2.Same H H'->H l=none->H' l=some (.lst (ls.map V.ref))->All2 (qir H H' l) ls ((qfd ns ss.length).map (qcs ss ns))->Q (.ref l) H')
theorem ok_pc(F:Fun K "piece_around" "piece_around" zn f fd)(T:Txt K mg cc cw)(Kv:wqqe 1 "has_bit" wqB spBit):wqqg 2 f fd ["near","number"] spPc:=by
 show F.ok Ko λ_ _ _ _ H vs Q E Y h=>?_
 .obtain⟨n,ns,i,rfl,hn,hi,aa,O,q⟩:=h;have hu:=jJ Y;show⟨_,(qd (qq (i:=2) Ko.nd rfl (yF rfl) (qz qdv qh (pv 1)))
 (qd (qq (i:=3) Ko.nd rfl (yF rfl) qh)
 (qd (qcW yW (qp (qaK (K:=K) rfl hu) (pv 3) (pv 2) (qv _))
 (qd (qq (i:=3) Ko.nd rfl (yF rfl) (pv 2))
 (qe (jy yW rfl (qea (K:=K) rfl rfl T.b_enumerate (qa (pv 0) qc)) (qa1 rfl (qW (qo (i:=4) Ko.nd rfl (yF rfl)) (qW (qo (i:=5) Ko.nd rfl (yF rfl)) zV)))
 (qe (qJ (qN (qi Kv (hmR Y) qr (qa (pv 3) (qa (pv 4) qc)))) (qe (qq (i:=2) Ko.nd rfl (yF rfl) (qz qge (pv 2) (pv 5)))) qt))))))
 (qe (qm (pv 2)))))),?_⟩
  apply vI ⟨by lk,by lk,by decide⟩ ?_;ext;rw[shl_nat];have two:∀ c,(2 ^ i:Nat).testBit c=decide (i=c):=λc=>Y9;show⟨λm σ H'=>∃(pc b:Nat) (j l:Option V),m=2 ^ ns.length-b/\σ=[some (.ref n),some (.int i),some (.int pc),some (.int b),j,l]/\L2.Same H H'/\b ||| pc=pc/\pc<2 ^ ns.length/\pc.testBit i=true/\(∀ c,pc.testBit c=true->Rch ns i c)/\∀ a c,b.testBit a=true->(ns.getD a 0).testBit c=true->pc.testBit c=true,
   ⟨_,2 ^ i,0,none,none,rfl,rfl,L2.Same.refl H,by simp,Xo (by decide) hi,by rw[two];simp,λc hc=>by rw[two] at hc;rw[<- yj hc];show .zero,λa c J=>by simp at J⟩,λm σ H1 hW=>?_⟩
  obtain⟨pc,b,j,l,rfl,rfl,U,G,D,C,d,x⟩:=hW;apply .inl ⟨rfl,rfl,?_⟩;apply qI (λR=>?_) λA=>?_
  .have X:b≠pc:=λe=>by
    subst e;simp[eqV] at R
   have ab:b<pc:=by
    have h1:b<=b ||| pc:=Nat.left_le_or;rw[G] at h1;lk
   show⟨λI H'=>∃(pk:Nat) (j l:Option V),I=[some (.ref n),some (.int i),some (.int pk),some (.int pc),j,l]/\L2.Same H H'/\pc ||| pk=pk/\pk<2 ^ ns.length/\pk.testBit i=true/\(∀ c,pk.testBit c=true->Rch ns i c)/\∀ a c,pc.testBit a=true->(ns.getD a 0).testBit c=true->pk.testBit c=true,
    λI H' hN=>?_,?_⟩
   .obtain⟨pk,j,l,rfl,k1,k2,k3,k4,k5,k6⟩:=hN;show⟨2 ^ ns.length-pc,by lk,pk,pc,j,l,rfl,rfl,k1,k2,k3,k4,k5,k6⟩
   .ext;show⟨n,qdn ns,rfl,SqL.of (U _ _ hn),qc2 (K:=K) (λk σ H'=>∃(pk:Nat) (j l:Option V),σ=[some (.ref n),some (.int i),some (.int pk),some (.int pc),j,l]/\L2.Same H H'/\pc ||| pk=pk/\pk<2 ^ ns.length/\(∀ c,pk.testBit c=true->Rch ns i c)/\∀ a c,a<k->pc.testBit a=true->(ns.getD a 0).testBit c=true->pk.testBit c=true)
     ⟨pc,_,_,rfl,U,by simp,D,d,λa c h=>by lk⟩ (λk σ H' _ B=>by obtain⟨_,_,_,_,z,_⟩:=B;show SqL.of (z _ _ hn)) (λk y t σ H2 S ht B=>?_) fun σ H2 B=>?_⟩
    .obtain⟨pk,j,l,rfl,W,g,r,s,p⟩:=B;have Z:=qu W (o:=.tup [.int k,y]) ht;have M:k<ns.length:=by have:=(yc.mp S).1;unfold qdn at this;simpa using this
     have ey:y=.int (ns.getD k 0:Nat):=by rw[qbs M] at S;cases S;rfl
     show⟨t,_,rfl,SqT.of qb,rfl,_,_,rfl,_,_,rfl,rfl,?_⟩;subst ey;apply⟨_,_,rfl,by lk,?_⟩;rw[qc7];apply qI (λhb=>?_) λhb=>?_
     .ext;rw[qfH];show⟨pk ||| ns.getD k 0,_,_,rfl,Z,by rw[<- Nat.or_assoc,g],kH r (O k),λc hc=>?_,λa c J h1 v=>?_⟩
      .rw [Xe,xu] at hc;rcases hc with hc | hc
       .show s c hc
       .show .step (d k hb) hc
      .rw [Xe,xu];by_cases u:a=k
       .subst u;show .inr v
       .show .inl (p a c (by lk) h1 v)
     .show⟨pk,_,_,rfl,Z,g,r,s,λa c J h1 v=>?_⟩;by_cases u:a=k
      .subst u;show absurd h1 hb
      .show p a c (by lk) h1 v
    .obtain⟨pk,j,l,rfl,W,g,r,s,p⟩:=B;show⟨pk,j,l,rfl,W,g,r,by rw[<- g,Xe,C];rfl,s,λa c h1 v=>p a c ?_ h1 v⟩
     have N:a<ns.length:=by
      show Nat.lt_of_not_le λL=>?_;have:pc.testBit a=false:=YU (yi D (YR (by decide) L));rw[this] at h1;cases h1
     unfold qdn;rw[ya];show N
  .have he:b=pc:=by
    simp only[Xq,eqV,xQ,Bool.not_eq_false'] at A;have:((b:Int)==(pc:Int))=true:=by simpa using A
    have:=eq_of_beq this;lk
   subst he;apply q b H1 U λc=>⟨d c,λhc=>?_⟩
   induction hc with
   | zero=>show C
   | step _ t ih=>show x _ _ ih t
theorem qdS(ns:LN)(k:Nat):((∃ j,j<k/\Rch ns j k)->qfd ns (k+1)=qfd ns k)/\((¬ ∃ j,j<k/\Rch ns j k)->qfd ns (k+1)=qfd ns k++[k]):=by
 unfold qfd;rw[xN,Yd];constructor
 .rintro ⟨j,a,b⟩
  have e:qe8 ns k=false:=by
   rw[kF];intro h;show isRep_iff.mp h j a b
  simp[e]
 .intro h;have e:qe8 ns k=true:=isRep_iff.mpr λj a b=>h ⟨j,a,b⟩;simp[e]
theorem ok_pcs(F:Fun K "pieces" "Web.pieces" zT f fd)(T:Txt K mg cc cw)(Y:wqqe 1 "has_bit" wqB spBit)(Z:wqqe 2 "piece_around" ["near","number"] spPc)
  (X:wqqf 2 cw "names_in" wqV (spNIn cw)):wqqg 3 f fd wqs (spPcs cw):=by
 show F.ok Ku λ_ _ _ _ H vs Q E I h=>?_
 .obtain⟨x,ss,ns,rfl,U,q⟩:=h;obtain⟨dx,d,ol,n,N,hd,ho,hn,hw⟩:=id U;show⟨_,(qd (qq (i:=1) Ku.nd rfl (yF rfl) (qA qc))
 (qd (qq (i:=2) Ku.nd rfl (yF rfl) qh)
 (qd (jy yW rfl (qaa rfl T.b_range (qa (qj (zx (K:=K) rfl) rfl T.b_len YM (qa (jA (K:=K) rfl (pv 0) rfl) qc)) qc)) (qo (i:=3) Ku.nd rfl (yF rfl))
 (qe (qJ (qS (qN (qi Y (hmR I) qr (qa (pv 2) (qa (pv 3) qc))))) (qd (qq (i:=4) Ku.nd rfl (yF rfl) (qi Z (hmR I) qr (qa (jA (K:=K) rfl (pv 0) rfl) (qa (pv 3) qc))))
 (qd (qq (i:=2) Ku.nd rfl (yF rfl) (qz qge (pv 2) (pv 4)))
 (qe (qK (qcN (K:=K) rfl yO yT yU qR (pv 1) (qa (qZ X (hmR I) (pv 0) (qa (pv 4) qc)) qc)))))) qt)))
 (qe (qm (pv 1)))))),?_⟩
  apply⟨by decide,λl hl=>?_⟩;have O:=qu (Sr H) (o:=.lst []) hl;apply .inl ⟨x,cw,dx,_,.ref ol,rfl,O _ _ N,T.wcl,T.wo,qb3,?_⟩;apply qaJ (O _ _ ho) ?_;rw[ya];have few:=hw.few;show⟨_,rfl,by lk,by lk,?_⟩;rw[Ym];show qaG (λk σ H'=>k<=ss.length/\∃(C:Nat) (m:LI) (R S:Option V),σ=[some (.ref x),some (.ref l),some (.int C),R,S]/\L2.Same H H'/\H' l=some (.lst (m.map V.ref))/\All2 (qir H H' l) m ((qfd ns k).map (qcs ss ns))/\m.length<=k/\∀ b,C.testBit b=true↔∃ j,j<k/\Rch ns j b)
   ⟨Yi _,0,[],none,none,rfl,O,qb,All2.nil,yg _,λb=>⟨λh=>by simp at h,λ⟨j,h,_⟩=>by lk⟩⟩ (λk σ H1 hk s=>?_) fun σ H1 s=>?_
  .obtain⟨_,C,m,R,S,rfl,B,r,g,W,t⟩:=s;ext;rw[kZ];show⟨_,_,rfl,by lk,?_⟩;rw[qc7];apply qI (λhb=>?_) λhb=>?_
   .have G:¬ ∃ j,j<k/\Rch ns j k:=λh=>by
     rw[<- t] at h;rw[h] at hb;cases hb
    apply .inl ⟨x,cw,dx,_,.ref n,rfl,B _ _ N,T.wcl,T.wr,qfG,?_⟩;apply⟨n,ns,k,rfl,B _ _ hn,by rw[hw.len];lk,by rw[hw.len];show few,by rw[hw.len];show hw.lt,λb H2 L D=>?_⟩;have M:=B.trans L;have y:=L _ _ r;ext;rw[qfH];show⟨.inl ⟨rfl,_,SqL.of y⟩,?_⟩;apply⟨x,dx,_,rfl,M _ _ N,zH (by room),?_⟩;apply⟨x,ss,ns,b,rfl,U.same M,λa J=>?_⟩;ext;have A:l≠a:=qM y J;show⟨l,_,_,rfl,rfl,by rw[qk A];show y,by rw[ya];show qg (by lk),?_⟩;have s4:=qhk (qu M (o:=.lst ((inB ss 0 b).map V.str)) J) (o:=.lst (m.map V.ref++[.ref a])) hl;show⟨by lk,C ||| b,m++[a],_,_,rfl,s4,by rw[qb,yt];rfl,?_,by rw[yx];show m.length+1<=k+1;lk,λc=>?_⟩
    .rw [(qdS ns k).2 G,yt];show All2.snoc (g.mono λa' ps s=>⟨s.1,s.2.1,?_⟩) ⟨M.free J,A.symm,?_⟩
     .have na:a'≠a:=λe=>by
       have z:=L _ _ s.2.2;rw[e,J] at z;cases z
      rw[qk s.2.1,qk na];show L _ _ s.2.2
     .rw [qk A.symm,qb,comp_of hw.nd D]
    .rw [Xe,xu,t,D];constructor
     .rintro (⟨j,h1,p⟩ | h)
      .show⟨j,by lk,p⟩
      .show⟨k,by lk,h⟩
     .rintro ⟨j,h1,p⟩;by_cases v:j=k
      .subst v;show .inr p
      .show .inl ⟨j,by lk,p⟩
   .have u:∃ j,j<k/\Rch ns j k:=by
     rw[<- t];simpa using hb
    show⟨by lk,C,m,_,_,rfl,B,r,?_,by lk,λc=>?_⟩
    .rw [(qdS ns k).1 u];show g
    .rw [t];constructor
     .rintro ⟨j,h1,p⟩;show⟨j,by lk,p⟩
     .rintro ⟨j,h1,p⟩;by_cases v:j=k
      .subst v;obtain⟨i,hi,I⟩:=u;show⟨i,hi,I.trans p⟩
      .show⟨j,by lk,p⟩
  .obtain⟨_,C,m,R,S,rfl,B,r,g,_,_⟩:=s;apply q l m H1 B hl r g
theorem KZ:FnScope ["self","ties","one","other"] wqs (qf qaU):=fS
theorem qfI(hn:ss.Nodup){b:Nat}(h:s∈inB ss 0 b):s∈ss/\b.testBit (ss.idxOf s)=true:=by
 rw[qag hn] at h;show yo.mp h
def qhe(ss:LS)(ns:LN)(i:Nat):LP:=((inB ss 0 (ns.getD i 0)).filter λo=>decide (i<ss.idxOf o)).map λo=>(ss.getD i "",o)
def qaA(ss:LS)(ns:LN)(i:Nat):LP:=(List.range i).flatMap (qhe ss ns)
def PrAt(H H':Hp)(l:Addr)(t:Addr)(a:Str×Str):Prop:=H t=none/\t≠l/\H' t=some (.tup [.str a.1,.str a.2])
theorem PrAt.same{a:Str×Str}(h:PrAt H H1 l t a)(s:L2.Same H1 H2):PrAt H H2 l t a:=⟨h.1,h.2.1,s _ _ h.2.2⟩
inductive spTs(cw:Addr)(vs:List V)(H:Hp)(Q:VK)(E:XK):Prop|mk (x:Addr) (ss:LS) (ns:LN) (_:vs=[.ref x]) (_:WebAt cw H x ss ns) (_:∀(l:Addr) (ts:LI) (H':Hp),L2.Same H H'->H l=none->H' l=some (.lst (ts.map V.ref))->ts.length<=196->All2 (PrAt H H' l) ts (qaA ss ns ss.length)->Q (.ref l) H')
theorem ok_ts(F:Fun K "ties" "Web.ties" qaU f fd)(T:Txt K mg cc cw)(K6:wqqf 6 cw "beside" wqe (spBs cw)):wqqg 7 f fd wqs (spTs cw):=by
 show F.ok KZ λ_ _ _ _ H vs Q E hr h=>?_
 .obtain⟨x,ss,ns,rfl,hW,q⟩:=h;have hu:=jJ hr;obtain⟨dx,d,ol,n,hx,hd,ho,hn,hw⟩:=id hW;have few:=hw.few
  have X:∀(H1:Hp) (y:Str) (i:Nat),L2.Same H H1->ss[i]?=some y->DGet H1 d (.str y) (some (.int (i:Nat))):=λH1 y i O D=>by
   obtain⟨j,hj,gj,vj⟩:=zq (i:=0) (ye D);rw[xS] at vj;have af:j=i:=ji hw.nd gj D;subst af;have:=DGet.k (k:=Sum.inr y) (O _ _ hd);rw[vj] at this;show this
  show⟨_,(qd (qq (i:=1) KZ.nd rfl (yF rfl) (qA qc))
 (qd (jy yW rfl (qF (K:=K) rfl (jA (K:=K) rfl (pv 0) rfl)) (qo (i:=2) KZ.nd rfl (yF rfl))
 (qe (jy yW rfl (qF (K:=K) rfl (qZ K6 (hmR hr) (pv 0) (qa (pv 2) qc))) (qo (i:=3) KZ.nd rfl (yF rfl))
 (qe (qJ (qp qaB (qB (qC (K:=K) rfl hu) (jA (K:=K) rfl (pv 0) rfl) (pv 2) (λ_ _=>rfl)) (qB (qC (K:=K) rfl hu) (jA (K:=K) rfl (pv 0) rfl) (pv 3) (λ_ _=>rfl)) (qv _)) (qe (qK (qcN (K:=K) rfl yO yT yU qR (pv 1) (qa (q8 (qa (pv 2) (qa (pv 3) qc))) qc)))) qt)))))
 (qe (qm (pv 1))))),?_⟩
  apply⟨by decide,λl hl=>?_⟩;have s0:=qu (Sr H) (o:=.lst []) hl;apply .inl ⟨x,cw,dx,_,.ref ol,rfl,s0 _ _ hx,T.wcl,T.wo,qb3,?_⟩;show .inl ⟨⟨_,SqL.of (s0 _ _ ho)⟩,ju (K:=K) (λi σ H'=>∃(ts:LI) (x2 S:Option V),σ=[some (.ref x),some (.ref l),x2,S]/\L2.Same H H'/\H' l=some (.lst (ts.map V.ref))/\ts.length<=i*14/\All2 (PrAt H H' l) ts (qaA ss ns i))
   ⟨[],none,none,rfl,s0,qb,by simp,All2.nil⟩ (λi σ H' _ B=>by obtain⟨_,_,_,_,z,_⟩:=B;show SqL.of (z _ _ ho)) (λi y σ H1 hy B=>?_) fun σ H1 B=>?_⟩
  .obtain⟨ts,x2,S,rfl,O,G,s,c⟩:=B;have hi:i<ss.length:=by simpa using(yc.mp hy).1
   have D:ss[i]?=some ss[i]:=yb hi;generalize ss[i]=p at D;have ey:y=.str p:=by rw[yd,D] at hy;cases hy;rfl
   subst ey;have al:=hw.nm p (ye D);apply⟨x,dx,_,rfl,O _ _ hx,zH (by room),?_⟩;apply⟨x,ss,ns,p,i,rfl,hW.same O,D,λH2 s2 b hb=>?_⟩;have s3:=O.trans s2;have s4:=qu s3 (o:=.lst ((inB ss 0 (ns.getD i 0)).map V.str)) hb;have R:=qu s2 (o:=.lst ((inB ss 0 (ns.getD i 0)).map V.str)) hb;have eb:upd H2 b (.lst ((inB ss 0 (ns.getD i 0)).map V.str)) b=some (.lst ((inB ss 0 (ns.getD i 0)).map V.str)):=qb;have ah:b≠l:=λe=>by rw[e,s2 _ _ G] at hb;cases hb
   have aj:H b=none:=s3.free hb;show .inl ⟨⟨_,SqL.of qb⟩,?_⟩;generalize upd H2 b (.lst ((inB ss 0 (ns.getD i 0)).map V.str))=H3 at s4 R eb ⊢;have J:∀ o,o∈inB ss 0 (ns.getD i 0)->o∈ss:=λo h=>(qfI hw.nd h).1;have ad:=qc8 (ns.getD i 0) ss 0;have r:qhe ss ns i=((inB ss 0 (ns.getD i 0)).filter λo=>decide (i<ss.idxOf o)).map λo=>(ss.getD i "",o):=rfl;have aa:ss.getD i ""=p:=by simp[List.getD,D]
   rw[aa] at r;generalize ak:inB ss 0 (ns.getD i 0)=bs at eb J ad r ⊢;show ju (K:=K) (λk σ H'=>∃(us:LI) (S:Option V),σ=[some (.ref x),some (.ref l),some (.str p),S]/\L2.Same H H'/\H' b=some (.lst (bs.map V.str))/\H' l=some (.lst (us.map V.ref))/\us.length<=i*14+k/\All2 (PrAt H H' l) us (qaA ss ns i++((bs.take k).filter λo=>decide (i<ss.idxOf o)).map λo=>(p,o)))
    ⟨ts,_,rfl,s4,eb,R _ _ G,s,by simpa using c.mono λ_ _ h=>h.same R⟩ (λk σ H' _ B=>by obtain⟨_,_,_,_,z,_⟩:=B;show SqL.of z) (λk u σ Y M B=>?_) fun σ Y B=>?_
   .obtain⟨us,S,rfl,I,C,g,v,a⟩:=B;have hk:k<bs.length:=by simpa using(yc.mp M).1
    have Z:bs[k]?=some bs[k]:=yb hk;generalize bs[k]=m at Z;have eu:u=.str m:=by rw[yd,Z] at M;cases M;rfl
    subst eu;have ag:=J m (ye Z);have ae:=Yj ag;have ac:ss[ss.idxOf m]?=some m:=by rw[yb ae,Yy]
    have W:bs.take (k+1)=bs.take k++[m]:=by rw[yL,Z];rfl
    apply .inl ⟨x,cw,dx,_,.ref d,rfl,I _ _ hx,T.wcl,T.wn,zD,?_⟩;apply .inr ⟨d,.int i,rfl,X Y p i I D,?_⟩;apply .inl ⟨x,cw,dx,_,.ref d,rfl,I _ _ hx,T.wcl,T.wn,zD,?_⟩;apply .inr ⟨d,.int (ss.idxOf m:Nat),rfl,X Y m _ I ac,?_⟩;apply qI (λL=>?_) λL=>?_
    .have A:i<ss.idxOf m:=by have:=yj L;lk
     apply⟨.inl ⟨rfl,_,SqL.of g⟩,?_⟩;apply⟨wqqk,λt ht=>?_⟩;have N:l≠t:=qM g ht;have ai:b≠t:=qM C ht;have s6:=qu (Sr Y) (o:=.tup [.str p,.str m]) ht;apply⟨l,_,_,rfl,rfl,by rw[qk N];show g,by rw[ya];show qg (by have:i*14<=14*14:=Nat.mul_le_mul_right 14 (by lk);lk),?_⟩;show⟨us++[t],_,rfl,qhk (I.trans s6) hl,by rw[qk ah,qk ai];show C,by rw[qb,yt];rfl,by rw[yx];show us.length+1<=_;lk,?_⟩;rw[W,Yd,yt,<- YG];have U:([m].filter λo=>decide (i<ss.idxOf o)).map (λo=>(p,o))=[(p,m)]:=by simp[A]
     rw[U];show All2.snoc (a.mono λt' ab h=>⟨h.1,h.2.1,?_⟩) ⟨I.free ht,N.symm,?_⟩
     .rw [qk h.2.1];show s6 _ _ h.2.2
     .rw [qk N.symm,qb]
    .have A:¬ i<ss.idxOf m:=λh=>L (yv (by lk));show⟨us,_,rfl,I,C,g,by lk,?_⟩;have U:([m].filter λo=>decide (i<ss.idxOf o)).map (λo=>(p,o))=[]:=by simp[A]
     rw[W,Yd,yt,U,y6];show a
   .obtain⟨us,S,rfl,I,C,g,v,a⟩:=B;rw[ya,yD] at a;rw[ya] at v;show⟨us,_,_,rfl,I,g,by lk,?_⟩;unfold qaA at a ⊢;rw[xN,List.flatMap_append];have U:[i].flatMap (qhe ss ns)=(bs.filter λo=>decide (i<ss.idxOf o)).map λo=>(p,o):=by rw[<- r];simp
    rw[U];show a
  .obtain⟨ts,x2,S,rfl,O,G,s,c⟩:=B;rw[ya] at s c;apply q l ts H1 O hl G (by have:ss.length*14<=14*14:=Nat.mul_le_mul_right 14 few;lk) c
theorem qah:∀{l m:LS},l.Nodup->(∀ x∈l,x∈m)->l.length<=m.length
 | [],_,_,_=>Yi _
 | x::r,m,hn,h=>by
  obtain⟨h1,c⟩:=yn.mp hn;have a:=h x yC;have d:=qah (l:=r) (m:=m.erase x) c λy b=>(List.mem_erase_of_ne (λe=>h1 (by rw[<- e];show b))).mpr (h y (yw _ b));rw[List.length_erase_of_mem a] at d;have:0<m.length:=List.length_pos_of_mem a;simp only[Yb];lk
theorem qfJ(c:Str)(ss:LS):inV (.str c) (ss.map V.str)=decide (c∈ss):=by
 unfold inV;rw[List.any_map,Ye,xn,yJ];constructor
 .rintro ⟨y,a,e⟩;have:y=c:=eq_of_beq e;rw[<- this];show a
 .intro h;show⟨c,h,xD c⟩
theorem slice_ix(k n:Nat):Builtin.Str.strSliceIndices none (some (k:Int)) 1 n=List.range (min k n):=by
 unfold Builtin.Str.strSliceIndices sliceRange;simp only[show(1:Int)>0 by decide,Xq];rw[yB (show ¬ ((k:Int)<0) by lk)];have a:max 0 (min (k:Int) n)=((min k n:Nat):Int):=by lk
 rw[a];have b:(λ(j:Nat)=>((0:Int)+1*(j:Int)).toNat)=id:=by funext j;show _=j;lk
 rw[b,List.map_id]
 congr 1
 split
 .rw [Int.ediv_one];lk
 .omega
theorem qfK(a:Array Nat):∀ m,m<=a.size->(List.range m).filterMap (a[·]?)=a.toList.take m
 | 0,_=>rfl
 | m+1,h=>by
  rw[xN,List.filterMap_append,qfK a m (by lk),yL]
  congr 1
  have e:a[m]?=some a[m]:=Array.getElem?_eq_getElem (by lk);have b:a.toList[m]?=some a[m]:=by rw[xJ];show e
  rw[b,Xu,e];rfl
theorem qcQ(z:Str)(k:Nat):(Txt.slice z none (some (k:Int))).cps.toList=z.cps.toList.take k:=by
 unfold Txt.slice;rw[slice_ix];have b:z.length=z.cps.toList.length:=by simp[Str.length]
 split
 .rename_i h
  rw[Yh] at h;have:min k z.length=z.length:=by simpa using h
  rw[xB (by lk)]
 .show(List.filterMap _ _).toArray.toList=_;rw[qfK z.cps (min k z.length) (XR _ _)];show z.cps.toList.take (min k z.length)=_;by_cases a:k<=z.length
  .rw [k8 a]
  .rw [Nat.min_eq_right (by lk),xB (by lk),xB (by lk)]
theorem qeS(a b:Str):(a++b).cps.toList=a.cps.toList++b.cps.toList:=by
 show(a.cps++b.cps).toList=_;show kj
theorem qhf{c:Nat}(h:97<=c)(a:c<=122):sg c=true:=by
 have key:∀ i,i<26->sg (97+i)=true:=by room
 have:=key (c-97) (by lk)
 rwa[show 97+(c-97)=c by lk] at this
def L26:Str:="abcdefghijklmnopqrstuvwxyz"
theorem qgT{i:Int}(h0:0<=i)(h1:i<26):atI L26.cps.toList i=some (97+i.toNat):=by
 obtain⟨n,rfl⟩:=Int.eq_ofNat_of_zero_le h0;have key:∀ n,n<26->L26.cps.toList[n]?=some (97+n):=by room
 rw[Ym];show atI_nat (key n (by lk))
theorem qb5{x:Str}{l:LN}(e:x.cps.toList=l)(h1:1<=l.length)(a:l.length<=6)(h:l.all sg=true):jx x=true:=by
 have hl:x.length=l.length:=by rw[<- e];simp[Str.length]
 unfold jx;rw[yH ⟨by lk,by lk⟩,e];show h
theorem nodup_key(h:∀(i j:Nat) (s:Str),ss[i]?=some s->ss[j]?=some s->i=j):ss.Nodup:=by
 show Xr.mpr λi j a c b e=>?_;have:=h i j ss[j] (by rw[yb a,e]) (yb c);lk
structure NOk(ss:LS):Prop where
 few:ss.length<=14
 nd:ss.Nodup
 nm:∀ s∈ss,jx s=true
theorem pair_eqD{t s' t':Str}(hb:H b=some (.tup [.str s',.str t']))(f:H a=some (.tup [.str s,.str t])):EqD K H 1 (.ref b) (.ref a) (decide ((s',t')=(s,t))):=by
 by_cases e:b=a
 .subst e;rw[hb] at f;cases f;rw[yv rfl];show .self
 .have z:=EqT.tup (K:=K) (H:=H) (n:=0) (e:=λj=>if j=0 then eqV (.str s') (.str s) else eqV (.str t') (.str t)) (SqT.of hb) (SqT.of f) λj x y c d=>by
   match j,c,d with
   | 0,c,d=>cases c;cases d;show .flat rfl rfl
   | 1,c,d=>cases c;cases d;show .flat rfl rfl
  have g:((List.range (min [V.str s',V.str t'].length [V.str s,V.str t].length)).all (λj=>if j=0 then eqV (.str s') (.str s) else eqV (.str t') (.str t))&&[V.str s',V.str t'].length==[V.str s,V.str t].length)=decide ((s',t')=(s,t)):=by
   show((s'==s)&&((t'==t)&&true)&&true)=_;rw[Ye];simp
  rw[g] at z;show .deep z e
def qe9(H:Hp)(z:V):Option (Str×Str):=match z with
 | .ref t=>(match H t with
  | some (.tup [.str a,.str b])=>some (a,b)
  | _=>none)
 | _=>none
theorem qc9{a b:Str}(h:H t=some (.tup [.str a,.str b])):qe9 H (.ref t)=some (a,b):=by
 unfold qe9;dsimp only;rw[h]
theorem any_in(h:All2 (λt b=>H t=some (.tup [.str b.1,.str b.2])) ts tps)(st:Str×Str):((ts.map V.ref).any λz=>decide (qe9 H z=some st))=decide (st∈tps):=by
 rw[Ye,xn,yJ];constructor
 .rintro ⟨z,g,e⟩;obtain⟨t,f,rfl⟩:=yE.mp g;obtain⟨b,c,r⟩:=h.mem f;have e:=yj e;rw[qc9 r] at e;cases e;show c
 .intro hm;obtain⟨k,d,e⟩:=List.getElem_of_mem hm;have a:k<ts.length:=by rw[h.len];show d
  have r:=h.at_ k ts[k] tps[k] (yb a) (yb d);show⟨.ref ts[k],yE.mpr ⟨_,Xb a,rfl⟩,yv ?_⟩;rw[qc9 r,e]
def Adj(ss:LS)(ns:LN)(tps:LP):Prop:=∀ a b s t,ss[a]?=some s->ss[b]?=some t->((ns.getD a 0).testBit b=true↔((s,t)∈tps\/(t,s)∈tps))
theorem ix_natF{k:Nat}(h:k<n):seqIndex? (k:Int) n=some k:=by
 unfold seqIndex?;simp;lk
def tA(tps:LP)(a b:Str):Prop:=(a,b)∈tps\/(b,a)∈tps
structure Wt(cw:Addr)(H:Hp)(x:Addr)(ss:LS)(ns:LN)(tps:LP):Prop where
 web:WebAt cw H x ss ns
 adj:Adj ss ns tps
 ok:∀ ab∈tps,ab.1∈ss/\ab.2∈ss/\ab.1≠ab.2
theorem Wt.same(h:Wt cw H x ss ns tps)(s:L2.Same H H'):Wt cw H' x ss ns tps:=⟨h.web.same s,h.adj,h.ok⟩
theorem Wt.wok(h:Wt cw H x ss ns tps):WOk ss ns:=by obtain⟨_,_,_,_,_,_,_,_,z⟩:=h.web;show z
theorem Wt.bes(h:Wt cw H x ss ns tps):∀(j:Nat) z u,ss[j]?=some z->(u∈inB ss 0 (ns.getD j 0)↔tA tps z u):=λj z u e=>by
 rw[qag h.wok.nd,yo];constructor
 .rintro ⟨h1,b⟩;show(h.adj j _ z u e (by rw[yb (Yj h1),Yy])).mp b
 .intro t;have a:u∈ss:=t.elim (λy=>(h.ok _ y).2.1) λy=>(h.ok _ y).1;show⟨a,(h.adj j _ z u e (by rw[yb (Yj a),Yy])).mpr t⟩
section
variable{ss:LS}{ns:LN}{tps:LP}
theorem qfL(hw:WOk ss ns)(p:Adj ss ns tps){a b:Str}:(a,b)∈qaA ss ns ss.length↔tA tps a b/\∃ i j:Nat,i<j/\ss[i]?=some a/\ss[j]?=some b:=by
 unfold qaA;rw[List.mem_flatMap];constructor
 .rintro ⟨i,f,h⟩;have f:=Yu.mp f;obtain⟨s,l⟩:∃ s,ss[i]?=some s:=⟨_,yb f⟩;have d:ss.getD i ""=s:=by rw[yY,l];rfl
  unfold qhe at h;rw[d] at h;obtain⟨o,t,e⟩:=yE.mp h;cases e;obtain⟨h1,c⟩:=yo.mp t;obtain⟨q,r⟩:=qfI hw.nd h1;have n:ss[ss.idxOf b]?=some b:=by rw[yb (Yj q),Yy]
  show⟨(p i _ _ _ l n).mp r,i,_,yj c,l,n⟩
 .rintro ⟨h,i,j,g,h1,c⟩;show⟨i,Yu.mpr (yc.mp h1).1,?_⟩;have d:ss.getD i ""=a:=by rw[yY,h1];rfl
  have m:ss.idxOf b=j:=by
   have hb:=ye c;show ji hw.nd (by rw[yb (Yj hb),Yy]) c
  unfold qhe;rw[d];show yE.mpr ⟨b,yo.mpr ⟨?_,yv (by rw[m];show g)⟩,rfl⟩;rw[qag hw.nd];show yo.mpr ⟨ye c,by rw[m];show(p i j a b h1 c).mpr h⟩
theorem dps_nd(hw:WOk ss ns):(qaA ss ns ss.length).Nodup:=by
 show List.pairwise_flatMap.mpr ⟨λi _=>?_,?_⟩
 .unfold qhe;show Y7.mpr ?_;have nd:((inB ss 0 (ns.getD i 0)).filter λo=>decide (i<ss.idxOf o)).Nodup:=by rw[qag hw.nd];show(hw.nd.filter _).filter _
  show nd.imp λc e=>c (Prod.mk.inj e).2
 .show List.Pairwise.imp_of_mem (λ{i j} a b g q d r f e=>?_) (List.pairwise_lt_range (n:=ss.length));have a:=Yu.mp a;have b:=Yu.mp b;unfold qhe at d f;obtain⟨_,_,rfl⟩:=yE.mp d;obtain⟨_,_,rfl⟩:=yE.mp f;have e:=(Prod.mk.inj e).1;rw[yY,yY,yb a,yb b] at e;have:=ji hw.nd (yb a) (by rw[yb b];show congrArg some e.symm);lk
end
structure WyI(A:Str->Str->Prop)(m:Str->Option (LS)):Prop where
 nd:∀ z r,m z=some r->r.Nodup
 last:∀ z r,m z=some r->r.getLast?=some z
 pre:∀ z r,m z=some r->∀ i x,r[i]?=some x->m x=some (r.take (i+1))
 tie:∀ z r,m z=some r->∀ i x y,r[i]?=some x->r[i+1]?=some y->A x y
def qd0(m:Str->Option (LS))(z:Str)(r:LS):Str->Option (LS):=λx=>if x=z then some r else m x
theorem jq:qd0 m z r z=some r:=yH rfl
theorem jl{x:Str}(h:x≠z):qd0 m z r x=m x:=yB h
theorem WyI.ne(h:WyI A m)(e:m z=some r):r≠[]:=λa=>by have:=h.last z r e;rw[a] at this;cases this
theorem WyI.key(h:WyI A m){x:Str}(e:m z=some r)(b:x∈r):∃ q,m x=some q:=by
 obtain⟨i,a⟩:=X8 b;show⟨_,h.pre z r e i x a⟩
theorem WyI.start(h:WyI A m)(g:m s=none):WyI A (qd0 m s [s]):=by
 have c:∀{z r},m z=some r->∀ x∈r,x≠s:=λe x j l=>by
  obtain⟨q,f⟩:=h.key e j;rw[l,g] at f;cases f
 have case:∀{z r},qd0 m s [s] z=some r->(z=s/\r=[s])\/(z≠s/\m z=some r):=λ{z r} e=>by
  by_cases b:z=s
  .subst b;rw[jq] at e;cases e;show .inl ⟨rfl,rfl⟩
  .rw [jl b] at e;show .inr ⟨b,e⟩
 show⟨λz r e=>?_,λz r e=>?_,λz r e i x a=>?_,λz r e i x y a d=>?_⟩<;>rcases case e with⟨rfl,rfl⟩ | ⟨b,e⟩
 .simp
 .show h.nd z r e
 .rfl
 .show h.last z r e
 .cases i with
  | zero=>cases a;show jq
  | succ i=>simp at a
 .rw [jl (c e x (ye a))];show h.pre z r e i x a
 .simp at d
 .show h.tie z r e i x y a d
theorem WyI.step(h:WyI A m){q:LS}(f:m y=some q)(p:m z=none)(l:A y z):WyI A (qd0 m z (q++[z])):=by
 have g:∀{w r},m w=some r->∀ x∈r,x≠z:=λe x o s=>by
  obtain⟨t,n⟩:=h.key e o;rw[s,p] at n;cases n
 have case:∀{w r},qd0 m z (q++[z]) w=some r->(w=z/\r=q++[z])\/(w≠z/\m w=some r):=λ{w r} e=>by
  by_cases hw:w=z
  .subst hw;rw[jq] at e;cases e;show .inl ⟨rfl,rfl⟩
  .rw [jl hw] at e;show .inr ⟨hw,e⟩
 have n:0<q.length:=List.length_pos_iff.mpr (h.ne f);show⟨λw r e=>?_,λw r e=>?_,λw r e i x c=>?_,λw r e i x u c j=>?_⟩<;>rcases case e with⟨rfl,rfl⟩ | ⟨hw,e⟩
 .show YI.mpr ⟨h.nd y q f,by simp,λa l b hb=>by rw[yr.mp hb];show g f a l⟩
 .show h.nd w r e
 .simp
 .show h.last w r e
 .by_cases hl:i<q.length
  .rw [yP hl] at c;rw[jl (g f x (ye c)),h.pre y q f i x c,List.take_append_of_le_length (by lk)]
  .have d:i=q.length:=by
    have:=(yc.mp c).1;rw[yx] at this;simp only[Yb,YT] at this;lk
   subst d;rw[yX (yg _),Nat.sub_self] at c;cases c;rw[jq,xB (by rw[yx];show yg _)]
 .rw [jl (g e x (ye c))];show h.pre w r e i x c
 .by_cases hl:i+1<q.length
  .rw [yP hl] at j;rw[yP (by lk)] at c;show h.tie y q f i x u c j
  .have d:i+1=q.length:=by
    have:=(yc.mp j).1;rw[yx] at this;simp only[Yb,YT] at this;lk
   rw[d,yX (yg _),Nat.sub_self] at j;cases j;rw[yP (by lk)] at c;have hl:=h.last y q f;rw[List.getLast?_eq_getElem?,show q.length-1=i by lk,c] at hl;cases hl;show l
 .show h.tie w r e i x u c j
def sdW(r:LS):Nat:=(r.length+1) % 2
inductive Rc(A:Str->Str->Prop)(a:Str):Str->Prop
 | refl:Rc A a a
 | on {b c:Str} (h:Rc A a b) (t:A b c):Rc A a c
theorem uW:FnScope ["way"] ["way"] (qf za):=fS
theorem KJ:FnScope ["web","start","ways","waiting","place","other"] wq4 (qf zB):=fS
inductive StW(A:Str->Str->Prop)(s:Str)(m:Str->Option (LS)):(Str->Option (LS))->Prop
 | refl:StW A s m m
 | step {m1:Str->Option (LS)} {y z:Str} {q:LS} (h:StW A s m m1) (hy:m1 y=some q) (hq:q[0]?=some s) (ha:A y z) (hz:m1 z=none):StW A s m (qd0 m1 z (q++[z]))
theorem StW.ext(h:StW A s m m1):∀ z r,m z=some r->m1 z=some r:=by
 induction h with
 | refl=>show λ_ _ e=>e
 | @step m1 y z q h hy hq ha hz ih =>
  intro x r e;have a:=ih x r e;rw[jl (λk=>by rw[k,hz] at a;cases a)];show a
theorem StW.wy(h:StW A s m m1)(W:WyI A m):WyI A m1:=by
 induction h with
 | refl=>show W
 | step h hy hq ha hz ih=>show ih.step hy hz ha
theorem StW.root(h:StW A s m m1):∀ z r,m1 z=some r->m z=some r\/r[0]?=some s:=by
 induction h with
 | refl=>show λ_ _ e=>.inl e
 | @step m1 y z q h hy hq ha hz ih =>
  intro x r e;by_cases a:x=z
  .subst a;rw[jq] at e;cases e;show .inr ?_;rw[yP (yc.mp hq).1];show hq
  .rw [jl a] at e;show ih x r e
theorem StW.inn(h:StW A s m m1)(inn:∀ a b,A a b->b∈ss)(h0:∀ z r,m z=some r->z∈ss):∀ z r,m1 z=some r->z∈ss:=by
 induction h with
 | refl=>show h0
 | @step m1 y z q h hy hq ha hz ih =>
  intro x r e;by_cases c:x=z
  .rw [c];show inn y z ha
  .rw [jl c] at e;show ih x r e
theorem WyI.few(h:WyI A m)(h0:∀ z r,m z=some r->z∈ss)(e:m z=some r):r.length<=ss.length:=
 qah (h.nd z r e) λx b=>by obtain⟨q,a⟩:=h.key e b;show h0 x q a
def WyV(N:Addr->Prop)(H:Hp)(o:Option V):Option (LS)->Prop
 | none=>o=none
 | some r=>∃ t,o=some (.ref t)/\¬ N t/\H t=some (.lst (r.map V.str))
def WyH(N:Addr->Prop)(H:Hp)(d:Addr)(ss:LS)(m:Str->Option (LS)):Prop:=∃ kvs,H d=some (.dK kvs)/\(∃ a:LS,kvs.length<=a.length/\a.Nodup/\∀ u∈a,u∈ss/\m u≠none)/\∀ s,WyV N H (qab kvs (.inr s:Key)) (m s)
theorem WyV.keep{a:Addr->Prop}{o:Option V}{r:Option (LS)}(h:WyV N H o r)(k:∀ t xs,¬ N t->H t=some (.lst xs)->¬ a t/\H' t=some (.lst xs)):WyV a H' o r:=by
 cases r with
 | none=>show h
 | some r=>obtain⟨t,h1,h0,b⟩:=h;show⟨t,h1,k _ _ h0 b⟩
theorem WyH.same(h:WyH N H d ss m)(s:L2.Same H H'):WyH N H' d ss m:=by
 obtain⟨kvs,h1,a,b⟩:=h;show⟨kvs,s _ _ h1,a,λz=>(b z).keep λt xs n e=>⟨n,s _ _ e⟩⟩
theorem WyH.fresh{w:Addr}(h:WyH N H d ss m)(hw:H w=none):WyH (λt=>t=w) H d ss m:=by
 obtain⟨kvs,h1,a,b⟩:=h;show⟨kvs,h1,a,λz=>(b z).keep λt xs n e=>⟨(λk=>by rw[k,hw] at e;cases e),e⟩⟩
theorem WyH.weak(h:WyH N H d ss m):WyH (λ_=>False) H d ss m:=by
 obtain⟨kvs,h1,a,b⟩:=h;show⟨kvs,h1,a,λz=>(b z).keep λt xs n e=>⟨id,e⟩⟩
theorem WyH.updW{w:Addr}(h:WyH (λt=>t=w) H d ss m)(hn:w≠d):WyH (λt=>t=w) (upd H w o) d ss m:=by
 obtain⟨kvs,h1,a,b⟩:=h;show⟨kvs,by rw[qk (Yv hn)];show h1,a,λz=>(b z).keep λt xs n e=>⟨n,by rw[qk n];show e⟩⟩
theorem WyH.at(h:WyH N H d ss m)(e:m z=some r):∃ kvs t,H d=some (.dK kvs)/\qab kvs (.inr z:Key)=some (.ref t)/\H t=some (.lst (r.map V.str)):=by
 obtain⟨kvs,h1,f,a⟩:=h;have:=a z;rw[e] at this;obtain⟨t,b,_,c⟩:=this;show⟨kvs,t,h1,b,c⟩
theorem WyH.isSome(a:∀ s,WyV N H (qab kvs (.inr s:Key)) (m s))(z:Str):(qab kvs (.inr z:Key)).isSome=(m z).isSome:=by
 have:=a z
 cases e:m z with
 | none=>rw[e] at this;rw[show qab kvs (.inr z:Key)=none from this];rfl
 | some r=>rw[e] at this;obtain⟨t,b,_⟩:=this;rw[b];rfl
theorem WyH.put(j:H d=some (.dK kvs))(l:∃ c:LS,kvs.length<=c.length/\c.Nodup/\∀ u∈c,u∈ss/\m u≠none)(hv:∀ s,WyV N H (qab kvs (.inr s:Key)) (m s))(h:m z=none)(o:z∈ss)(hn:¬ N t)(p:H t=some (.lst (r.map V.str))):WyH N (upd H d (.dK (qa6 kvs (Sum.inr z) (.ref t)))) d ss (qd0 m z r):=by
 obtain⟨c,v,q,f⟩:=l;have i:∀ t' xs,H t'=some (.lst xs)->upd H d (.dK (qa6 kvs (Sum.inr z) (.ref t))) t'=some (.lst xs):=λt' xs e=>by rw[qk (qbB e j (by intro z;cases z))];show e
 show⟨_,qb,⟨c++[z],?_,YI.mpr ⟨q,by simp,λa g b hb e=>?_⟩,λu hu=>?_⟩,λs=>?_⟩
 .have:=qaq kvs (Sum.inr z:Key) (.ref t);rw[yx];show _<=_+1;lk
 .rw [yr.mp hb] at e;rw[e] at g;show(f z g).2 h
 .rcases yK.mp hu with hu | hu
  .show⟨(f u hu).1,?_⟩;rw[jl (λe=>(f u hu).2 (by rw[e];show h))];show(f u hu).2
  .rw [yr.mp hu,jq];show⟨o,λe=>by cases e⟩
 .rw [valV_put];by_cases e:s=z
  .subst e;rw[yH rfl,jq];show⟨t,rfl,hn,i _ _ p⟩
  .rw [yB (λy=>e (kz y)),jl e];show(hv s).keep λt' xs n e=>⟨n,i t' xs e⟩
def BxD(d:Addr)(H H':Hp):Prop:=∀ b o,b≠d->H b=some o->H' b=some o
theorem numK_no{k:Nat}(h:qab (qbP ss k) (.inr s:Key)=some (.ref t)):False:=by
 by_cases a:s∈ss
 .obtain⟨j,_,_,e⟩:=zq (i:=k) a;rw[h] at e;cases e
 .rw [qbp a] at h;cases h
theorem Wt.bx(W:Wt cw H x ss ns tps)(f:H d=some (.dK kvs))(hv:qab kvs (.inr s:Key)=some (.ref t))(b:BxD d H J):Wt cw J x ss ns tps:=by
 show⟨?_,W.adj,W.ok⟩;obtain⟨i,g,ol,h,hb,a,e,c,hw⟩:=W.web;show⟨i,g,ol,h,b _ _ (qbB hb f (by intro z;cases z)) hb,b _ _ (λz=>?_) a,b _ _ (qbB e f (by intro z;cases z)) e,b _ _ (qbB c f (by intro z;cases z)) c,hw⟩;rw[z,f] at a;rw[HO.dK.inj (yl a)] at hv;show numK_no hv
inductive spOfs(vs:List V)(H:Hp)(Q:VK)(E:XK):Prop|mk (a:Addr) (r:LS) (_:vs=[.ref a]) (_:H a=some (.lst (r.map V.str))) (_:Q (.bl (decide (sdW r=0))) H)
inductive spSf(cw:Addr)(vs:List V)(H:Hp)(Q:VK)(E:XK):Prop|mk (x d:Addr) (ss:LS) (ns:LN) (tps:LP) (s:Str) (m:Str->Option (LS)) (_:vs=[.ref x,.str s,.ref d]) (_:Wt cw H x ss ns tps) (_:WyH (λ_=>False) H d ss m) (_:WyI (tA tps) m) (_:(∀ z r,m z=some r->z∈ss)) (_:s∈ss) (_:m s=some [s]) (_:(∀ a b,tA tps a b->a≠s->m a≠none->m b≠none)) (_:∀ H' m1,BxD d H H'->WyH (λ_=>False) H' d ss m1->StW (tA tps) s m m1->(∀ a b,tA tps a b->m1 a≠none->m1 b≠none)->Q .non H')
theorem ok_ofs(F:Fun K "on_first_side" "on_first_side" za f fd)(T:Txt K mg cc cw):wqqg 1 f fd ["way"] spOfs:=by
 show F.ok uW λ_ _ _ _ H vs Q E c h=>?_
 .obtain⟨a,r,rfl,b,q⟩:=h;have d:=jJ c;show⟨_,(qe (qm (jk (zA (K:=K) rfl d) (qz zh (qj (zx (K:=K) rfl) rfl T.b_len YM (qa (pv 0) qc)) qh) qh (qv _)))),?_⟩;apply qaJ b ?_;rw[ya];apply⟨_,_,rfl,rfl,by show(0:Int)<2;decide,?_⟩;apply .inl (.inl (.inl ⟨rfl,rfl,?_⟩))
  have e:(if false=true then !eqV (V.int ((r.length:Int) % 2)) (V.int 1) else eqV (V.int ((r.length:Int) % 2)) (V.int 1))=decide (sdW r=0):=by
   rw[yB (by decide)];unfold eqV sdW;rw[Ye,yJ];simp only[Yq];lk
  rw[e];show q
theorem ok_sf(F:Fun K "spread_from" "spread_from" zB f fd)(T:Txt K mg cc cw)(K6:wqqf 6 cw "beside" wqe (spBs cw)):wqqg 7 f fd wq4 (spSf cw):=by
 show F.ok KJ λ_ _ _ s H vs Q E hr h=>?_
 .obtain⟨x,d,ss,ns,tps,st,m,rfl,W,hY,au,ax,ba,ap,av,q⟩:=h;have hu:=jJ hr;show⟨_,(qd (qq (i:=3) KJ.nd rfl (yF rfl) (qA (qa (pv 1) qc)))
 (qe (qcW yW (qp qeZ (qj (zx (K:=K) rfl) rfl T.b_len YM (qa (pv 3) qc)) qh (qv _))
 (qd (qq (i:=4) KJ.nd rfl (yF rfl) (qcN (K:=K) rfl yO PySem.F.slot_list_pop PySem.F.type_list_pop mtR_popAt (pv 3) (qa qh qc)))
 (qe (jy yW rfl (qF (K:=K) rfl (qZ K6 (hmR hr) (pv 0) (qa (pv 4) qc))) (qo (i:=5) KJ.nd rfl (yF rfl))
 (qe (qJ (qp (zO (K:=K) rfl hu) (pv 5) (pv 2) (by with_unfolding_all rfl)) (qd (qa2 (qz (zg (K:=K) rfl) (qB (qC (K:=K) rfl hu) (pv 2) (pv 4) (λ_ _=>rfl)) (qA (qa (pv 5) qc))) (qbL (pv 2) (pv 5) (qbO hu)))
 (qe (qK (qcN (K:=K) rfl yO yT yU qR (pv 3) (qa (pv 5) qc))))) qt)))))))),?_⟩
  apply⟨wqqj,λg aa=>?_⟩;have s1:=qu (Sr H) (o:=.lst [.str st]) aa;have ew:upd H g (.lst [.str st]) g=some (.lst ([st].map V.str)):=qb;generalize upd H g (.lst [.str st])=H1 at s1 ew;have bn:=W.wok.nd;have few:=W.wok.few;ext;obtain⟨Wp,ae⟩:∃ Wp:Nat->L2.St->Hp->Prop,Wp=λn σ J=>∃(m1:Str->Option (LS)) (I wl:LS) (y4 y5:Option V),n=15-I.length/\σ=[some (.ref x),some (.str st),some (.ref d),some (.ref g),y4,y5]/\BxD d H J/\J g=some (.lst (wl.map V.str))/\WyH (λt=>t=g) J d ss m1/\StW (tA tps) st m m1/\(I++wl).Nodup/\(∀ y∈I++wl,y∈ss/\∃ q,m1 y=some q/\q[0]?=some st)/\∀ a b,tA tps a b->a∉wl->m1 a≠none->m1 b≠none:=⟨_,rfl⟩;show⟨Wp,⟨15,by rw[ae];show⟨m,[],[st],none,none,rfl,rfl,λb o _ e=>s1 _ _ e,ew,(hY.fresh aa).same s1,.refl,by simp,λy hy=>by rw[yr.mp hy];show⟨ba,_,ap,rfl⟩,λa b h1 A=>av a b h1 (λe=>A (by rw[e];simp))⟩⟩,λn σ J hW=>?_⟩;rw[ae] at hW;obtain⟨m1,I,wl,y4,y5,hn,rfl,bJ,S,af,hS,hD,ag,al⟩:=hW;apply qaJ S ?_;rw[ya];ext
  cases wl with
  | nil =>
   show qI (λh=>by simp at h) λ_=>?_;show q J m1 bJ af.weak hS λa b h1 A=>al a b h1 (by simp) A
  | cons pl wl =>
   show qI (λ_=>⟨λbe H'=>∃ n',n'<n/\Wp n' be H',λ_ _ z=>z,?_⟩) λh=>absurd (yv (by simp)) h
   have bj:I.length+1<=14:=by
    have:=qah (l:=I++pl::wl) (m:=ss) hD λy hy=>(ag y hy).1;rw[yx,Yb] at this;lk
   apply⟨.inl ⟨rfl,_,.of S⟩,?_⟩;apply⟨g,_,0,0,.str pl,rfl,rfl,S,by decide,by decide,by rw[ya];show ix_natF (by simp),rfl,?_⟩;obtain⟨az,R,ay,ah⟩:=ag pl (by simp)
   have aj:g≠d:=λz=>by
    obtain⟨kvs,e,_⟩:=af;rw[<- z,S] at e;cases e
   have xw:∀{b o},b≠g->J b=some o->upd J g (.lst (wl.map V.str)) b=some o:=λh e=>by rw[qk h];show e
   have b2:BxD d H (upd J g (.lst (wl.map V.str))):=λb o n e=>xw (λz=>by rw[z,aa] at e;cases e) (bJ b o n e);have e2:upd J g (.lst (wl.map V.str)) g=some (.lst (wl.map V.str)):=qb;have Y2:=af.updW (o:=.lst (wl.map V.str)) aj;show qhp _ _ _ _ (upd J g (.lst (wl.map V.str)));generalize upd J g (.lst (wl.map V.str))=J2 at b2 e2 Y2;ext
   have W2:Wt cw J2 x ss ns tps:=by
    obtain⟨bg,t0,aw,bb,_⟩:=hY.at ap;show W.bx aw bb b2
   obtain⟨wx,dd,ol,nn,hb,bh,bp,bo,hw⟩:=id W2.web;obtain⟨j,gj⟩:=X8 az;show⟨x,wx,_,rfl,hb,zH (by room),?_⟩;apply⟨x,ss,ns,pl,j,rfl,W2.web,gj,λJ3 s3 lb O=>?_⟩;have s4:=qu s3 (o:=.lst ((inB ss 0 (ns.getD j 0)).map V.str)) O;have el:upd J3 lb (.lst ((inB ss 0 (ns.getD j 0)).map V.str)) lb=some (.lst ((inB ss 0 (ns.getD j 0)).map V.str)):=qb;generalize upd J3 lb (.lst ((inB ss 0 (ns.getD j 0)).map V.str))=J4 at s4 el;have N:=W2.bes j pl;generalize inB ss 0 (ns.getD j 0)=bs at el N;ext
   have ar:lb≠d/\lb≠g:=by
    constructor
    .intro z;obtain⟨kvs,e,_⟩:=Y2;rw[z,s3 _ _ e] at O;cases O
    .intro z;rw[z,s3 _ _ e2] at O;cases O
   show .inl ⟨⟨_,.of el⟩,ju (xs:=bs.map V.str) (λi σ G=>∃(v:Str->Option (LS)) (D:LS) (y5:Option V),σ=[some (.ref x),some (.str st),some (.ref d),some (.ref g),some (.str pl),y5]/\(∀ b o,b≠d->b≠g->J4 b=some o->G b=some o)/\G g=some (.lst ((wl++D).map V.str))/\WyH (λt=>t=g) G d ss v/\StW (tA tps) st m v/\v pl=some R/\(I++[pl]++(wl++D)).Nodup/\(∀ y∈I++[pl]++(wl++D),y∈ss/\∃ q,v y=some q/\q[0]?=some st)/\(∀ a b,tA tps a b->a∉wl++D->a≠pl->v a≠none->v b≠none)/\∀ b∈bs.take i,v b≠none)
    ⟨m1,[],_,rfl,λb o _ _ e=>e,by rw[y6];show s4 _ _ e2,Y2.same s4,hS,ay,by rw[y6,YG];show hD,λy hy=>ag y (by rw[y6,YG] at hy;show hy),λa b h1 A h3=>al a b h1 (λz=>by rw[y6] at A;rcases yy.mp z with z | z;show h3 z;show A z),λb hb=>by simp at hb⟩
    (λi σ G _ hp=>?_) (λi y σ G hy hp=>?_) fun σ G hp=>?_⟩
   .obtain⟨v,D,y5,_,B2,_⟩:=hp;show .of (B2 _ _ ar.1 ar.2 el)
   .obtain⟨v,D,y5,rfl,B2,L,U,B,C,M,p,X,Z⟩:=hp;rw[yd] at hy;obtain⟨c,ho,rfl⟩:=ym.mp hy;have aq:tA tps pl c:=(N c gj).mp (ye ho);have am:c∈ss:=aq.elim (λk=>(W.ok _ k).2.1) λk=>(W.ok _ k).1;have ab:bs.take (i+1)=bs.take i++[c]:=by rw[yL,ho];rfl
    obtain⟨kvs,Y,an,ai⟩:=id U;apply .inr (.inl ⟨d,_,rfl,DGet.k (k:=Sum.inr c) Y,?_⟩);rw[yH rfl,WyH.isSome ai];ext
    cases hm:v c with
    | some r =>
     show yp ?_;show⟨v,D,_,rfl,B2,L,U,B,C,M,p,X,λb hb=>?_⟩;rw[ab] at hb;rcases yK.mp hb with hb | hb
     .show Z b hb
     .rw [yr.mp hb,hm];show λe=>by cases e
    | none =>
     show jp ?_;ext;have ao:=ai pl;rw[C] at ao;obtain⟨t,bc,_,as⟩:=ao;show .inr ⟨d,.ref t,rfl,by have:=DGet.k (k:=Sum.inr pl) Y;rw[bc] at this;show this,?_⟩;apply⟨wqqj,λa1 h1=>?_⟩;have t1:=qu (Sr G) (o:=.lst [.str c]) h1;have e1:upd G a1 (.lst [.str c]) a1=some (.lst [.str c]):=qb;generalize upd G a1 (.lst [.str c])=G1 at t1 e1
     have bf:R.length<=14:=by
      have:=(B.wy au).few (B.inn (λa b h=>h.elim (λk=>(W.ok _ k).2.1) λk=>(W.ok _ k).1) ax) C;lk
     show .inl ⟨t,a1,_,_,rfl,rfl,t1 _ _ as,e1,by rw[ya];show R.length+1<=sizeLine;show yI (qg (by lk)),λa2 A=>?_⟩;have bd:a2≠g:=λz=>by rw[z,t1 _ _ L] at A;cases A
     have t2:=qu t1 (o:=.lst (R.map V.str++[.str c])) A;have e3:upd G1 a2 (.lst (R.map V.str++[.str c])) a2=some (.lst ((R++[c]).map V.str)):=by rw[qb,yt];rfl
     generalize upd G1 a2 (.lst (R.map V.str++[.str c]))=G2 at t2 e3;ext
     have bm:kvs.length<=14:=by
      obtain⟨po,p1,p2,p3⟩:=an;have:=qah (l:=po) (m:=ss) p2 λu hu=>(p3 u hu).1;lk
     show .inr ⟨d,_,rfl,DPut.k (k:=Sum.inr c) (t2 _ _ Y) (by rw[xi];lk),?_⟩;have Y3:=WyH.put (t2 _ _ Y) an (λs=>(ai s).keep λt xs n e=>⟨n,t2 _ _ e⟩) hm am bd e3;have ad:upd G2 d (.dK (qa6 kvs (Sum.inr c) (.ref a2))) g=some (.lst ((wl++D).map V.str)):=by rw[qk aj];show t2 _ _ L
     have B3:∀ b o,b≠d->b≠g->J4 b=some o->upd G2 d (.dK (qa6 kvs (Sum.inr c) (.ref a2))) b=some o:=λb o n1 n2 e=>by rw[qk n1];show t2 _ _ (B2 b o n1 n2 e)
     generalize upd G2 d (.dK (qa6 kvs (Sum.inr c) (.ref a2)))=G3 at Y3 ad B3;apply⟨.inl ⟨rfl,_,SqL.of ad⟩,?_⟩;ext
     have bq:(wl++D).length<=14:=by
      have:=qah (l:=wl++D) (m:=ss) (YI.mp M).2.1 λy hy=>(p y (yK.mpr (.inr hy))).1;lk
     show⟨g,_,_,rfl,rfl,ad,by rw[ya];show qg (by lk),?_⟩;have ak:∀{y q},v y=some q->qd0 v c (R++[c]) y=some q:=λ{y q} e=>by rw[jl (λz=>by rw[z,hm] at e;cases e)];show e
     have ac:∀{y},v y≠none->qd0 v c (R++[c]) y≠none:=λ{y} e=>by
      cases e2:v y with
      | none=>show absurd e2 e
      | some q=>rw[ak e2];show λz=>by cases z
     show⟨qd0 v c (R++[c]),D++[c],_,rfl,λb o n1 n2 e=>by rw[qk n2];show B3 b o n1 n2 e,by rw[qb,<- YG,yt (l₂:=[c])];rfl,Y3.updW aj,B.step C ah aq hm,ak C,?_,λy hy=>?_,λa b h1 A h3 h4=>?_,λb hb=>?_⟩
     .rw [<- YG wl,<- YG (I++[pl])];show YI.mpr ⟨M,by simp,λa ha b hb e=>?_⟩;rw[yr.mp hb] at e;rw[e] at ha;obtain⟨_,q,hq,_⟩:=p c ha;rw[hm] at hq;cases hq
     .rw [<- YG wl,<- YG (I++[pl])] at hy;rcases yK.mp hy with hy | hy
      .obtain⟨k1,q,k2,k3⟩:=p y hy;show⟨k1,q,ak k2,k3⟩
      .rw [yr.mp hy];show⟨am,_,jq,by rw[yP (yc.mp ah).1];show ah⟩
     .have ha:a≠c:=λz=>A (by rw[z];simp);rw[jl ha] at h4;show ac (X a b h1 (λz=>A (by rw[<- YG];show yK.mpr (.inl z))) h3 h4)
     .rw [ab] at hb;rcases yK.mp hb with hb | hb
      .show ac (Z b hb)
      .rw [yr.mp hb,jq];show λe=>by cases e
   .obtain⟨v,D,y5,rfl,B2,L,U,B,C,M,p,X,Z⟩:=hp;show⟨15-(I++[pl]).length,by rw[hn,yx];show _-(_+1)<_;lk,?_⟩;rw[ae];show⟨v,I++[pl],wl++D,_,_,rfl,rfl,λb o n e=>B2 b o n (λz=>by rw[z,aa] at e;cases e) (s4 _ _ (b2 b o n e)),L,U,B,M,p,λa b h1 A h3=>?_⟩;by_cases ha:a=pl
    .subst ha;show Z b ?_;rw[ya,yD];show(N b gj).mpr h1
    .show X a b h1 A ha h3
theorem ur:FnScope ["web","ways","place"] ["web"] (qf qbt):=fS
theorem Rc.key(cl:∀ a b,A a b->m a≠none->m b≠none){a b:Str}(h:Rc A a b)(c:m a≠none):m b≠none:=by
 induction h with
 | refl=>show c
 | on _ t ih=>show cl _ _ t ih
structure WyC(A:Str->Str->Prop)(ss:LS)(m:Str->Option (LS)):Prop where
 wy:WyI A m
 inn:∀ z r,m z=some r->z∈ss
 cl:∀ a b,A a b->m a≠none->m b≠none
 rt:∀ a b r q,A a b->m a=some r->m b=some q->r[0]?=q[0]?
theorem WyC.nil:WyC A ss λ_=>none:=
 ⟨⟨(λz r e=>by cases e),(λz r e=>by cases e),(λz r e=>by cases e),λz r e=>by cases e⟩,(λz r e=>by cases e),(λa b _ h=>absurd rfl h),λa b r q _ e=>by cases e⟩
theorem WyC.on(h:WyC A ss m){p:Str}(as:∀ a b,A a b->A b a)(inn:∀ a b,A a b->b∈ss)(l:m p=none)(n:p∈ss)(S:StW A p (qd0 m p [p]) m1)(cl:∀ a b,A a b->m1 a≠none->m1 b≠none):WyC A ss m1:=by
 have o:∀ z r,qd0 m p [p] z=some r->z∈ss:=λz r e=>by
  by_cases g:z=p
  .rw [g];show n
  .rw [jl g] at e;show h.inn z r e
 have i:∀{z r},m z=some r->m1 z=some r:=λ{z r} e=>S.ext z r (by rw[jl (λk=>by rw[k,l] at e;cases e)];show e)
 have new:∀{z r},m z=none->m1 z=some r->r[0]?=some p:=λ{z r} e d=>by
  rcases S.root z r d with k | k
  .by_cases g:z=p
   .subst g;rw[jq] at k;cases k;rfl
   .rw [jl g,e] at k;cases k
  .show k
 show⟨S.wy (h.wy.start l),S.inn inn o,cl,λa b r q t d j=>?_⟩
 cases f:m a with
 | some r' =>
  cases c:m b with
  | none=>show absurd c (h.cl a b t (by rw[f];show λk=>by cases k))
  | some q' =>
   rw[i f] at d;cases d;rw[i c] at j;cases j;show h.rt a b r q t f c
 | none =>
  cases c:m b with
  | some q'=>show absurd f (h.cl b a (as _ _ t) (by rw[c];show λk=>by cases k))
  | none=>rw[new f d,new c j]
inductive spWi(cw:Addr)(vs:List V)(H:Hp)(Q:VK)(E:XK):Prop|mk (x:Addr) (ss:LS) (ns:LN) (tps:LP) (_:vs=[.ref x]) (_:Wt cw H x ss ns tps) (_:∀(d:Addr) (m:Str->Option (LS)) (H':Hp),L2.Same H H'->WyH (λ_=>False) H' d ss m->WyC (tA tps) ss m->(∀ s∈ss,m s≠none)->Q (.ref d) H')
theorem ok_wi(F:Fun K "ways_in" "ways_in" qbt f fd)(T:Txt K mg cc cw)(KO:wqqf 1 cw "places" wqs (spPls cw))(Uo:wqqe 7 "spread_from" wq4 (spSf cw)):wqqg 8 f fd ["web"] (spWi cw):=by
 show F.ok ur λ_ _ _ s H vs Q E hr h=>?_
 .obtain⟨x,ss,ns,tps,rfl,W,q⟩:=h;have C:=jJ hr;have af:=W.wok.nd;have few:=W.wok.few;have ab:∀ a b,tA tps a b->tA tps b a:=λa b k=>k.symm;have ac:∀ a b,tA tps a b->b∈ss:=λa b k=>k.elim (λy=>(W.ok _ y).2.1) λy=>(W.ok _ y).1;show⟨_,(qd (qq (i:=1) ur.nd rfl (yF rfl) qbV)
 (qd (jy yW rfl (qF (K:=K) rfl (j6 KO (hmR hr) (pv 0))) (qo (i:=2) ur.nd rfl (yF rfl))
 (qe (qJ (qp (zO (K:=K) rfl C) (pv 2) (pv 1) (by with_unfolding_all rfl)) (qd (qa2 (qA (qa (pv 2) qc)) (qbL (pv 1) (pv 2) (qbO C)))
 (qe (qK (qi Uo (hmR hr) qr (qa (pv 0) (qa (pv 2) (qa (pv 1) qc))))))) qt)))
 (qe (qm (pv 1))))),?_⟩
  ext;intro d hd;have U:=qu (Sr H) (o:=.dK []) hd;have Z:upd H d (.dK []) d=some (.dK []):=qb;generalize upd H d (.dK [])=H1 at U Z;ext;obtain⟨wx,dd,ol,nn,hb,ad,ah,ag,hw⟩:=id (W.same U).web;show⟨x,wx,_,rfl,hb,zH (by room),?_⟩;apply⟨x,ss,ns,rfl,(W.same U).web,λS g=>?_⟩;have s2:=qu U (o:=.lst (ss.map V.str)) g;have G:=qu (Sr H1) (o:=.lst (ss.map V.str)) g _ _ Z;have el:upd H1 S (.lst (ss.map V.str)) S=some (.lst (ss.map V.str)):=qb;have aa:S≠d:=λz=>by rw[z,Z] at g;cases g
  generalize upd H1 S (.lst (ss.map V.str))=H2 at s2 G el;apply .inl ⟨⟨_,.of el⟩,ju (xs:=ss.map V.str) (λi σ J=>∃(m:Str->Option (LS)) (X:Option V),σ=[some (.ref x),some (.ref d),X]/\BxD d H2 J/\WyH (λ_=>False) J d ss m/\WyC (tA tps) ss m/\∀ z∈ss.take i,m z≠none)
   ⟨λ_=>none,_,rfl,λb o _ e=>e,⟨[],G,⟨[],yg _,List.nodup_nil,λu C=>by cases C⟩,λs=>rfl⟩,.nil,λz R=>by simp at R⟩ (λi σ J _ I=>?_) (λi y σ J hy I=>?_) fun σ J I=>?_⟩
  .obtain⟨m,X,_,B,_⟩:=I;show .of (B _ _ aa el)
  .obtain⟨m,X,rfl,B,O,v,c⟩:=I;rw[yd] at hy;obtain⟨pl,ho,rfl⟩:=ym.mp hy;have j:=ye ho;have p:ss.take (i+1)=ss.take i++[pl]:=by rw[yL,ho];rfl
   obtain⟨kvs,A,L,M⟩:=id O;apply .inr (.inl ⟨d,_,rfl,DGet.k (k:=Sum.inr pl) A,?_⟩);rw[yH rfl,WyH.isSome M];ext
   cases hm:m pl with
   | some r =>
    show yp ?_;show⟨m,_,rfl,B,O,v,λb hb=>?_⟩;rw[p] at hb;rcases yK.mp hb with hb | hb
    .show c b hb
    .rw [yr.mp hb,hm];show λe=>by cases e
   | none =>
    show jp ?_;apply⟨wqqj,λD h1=>?_⟩;have N:=qu (Sr J) (o:=.lst [.str pl]) h1;have e1:upd J D (.lst [.str pl]) D=some (.lst ([pl].map V.str)):=qb;generalize upd J D (.lst [.str pl])=J1 at N e1;ext
    have ae:kvs.length<=14:=by
     obtain⟨po,p1,p2,p3⟩:=L;have:=qah (l:=po) (m:=ss) p2 λu C=>(p3 u C).1;lk
    show .inr ⟨d,_,rfl,DPut.k (k:=Sum.inr pl) (N _ _ A) (by rw[xi];lk),?_⟩;have Y3:=WyH.put (N _ _ A) L (λs=>(M s).keep λt xs n e=>⟨n,N _ _ e⟩) hm j id e1;have Y:BxD d H2 (upd J1 d (.dK (qa6 kvs (Sum.inr pl) (.ref D)))):=λb o n e=>by rw[qk n];show N _ _ (B b o n e)
    generalize upd J1 d (.dK (qa6 kvs (Sum.inr pl) (.ref D)))=J2 at Y3 Y;have b0:L2.Same H J2:=λb o e=>Y b o (λz=>by rw[z,hd] at e;cases e) (s2 _ _ e);apply⟨x,d,ss,ns,tps,pl,qd0 m pl [pl],rfl,W.same b0,Y3,v.wy.start hm,λz r e=>?_,j,jq,λa b t na h=>?_,λJ3 m1 b4 Y4 S4 c4=>?_⟩
    .by_cases R:z=pl
     .rw [R];show j
     .rw [jl R] at e;show v.inn z r e
    .rw [jl na] at h;have:=v.cl a b t h;rw[jl (λz=>this (by rw[z];show hm))];show this
    .show⟨m1,_,rfl,λb o n e=>b4 b o n (Y b o n e),Y4,v.on ab ac hm j S4 c4,λb hb=>?_⟩
     have keep:∀{z},qd0 m pl [pl] z≠none->m1 z≠none:=λ{z} h=>by
      cases e:qd0 m pl [pl] z with
      | none=>show absurd e h
      | some r=>rw[S4.ext z r e];show λk=>by cases k
     rw[p] at hb;rcases yK.mp hb with hb | hb
     .show keep ?_;have:=c b hb;rw[jl (λz=>this (by rw[z];show hm))];show this
     .rw [yr.mp hb];show keep (by rw[jq];show λk=>by cases k)
  .obtain⟨m,X,rfl,B,O,v,c⟩:=I;rw[ya,yD] at c;apply q d m J (λb o e=>B b o (λz=>by rw[z,hd] at e;cases e) (s2 _ _ e)) O v c
theorem KB:FnScope wqD ["web"] (qf zE):=fS
def sdP(m:Str->Option (LS))(s:Str):Nat:=((m s).map sdW).getD 0
theorem WyC.col(h:WyC A ss m){c:Str->Bool}(hc:∀ a b,A a b->c b=!c a)(e:m z=some r):∃ y,r[0]?=some y/\c z=(c y != decide (sdW r=1)):=by
 have ne:=h.wy.ne e;have hl:0<r.length:=by cases r with | nil=>show absurd rfl ne | cons _ _=>simp
 show⟨r[0],yb hl,?_⟩
 have key:∀ i x,r[i]?=some x->c x=(c r[0] != decide (i % 2=1)):=λi=>by
  induction i with
  | zero =>
   intro x d;rw[yb hl] at d;cases d;simp
  | succ i ih =>
   intro x d;have g:=(yc.mp d).1;have f:=yb (l:=r) (i:=i) (by lk);rw[hc _ _ (h.wy.tie z r e i _ x f d),ih _ f]
   have:decide ((i+1) % 2=1)=!decide (i % 2=1):=by
    rcases xG i with k | k
    .rw [k,show(i+1) % 2=1 by lk];rfl
    .rw [k,show(i+1) % 2=0 by lk];rfl
   rw[this];cases c r[0]<;>cases decide (i % 2=1)<;>rfl
 have l:=h.wy.last z r e;rw[List.getLast?_eq_getElem?] at l;rw[key _ z l]
 congr 2
 unfold sdW;rw[show(r.length+1) % 2=(r.length-1) % 2 by lk]
theorem WyC.same(h:WyC A ss m)(all:∀ s∈ss,m s≠none)(inn:∀ a b,A a b->b∈ss){a b:Str}(k:Rc A a b)(g:a∈ss):∀{r q},m a=some r->m b=some q->r[0]?=q[0]?:=by
 induction k with
 | refl=>intro r q e d;rw[e] at d;cases d;rfl
 | @on b c k t ih =>
  intro r q e d
  cases f:m b with
  | none=>show absurd f (k.key h.cl (all a g))
  | some p=>show(ih e f).trans (h.rt b c p q t f d)
theorem WyC.two(h:WyC A ss m)(all:∀ s∈ss,m s≠none)(inn:∀ a b,A a b->b∈ss){c:Str->Bool}(hc:∀ a b,A a b->c b=!c a){a b:Str}(k:Rc A a b)(f:a∈ss):(sdP m a=0↔sdP m b=0)↔c a=c b:=by
 have hb:m b≠none:=k.key h.cl (all a f)
 cases d:m a with
 | none=>show absurd d (all a f)
 | some r =>
  cases e:m b with
  | none=>show absurd e hb
  | some q =>
   obtain⟨y,g,i⟩:=h.col hc d;obtain⟨o,j,l⟩:=h.col hc e;rw[h.same all inn k f d e,j] at g;cases g;rw[i,l];unfold sdP;rw[d,e];show(sdW r=0↔sdW q=0)↔_;have h1:sdW r<2:=by unfold sdW;lk
   have n:sdW q<2:=by unfold sdW;lk
   rcases(by lk:sdW r=0\/sdW r=1) with k1 | k1<;>rcases(by lk:sdW q=0\/sdW q=1) with k2 | k2<;>rw[k1,k2]<;>cases c y<;>simp
inductive spSd(cw:Addr)(vs:List V)(H:Hp)(Q:VK)(E:XK):Prop|mk (x:Addr) (ss:LS) (ns:LN) (tps:LP) (c:Str->Bool) (_:vs=[.ref x]) (_:Wt cw H x ss ns tps) (_:(∀ a b,tA tps a b->c b=!c a)) (_:∀(d:Str->Bool) (t l1 l2:Addr) (H':Hp),L2.Same H H'->(∀ a b,a∈ss->Rc (tA tps) a b->(d a=d b↔c a=c b))->H' t=some (.tup [.ref l1,.ref l2])->H' l1=some (.lst ((ss.filter d).map V.str))->H' l2=some (.lst ((ss.filter λs=>!d s).map V.str))->Q (.ref t) H')
theorem qgU:sdW r<2:=by unfold sdW;lk
theorem qeT(e:m s=some r):sdP m s=sdW r:=by unfold sdP;rw[e];rfl
theorem qda(h:WyH N H d ss m)(e:m z=some r):∃ t,DGet H d (.str z) (some (.ref t))/\H t=some (.lst (r.map V.str)):=by
 obtain⟨kvs,t,h1,a,b⟩:=h.at e;have:=DGet.k (k:=Sum.inr z) h1;rw[a] at this;show⟨t,this,b⟩
theorem ok_sd(F:Fun K "sides_of" "sides_of" zE f fd)(T:Txt K mg cc cw)(UR:wqqe 8 "ways_in" ["web"] (spWi cw))(KE:wqqe 1 "on_first_side" ["way"] spOfs)(uu:wqqf 7 cw "ties" wqs (spTs cw))(KO:wqqf 1 cw "places" wqs (spPls cw)):wqqg 9 f fd ["web"] (spSd cw):=by
 show F.ok KB λ_ _ _ s H vs Q E D h=>?_
 .obtain⟨x,ss,ns,tps,c,rfl,W,v,qy⟩:=h;have hu:=jJ D;show⟨_,(qd (qq (i:=1) KB.nd rfl (Xl rfl) (qi UR (hmR D) qr (qa (pv 0) qc)))
 (qd (jy yW rfl (qeH (K:=K) rfl (j6 uu (hmR D) (pv 0))) (qa1 rfl (qW (qo (i:=2) KB.nd rfl (yF rfl)) (qW (qo (i:=3) KB.nd rfl (yF rfl)) zV)))
 (qe (qJ (qp (zA (K:=K) rfl hu) (qi KE (hmR D) qr (qa (qB (qC (K:=K) rfl hu) (pv 1) (pv 2) (λ_ _=>rfl)) qc)) (qi KE (hmR D) qr (qa (qB (qC (K:=K) rfl hu) (pv 1) (pv 3) (λ_ _=>rfl)) qc)) (qv _)) (qe jF) qt)))
 (qd (qbE (sc:=qf zE) (XN:=wqD) wq8 1 [1] rfl rfl rfl (by room) rfl (by room) (i:=4) KB.nd rfl rfl
  (qF (K:=K) rfl (j6 KO (hmR D) (pv 0))) (λ_ _ _ _=>(qo (i:=0) (show(wq8:LS).Nodup by room) rfl (yF rfl))) qE
  (λ_ _ _ _=>(qP (qN (qi KE (hmR D) qr (qa (qB (qC (K:=K) rfl hu) (pv 1) (pv 0) (λ_ _=>rfl)) qc)))))
  (λ_ _ _ _=>(pv 0)))
 (qd (qbE (sc:=qf zE) (XN:=wqD) wq8 1 [1] rfl rfl rfl (by room) rfl (by room) (i:=5) KB.nd rfl rfl
  (qF (K:=K) rfl (j6 KO (hmR D) (pv 0))) (λ_ _ _ _=>(qo (i:=0) (show(wq8:LS).Nodup by room) rfl (yF rfl))) qE
  (λ_ _ _ _=>(qP (qS (qN (qi KE (hmR D) qr (qa (qB (qC (K:=K) rfl hu) (pv 1) (pv 0) (λ_ _=>rfl)) qc))))))
  (λ_ _ _ _=>(pv 0)))
 (qe (qm (q8 (qa (pv 4) (qa (pv 5) qc))))))))),?_⟩
  apply⟨x,ss,ns,tps,rfl,W,λd m H1 s1 hY hC u=>?_⟩;apply qgn ?_;ext;have W1:=W.same s1;obtain⟨wx,dd,ol,nn,hb,au,ax,aw,hw⟩:=id W1.web;show⟨x,wx,_,rfl,hb,zH (by room),?_⟩;apply⟨x,ss,ns,rfl,W1.web,λl ts H2 s2 av hl _ hA=>?_⟩;have ah:=s1.trans s2;have C:=hY.same s2;have few:=W.wok.few
  have get:∀{s},s∈ss->∃ r,m s=some r:=λ{s} hs=>by
   cases e:m s with
   | none=>show absurd e (u s hs)
   | some r=>show⟨r,rfl⟩
  show⟨l,_,rfl,.of hl,ju (xs:=ts.map V.ref) (λi σ J=>J=H2/\(∃ y2 y3,σ=[some (.ref x),some (.ref d),y2,y3,none,none])) ⟨rfl,⟨_,_,rfl⟩⟩ (λi σ J _ n=>by rw[n.1];show .of hl) (λi y σ J hy n=>?_) fun σ J n=>?_⟩
  .obtain⟨rfl,y2,y3,rfl⟩:=n;rw[yd] at hy;obtain⟨t,ht,rfl⟩:=ym.mp hy;obtain⟨I,aa⟩:∃ I,(qaA ss ns ss.length)[i]?=some I:=⟨_,yb (by rw[<- hA.len];show(yc.mp ht).1)⟩;obtain⟨_,_,et⟩:=hA.at_ i t I ht aa;have j:tA tps I.1 I.2:=((qfL W.wok W.adj).mp (ye aa)).1;have m1:I.1∈ss:=j.elim (λk=>(W.ok _ k).1) λk=>(W.ok _ k).2.1;have m2:I.2∈ss:=j.elim (λk=>(W.ok _ k).2.1) λk=>(W.ok _ k).1;obtain⟨r,g⟩:=get m1;obtain⟨q,ag⟩:=get m2;obtain⟨ta,Z,p⟩:=qda C g;obtain⟨tb,gb,ak⟩:=qda C ag;show⟨t,_,rfl,.of et,rfl,_,_,rfl,_,_,rfl,rfl,?_⟩;apply .inr ⟨d,_,rfl,Z,?_⟩;apply⟨ta,r,rfl,p,?_⟩;apply .inr ⟨d,_,rfl,gb,?_⟩;apply⟨tb,q,rfl,ak,?_⟩;show .inl (.inl (.inl ⟨rfl,rfl,?_⟩))
   have e:(if false=true then !eqV (V.bl (decide (sdW r=0))) (V.bl (decide (sdW q=0))) else eqV (V.bl (decide (sdW r=0))) (V.bl (decide (sdW q=0))))=decide (sdW r=sdW q):=by
    rw[yB (by decide)];have h1:=@qgU r;have h2:=@qgU q;unfold eqV;rw[Ye,yJ];simp only[Yq,Yc];lk
   rw[e];ext
   have am:sdW r≠sdW q:=λz=>by
    have k:=hC.two u (λa b k=>k.elim (λy=>(W.ok _ y).2.1) λy=>(W.ok _ y).1) v (Rc.refl.on j) m1;rw[v _ _ j,qeT g,qeT ag,z] at k;have:=k.mp Ki;cases h:c I.1<;>rw[h] at this<;>cases this
   show qI (λhc=>absurd (yj hc) am) λ_=>?_;show⟨rfl,⟨_,_,rfl⟩⟩
  .obtain⟨rfl,y2,y3,rfl⟩:=n;ext;have Wlp:=W.same ah;obtain⟨ai,an,ar,ap,ac,_⟩:=id Wlp.web;show⟨x,ai,_,rfl,ac,zH (by room),?_⟩;apply⟨x,ss,ns,rfl,Wlp.web,λlp ae=>?_⟩;have U:=qu ah (o:=.lst (ss.map V.str)) ae;have Y:=qu (Sr J) (o:=.lst (ss.map V.str)) ae;have L:upd J lp (.lst (ss.map V.str)) lp=some (.lst (ss.map V.str)):=qb;generalize upd J lp (.lst (ss.map V.str))=Jlp at U L Y;have Ylp:=C.same Y;apply .inl ⟨⟨_,.of L⟩,qx (K:=K) (a:=lp) (xs:=ss.map V.str) (λi ys H'=>H'=Jlp/\ys=((ss.take i).filter λs=>decide (sdP m s=0)).map V.str) ⟨rfl,rfl⟩ (λi ys H' _ h=>by rw[h.1];show .of L) (λi y ys H' hx n=>?_) λys H' n=>?_⟩
   .obtain⟨rfl,rfl⟩:=n;rw[yd] at hx;obtain⟨z,O,rfl⟩:=ym.mp hx;have B:ss.take (i+1)=ss.take i++[z]:=by rw[yL,O];rfl
    have al:=(yc.mp O).1;obtain⟨r,g⟩:=get (ye O);obtain⟨ta,Z,p⟩:=qda Ylp g;apply .inr ⟨d,_,rfl,Z,?_⟩;apply⟨ta,r,rfl,p,?_⟩;rw[<- qeT g];apply qI (λhc=>?_) λhc=>?_
    .ext;show⟨?_,rfl,?_⟩
     .rw [ya];show qg (yh (yG _ _) (by rw[yN];lk))
     .rw [B,Yd,yt];simp only[yZ,XB,hc,Xq];rfl
    .show⟨rfl,?_⟩;rw[B,Yd,yt];simp only[yZ,XB,hc];simp
   obtain⟨rfl,rfl⟩:=n;rw[show(ss.map V.str).length=ss.length from ya ..,yD];show⟨by rw[ya];show yI (qg (yh (yG _ _) (by lk))),λR N=>?_⟩;have u1:=qu U (o:=.lst ((ss.filter λs=>decide (sdP m s=0)).map V.str)) N;have v1:=qu Y (o:=.lst ((ss.filter λs=>decide (sdP m s=0)).map V.str)) N;have f1:=U.free N;have e1:upd H' R (.lst ((ss.filter λs=>decide (sdP m s=0)).map V.str)) R=some (.lst ((ss.filter λs=>decide (sdP m s=0)).map V.str)):=qb;generalize upd H' R (.lst ((ss.filter λs=>decide (sdP m s=0)).map V.str))=J1 at u1 v1 e1;have Y1:=C.same v1;ext;have Wlq:=W.same u1;obtain⟨aj,ao,as,aq,ad,_⟩:=id Wlq.web;show⟨x,aj,_,rfl,ad,zH (by room),?_⟩;apply⟨x,ss,ns,rfl,Wlq.web,λlq af=>?_⟩;have X:=qu u1 (o:=.lst (ss.map V.str)) af;have G:=qu (Sr J1) (o:=.lst (ss.map V.str)) af;have M:upd J1 lq (.lst (ss.map V.str)) lq=some (.lst (ss.map V.str)):=qb;generalize upd J1 lq (.lst (ss.map V.str))=Jlq at X M G;have Ylq:=Y1.same G;apply .inl ⟨⟨_,.of M⟩,qx (K:=K) (a:=lq) (xs:=ss.map V.str) (λi ys H'=>H'=Jlq/\ys=((ss.take i).filter λs=>!decide (sdP m s=0)).map V.str) ⟨rfl,rfl⟩ (λi ys H' _ h=>by rw[h.1];show .of M) (λi y ys H' hx n=>?_) λys H' n=>?_⟩
   .obtain⟨rfl,rfl⟩:=n;rw[yd] at hx;obtain⟨z,O,rfl⟩:=ym.mp hx;have B:ss.take (i+1)=ss.take i++[z]:=by rw[yL,O];rfl
    have al:=(yc.mp O).1;obtain⟨r,g⟩:=get (ye O);obtain⟨ta,Z,p⟩:=qda Ylq g;apply .inr ⟨d,_,rfl,Z,?_⟩;apply⟨ta,r,rfl,p,?_⟩;rw[<- qeT g];apply qI (λhc=>?_) λhc=>?_
    .ext;show⟨?_,rfl,?_⟩
     .rw [ya];show qg (yh (yG _ _) (by rw[yN];lk))
     .rw [B,Yd,yt];simp only[yZ,XB,hc,Xq];rfl
    .show⟨rfl,?_⟩;rw[B,Yd,yt];simp only[yZ,XB,hc];simp
   obtain⟨rfl,rfl⟩:=n;rw[show(ss.map V.str).length=ss.length from ya ..,yD];show⟨by rw[ya];show yI (qg (yh (yG _ _) (by lk))),λS A=>?_⟩;have u2:=qu X (o:=.lst ((ss.filter λs=>!decide (sdP m s=0)).map V.str)) A;have v2:=qu G (o:=.lst ((ss.filter λs=>!decide (sdP m s=0)).map V.str)) A;have f2:=X.free A;have ay:R≠S:=λz=>by rw[<- z,G _ _ e1] at A;cases A
   have e2:upd H' S (.lst ((ss.filter λs=>!decide (sdP m s=0)).map V.str)) S=some (.lst ((ss.filter λs=>!decide (sdP m s=0)).map V.str)):=qb;generalize upd H' S (.lst ((ss.filter λs=>!decide (sdP m s=0)).map V.str))=J2 at u2 v2 e2;apply⟨wqqk,λt ht=>?_⟩;have u3:=qu u2 (o:=.tup [.ref R,.ref S]) ht;have v3:=qu (Sr J2) (o:=.tup [.ref R,.ref S]) ht;show qy (λs=>decide (sdP m s=0)) t R S _ u3 (λa b ha k=>by have:=hC.two u (λa b k=>k.elim (λy=>(W.ok _ y).2.1) λy=>(W.ok _ y).1) v k ha;rw[<- this];show Yc) qb (v3 _ _ (v2 _ _ e1)) (v3 _ _ e2)
theorem uS:FnScope wqb wqb (qf qai):=fS
theorem uG:FnScope wqE wqE (qf zI):=fS
theorem uM:FnScope wqb wqb (qf jr):=fS
theorem Ut:FnScope wqb wqb (qf qav):=fS
theorem qfM{X:L2.Cx}{st:List PySem.Stmt}{t:L2.TS}(t':L2.TS)(h:L2.PSs X st t)(k:∀ D σ H,t' D σ H->t D σ H):L2.PSs X st t':=λa s σ H D I q=>h a s σ H D I (k D σ H q)
theorem qgo(a:L2.Same H H1)(hl:H l=none):L2.Same H (upd H1 l o):=λc u e=>by
 have:c≠l:=λz=>by rw[z,hl] at e;cases e
 rw[qk this];show a c u e
theorem zJ(a b:Int):(if false=true then !eqV (V.int a) (V.int b) else eqV (V.int a) (V.int b))=decide (a=b):=by
 rw[yB (by decide)];unfold eqV;by_cases h:a=b<;>simp[h]
abbrev iv(n:Nat):V:=.int (n:Int)
abbrev ivs(L:LN):List V:=L.map iv
inductive spWh(vs:List V)(H:Hp)(Q:VK)(E:XK):Prop|mk (n:Nat) (_:vs=[iv n]) (_:Q (.bl true) H)
inductive spIn(vs:List V)(H:Hp)(Q:VK)(E:XK):Prop|mk (n:Nat) (hi:Int) (_:vs=[iv n,.int 0,.int hi]) (_:(n:Int)<=hi) (_:Q (.bl true) H)
inductive spSm(vs:List V)(H:Hp)(Q:VK)(E:XK):Prop|mk (n:Nat) (_:vs=[iv n]) (_:n<2 ^ 30) (_:Q (.bl true) H)
structure GoodL(H:Hp)(p:Addr)(L:LN):Prop where
 at_:H p=some (.lst (ivs L))
 len:L.length<=40
 lt:∀ n∈L,n<2 ^ 30
theorem GoodL.same(h:GoodL H p L)(s:L2.Same H H'):GoodL H' p L:=⟨s _ _ h.at_,h.len,h.lt⟩
inductive spMb(vs:List V)(H:Hp)(Q:VK)(E:XK):Prop|mk (p:Addr) (L:LN) (_:vs=[.ref p]) (_:GoodL H p L) (_:∀ H',L2.Same H H'->Q .non H')
theorem ok_wh(F:Fun K "is_whole" "is_whole" qai f fd)(T:Txt K mg cc cw):wqqg 1 f fd wqb spWh:=by
 show F.ok uS λ_ _ _ _ H vs Q E b h=>?_
 .obtain⟨v,rfl,a⟩:=h;have c:=jJ b;show⟨_,(qe (qm (zv (qj (jY (K:=K) rfl) rfl T.b_isinstance yV (qa (pv 0) (qa (qY (v:=.ty "int") rfl T.b_int boot_int rfl) qc))) (j4 (qcF (qj (jY (K:=K) rfl) rfl T.b_isinstance yV (qa (pv 0) (qa (qY (v:=.ty "bool") rfl T.b_bool boot_bool rfl) qc)))))))),?_⟩;apply zy (.inl (.int _)) rfl (je K "int" (by simp) "int" (by simp)) ?_;apply jp ?_;apply zy (.inl (.int _)) rfl (je K "int" (by simp) "bool" (by simp)) ?_;show⟨_,rfl,a⟩
theorem ok_in(F:Fun K "is_within" "is_within" zI f fd)(a:wqqe 1 "is_whole" wqb spWh):wqqg 2 f fd wqE spIn:=by
 show F.ok uG λ_ _ _ _ H vs Q E c h=>?_
 .obtain⟨n,d,rfl,hl,b⟩:=h;show⟨_,(qe (qm (zv (qi a (hmR c) qr (qa (pv 0) qc)) (j4 (qap qeB qeB (pv 1) (pv 0) (pv 2)))))),?_⟩;apply⟨n,rfl,?_⟩;apply jp ?_;ext;rw[yv (show(0:Int)<=n by lk)];show jp ?_;ext;rw[yv hl];show b
theorem ok_sm(F:Fun K "is_summed" "is_summed" qav f fd)(T:Txt K mg cc cw)(c:wqqe 2 "is_within" wqE spIn):wqqg 3 f fd wqb spSm:=by
 show F.ok Ut λ_ _ _ _ H vs Q E b h=>?_
 .obtain⟨n,rfl,hl,a⟩:=h;show⟨_,(qe (qm (qi c (hmR b) qr (qa (pv 0) (qa qh (qa (zN rfl T.g_HIGHEST_SUMMED) qc)))))),?_⟩;apply⟨n,1073741823,rfl,by lk,a⟩
theorem ok_mb(F:Fun K "must_be_summed" "must_be_summed" jr f fd)(T:Txt K mg cc cw)(m:wqqe 3 "is_summed" wqb spSm):wqqg 4 f fd wqb spMb:=by
 show F.ok uM λ_ _ _ _ H vs Q E e h=>?_
 .obtain⟨p,L,rfl,g,q⟩:=h;have s:=jJ e;have b:=g.at_;have d:=g.len;show⟨_,(qe (qJ (PW.pt (zU (qS (qN (qj (jY (K:=K) rfl) rfl T.b_isinstance yV (qa (pv 0) (qa (qY (v:=.ty "list") rfl T.b_list xr rfl) qc))))) (zU (qp qeZ (qj (zx (K:=K) rfl) rfl T.b_len YM (qa (pv 0) qc)) (zN rfl T.g_MOST_SUMMED) (qv _)) (zu (qS (qN (qj (qdI (K:=K) rfl rfl) rfl T.b_all kx (qa (qG (sc:=qf jr) (XN:=wqb) ["one"] 1 [] rfl rfl rfl (by room) rfl (by room)
  (qF (K:=K) rfl (pv 0)) (λ_ _ _ _=>(qo (i:=0) (show(["one"]:LS).Nodup by room) rfl (yF rfl))) qE
  (λ_ _ _ _=>jh)
  (λ_ _ _ _=>(qi m (hmR e) qr (qa (pv 0) qc)))) qc)))))))) (qe jF) qt)),?_⟩
  apply zy (.inl (.lst b)) rfl (je K "list" (by simp) "list" (by simp)) ?_;apply yp ?_;apply qaJ b ?_;ext;rw[yk (show ¬ ((ivs L).length:Int)>40 by rw[ya];lk)];show yp ?_;apply .inl ⟨⟨_,.of b⟩,qx (xs:=ivs L) (λi ys H'=>H'=H/\ys=(L.take i).map λ_=>V.bl true) ⟨rfl,by simp⟩ (λi ys H' _ a=>by rw[a.1];show .of b) (λi x ys H' j a=>?_) λys H' a=>?_⟩
  .obtain⟨rfl,rfl⟩:=a;rw[yd] at j;obtain⟨n,hn,rfl⟩:=ym.mp j;apply jp ?_;apply⟨n,rfl,g.lt n (ye hn),?_⟩;show⟨by rw[ya,yN];show qg (by lk),rfl,?_⟩;rw[yL,hn,yt];rfl
  .obtain⟨rfl,rfl⟩:=a;rw[show(ivs L).length=L.length from ya ..,yD];show⟨by rw[ya];show yI (qg (by lk)),λr c=>?_⟩;have l:=qu (Sr H') (o:=.lst (L.map λ_=>V.bl true)) c;apply⟨r,L.map λ_=>true,rfl,.of (by rw[YL];show qb),?_⟩;ext;rw[show(L.map λ_=>true).all id=true by simp];show yp ?_;apply q _ l
theorem KL:FnScope ["numbers","steps","at","number","step"] wq5 (qf qaV):=fS
theorem ue:FnScope ["step","steps","other"] wq9 (qf qaW):=fS
abbrev qfN(s:Nat×Nat):HO:=.tup [iv s.1,iv s.2]
def StpAt(H:Hp)(l:Addr)(st:List (Nat×Nat)):Prop:=∃ a:LI,H l=some (.lst (a.map V.ref))/\a.length=st.length/\∀(i:Nat) r o,a[i]?=some r->st[i]?=some o->H r=some (qfN o)
theorem StpAt.same{st:List (Nat×Nat)}(h:StpAt H l st)(s:L2.Same H H'):StpAt H' l st:=by
 obtain⟨e,h1,c,d⟩:=h;show⟨e,s _ _ h1,c,λi r o a b=>s _ _ (d i r o a b)⟩
theorem les_cons(s o:Nat×Nat)(a:List (Nat×Nat)):les s (o::a)=if s.1 ^^^ o.1<s.1 then les (s.1 ^^^ o.1,s.2 ^^^ o.2) a else les s a:=rfl
theorem drop_at{xs:List α}{x:α}(h:xs[i]?=some x):xs.drop i=x::xs.drop (i+1):=by
 obtain⟨hl,e⟩:=yc.mp h;rw[List.drop_eq_getElem_cons hl,e]
inductive spLes(vs:List V)(H:Hp)(Q:VK)(E:XK):Prop|mk (a l:Addr) (s:Nat×Nat) (st:List (Nat×Nat)) (_:vs=[.ref a,.ref l]) (_:H a=some (qfN s)) (_:StpAt H l st) (_:∀(r:Addr) (H':Hp),L2.Same H H'->H' r=some (qfN (les s st))->Q (.ref r) H')
inductive spSts(vs:List V)(H:Hp)(Q:VK)(E:XK):Prop|mk (p:Addr) (L:LN) (_:vs=[.ref p]) (_:GoodL H p L) (_:∀(l:Addr) (H':Hp),L2.Same H H'->H l=none->StpAt H' l (sts L L.length)->Q (.ref l) H')
theorem ok_les(F:Fun K "lessened" "lessened" qaW f fd):wqqg 1 f fd wq9 spLes:=by
 show F.ok ue λ_ _ _ _ H vs Q E B h=>?_
 .obtain⟨a,l,z,st,rfl,A,⟨D,hl,hn,s⟩,q⟩:=h;have g:=jJ B;show⟨_,(qd (jy yW rfl (qF (K:=K) rfl (pv 1)) (qo (i:=2) ue.nd rfl (yF rfl))
 (qe (qJ (qp qaB (qz qep (qB (qC (K:=K) rfl g) (pv 0) qh (λ_ _=>rfl)) (qB (qC (K:=K) rfl g) (pv 2) qh (λ_ _=>rfl))) (qB (qC (K:=K) rfl g) (pv 0) qh (λ_ _=>rfl)) (qv _)) (qe (qq (i:=0) ue.nd rfl (yF rfl) (q8 (qa (qz qep (qB (qC (K:=K) rfl g) (pv 0) qh (λ_ _=>rfl)) (qB (qC (K:=K) rfl g) (pv 2) qh (λ_ _=>rfl))) (qa (qz qep (qB (qC (K:=K) rfl g) (pv 0) qh (λ_ _=>rfl)) (qB (qC (K:=K) rfl g) (pv 2) qh (λ_ _=>rfl))) qc))))) qt)))
 (qe (qm (pv 0)))),?_⟩
  apply .inl ⟨⟨_,.of hl⟩,ju (xs:=D.map V.ref) (λi σ H'=>L2.Same H H'/\∃ r c x,σ=[some (.ref r),some (.ref l),x]/\H' r=some (qfN c)/\les c (st.drop i)=les z st) ⟨L2.Same.refl H,a,z,none,rfl,A,rfl⟩ (λi σ H' _ j=>.of (j.1 _ _ hl)) (λi x σ H' u j=>?_) fun σ H' j=>?_⟩
  .obtain⟨p,r,c,y,rfl,b,hc⟩:=j;rw[yd] at u;obtain⟨C,n,rfl⟩:=ym.mp u;have d:i<st.length:=by rw[<- hn];show(yc.mp n).1
   obtain⟨o,t⟩:∃ o,st[i]?=some o:=⟨_,yb d⟩;have e:=p _ _ (s i C o n t);rw[drop_at t,les_cons] at hc;apply .inl (qcC b (v:=iv c.1) rfl ?_);apply .inl (qcC e (v:=iv o.1) rfl ?_);ext;rw[qeL];show .inl (qcC b (v:=iv c.1) rfl ?_);ext;by_cases d:c.1 ^^^ o.1<c.1
   .rw [yH d] at hc;rw[yv (show((c.1 ^^^ o.1:Nat):Int)<(c.1:Int) by lk)];show jp ?_;apply .inl (qcC b (v:=iv c.1) rfl ?_);apply .inl (qcC e (v:=iv o.1) rfl ?_);ext;rw[qeL];show .inl (qcC b (v:=iv c.2) rfl ?_);apply .inl (qcC e (v:=iv o.2) rfl ?_);ext;rw[qeL];show⟨wqqk,λm hm=>?_⟩;apply⟨qu p hm,m,(c.1 ^^^ o.1,c.2 ^^^ o.2),_,rfl,qb,hc⟩
   .rw [yB d] at hc;rw[yk (show ¬ ((c.1 ^^^ o.1:Nat):Int)<(c.1:Int) by lk)];show yp ?_;apply⟨p,r,c,_,rfl,b,hc⟩
  .obtain⟨p,r,c,y,rfl,b,hc⟩:=j;rw[ya,hn,kS] at hc;apply q r H' p (by rw[<- hc];show b)
theorem ok_sts(F:Fun K "steps_of" "steps_of" qaV f fd)(T:Txt K mg cc cw)(uv:wqqe 1 "lessened" wq9 spLes):wqqg 2 f fd wq5 spSts:=by
 show F.ok KL λ_ _ _ _ H vs Q E U h=>?_
 .obtain⟨p,L,rfl,g,q⟩:=h;have W:=jJ U;show⟨_,(qd (qq (i:=1) KL.nd rfl (yF rfl) (qA qc))
 (qd (jy yW rfl (qea (K:=K) rfl rfl T.b_enumerate (qa (pv 0) qc)) (qa1 rfl (qW (qo (i:=2) KL.nd rfl (yF rfl)) (qW (qo (i:=3) KL.nd rfl (yF rfl)) zV)))
 (qd (qq (i:=4) KL.nd rfl (yF rfl) (qi uv (hmR U) qr (qa (q8 (qa (pv 3) (qa (qz qdv qh (pv 2)) qc))) (qa (pv 1) qc))))
 (qe (qJ (qp (qaK (K:=K) rfl W) (qB (qC (K:=K) rfl W) (pv 4) qh (λ_ _=>rfl)) qh (qv _)) (qe (qK (qcN (K:=K) rfl yO yT yU qR (pv 1) (qa (pv 4) qc)))) qt))))
 (qe (qm (pv 1))))),?_⟩
  apply⟨wqqi,λl hl=>?_⟩;ext;have Y:=qu (Sr H) (o:=.lst []) hl;show⟨p,_,rfl,.of (Y _ _ g.at_),qc2 (xs:=ivs L) (λi σ H'=>L2.Same H H'/\StpAt H' l (sts L i)/\∃ x y z,σ=[some (.ref p),some (.ref l),x,y,z]) ⟨Y,⟨[],qb,rfl,λi r o h=>by cases h⟩,_,_,_,rfl⟩ (λi σ H' _ s=>.of (s.1 _ _ g.at_)) (λi x t σ H' X ht s=>?_) fun σ H' s=>?_⟩
  .obtain⟨O,C,x0,y0,z0,rfl⟩:=s;rw[yd] at X;obtain⟨n,hn,rfl⟩:=ym.mp X;have hi:i<L.length:=(yc.mp hn).1;have I:=qfE g.lt i (by lk);have Z:=qu (Sr H') (o:=.tup [.int i,iv n]) ht;show⟨t,_,rfl,.of qb,rfl,_,_,rfl,_,_,rfl,rfl,?_⟩;have a:=C.same Z;have A:=O.trans Z;generalize upd H' t (.tup [.int i,iv n])=H3 at a A ⊢;apply vI ⟨by lk,by have:=g.len;lk,by decide⟩ ?_;ext;have e1:(1*2 ^ (i:Int).toNat:Int)=((1 <<< i:Nat):Int):=by rw[Ym,Int.one_mul,kI,XA];rfl
   rw[e1];show⟨wqqk,λm hm=>?_⟩;ext;have R:=qu (Sr H3) (o:=qfN (n,1 <<< i)) hm;show⟨m,l,(n,1 <<< i),sts L i,rfl,qb,a.same R,λr H5 s5 u=>?_⟩;have e:=(a.same R).same s5;have B:=(A.trans R).trans s5;apply .inl (qcC u (v:=iv (les (n,1 <<< i) (sts L i)).1) rfl ?_);apply .inl ⟨rfl,rfl,?_⟩;have ev:L.getD i 0=n:=by rw[yY,hn];rfl
   have b:sts L (i+1)=stp (sts L i) i n:=by show stp (sts L i) i (L.getD i 0)=_;rw[ev]
   have e2:(if true=true then !eqV (iv (les (n,1 <<< i) (sts L i)).1) (V.int 0) else eqV (iv (les (n,1 <<< i) (sts L i)).1) (V.int 0))=!decide ((les (n,1 <<< i) (sts L i)).1=0):=by
    have:=zJ ((les (n,1 <<< i) (sts L i)).1:Int) 0;rw[yB (by decide)] at this;rw[yH rfl,this]
    congr 2
    apply propext;lk
   rw[e2];unfold stp at b;by_cases D:(les (n,1 <<< i) (sts L i)).1=0
   .rw [yH D] at b;rw[yv D];apply yp ?_;apply⟨B,by rw[b];show e,_,_,_,rfl⟩
   .rw [yB D] at b;rw[yk D];apply jp ?_;obtain⟨N,h1,G,h3⟩:=e;apply⟨.inl ⟨rfl,_,.of h1⟩,?_⟩;apply⟨l,_,_,rfl,rfl,h1,by rw[ya,G];have:=I.len;have:=g.len;show qg (by lk),?_⟩;show⟨qgo B hl,⟨N++[r],by rw[qb,yt];rfl,by rw[b,yx,yx,G];rfl,λj M o c d=>?_⟩,_,_,_,rfl⟩;rw[b] at d
    have key:H5 M=some (qfN o):=by
     by_cases J:j<N.length
     .rw [yP J] at c;rw[yP (by lk)] at d;show h3 j M o c d
     .rw [yX (by lk)] at c;rw[yX (by lk)] at d
      have S:j-N.length=0:=by
       have:=(yc.mp c).1;simp only[Yb,YT] at this;lk
      rw[S] at c;rw[<- G,S] at d;cases c;cases d;show u
    have:M≠l:=λz=>by rw[z,h1] at key;cases key
    rw[qk this];show key
  .obtain⟨O,C,x0,y0,z0,rfl⟩:=s;rw[ya] at C;apply q l H' O hl C
theorem Uu:FnScope ["numbers","goal","rest"] wqJ (qf qct):=fS
def pkL(L:LN)(g:Nat):LN:=(List.range L.length).filter λi=>(qe7 L g).testBit i
inductive spPk(vs:List V)(H:Hp)(Q:VK)(E:XK):Prop|mk (p:Addr) (L:LN) (g:Nat) (_:vs=[.ref p,iv g]) (_:GoodL H p L) (_:g<2 ^ 30) (_:(¬ Spn L g->∀ H',L2.Same H H'->Q .non H')) (_:(Spn L g->∀ l H',L2.Same H H'->H l=none->H' l=some (.lst (ivs (pkL L g)))->Q (.ref l) H'))
theorem ok_pk(F:Fun K "picks" "picks" qct f fd)(T:Txt K mg cc cw)(U:wqqe 4 "must_be_summed" wqb spMb)(W:wqqe 3 "is_summed" wqb spSm)(X:wqqe 1 "lessened" wq9 spLes)
  (B:wqqe 2 "steps_of" wq5 spSts) (A:wqqe 1 "has_bit" wqB spBit):wqqg 5 f fd wqJ spPk:=by
 show F.ok Uu λ_ _ _ _ H vs Q E b h=>?_
 .obtain⟨p,L,g,rfl,G,c,M,N⟩:=h;have s:=jJ b;show⟨_,(qd (qK (qi U (hmR b) qr (qa (pv 0) qc)))
 (qd (qJ (qS (qN (qi W (hmR b) qr (qa (pv 1) qc)))) (qe jF) qt)
 (qd (qq (i:=2) Uu.nd rfl (Xl rfl) (qi X (hmR b) qr (qa (q8 (qa (pv 1) (qa qh qc))) (qa (qi B (hmR b) qr (qa (pv 0) qc)) qc))))
 (qd (qJ (qp (qaK (K:=K) rfl s) (qB (qC (K:=K) rfl s) (pv 2) qh (λ_ _=>rfl)) qh (qv _)) (qe (qm jI)) qt)
 (qe (qm (qG (sc:=qf qct) (XN:=["numbers","goal","rest"]) ["at","rest"] 1 [2] rfl rfl rfl (by room) rfl (by room)
  (qaa rfl T.b_range (qa (qj (zx (K:=K) rfl) rfl T.b_len YM (qa (pv 0) qc)) qc)) (λ_ _ _ _=>(qo (i:=0) (show(["at","rest"]:LS).Nodup by room) rfl (yF rfl))) qE
  (λ_ _ _ _=>(qP (qN (qi A (hmR b) qr (qa (qB (qC (K:=K) rfl s) (pv 1) qh (λ_ _=>rfl)) (qa (pv 0) qc))))))
  (λ_ _ _ _=>(pv 0))))))))),?_⟩
  ext
  .show⟨p,L,rfl,G,λH1 R=>?_⟩;apply⟨g,rfl,c,?_⟩;apply yp ?_;apply⟨wqqk,λm hm=>?_⟩;ext;have t:=qu R (o:=qfN (g,0)) hm;have d:upd H1 m (qfN (g,0)) m=some (qfN (g,0)):=qb;have C:upd H1 m (.tup [V.int g,V.int 0])=upd H1 m (qfN (g,0)):=rfl;rw[C];generalize upd H1 m (qfN (g,0))=H2 at t d ⊢;show⟨p,L,rfl,G.same t,λl Y x J I=>?_⟩;apply⟨m,l,(g,0),_,rfl,x _ _ d,I,λr y S j=>?_⟩;have a:=(t.trans x).trans S;apply .inl (qcC j (v:=iv (les (g,0) (sts L L.length)).1) rfl ?_);apply .inl ⟨rfl,rfl,?_⟩
   have D:(if true=true then !eqV (iv (les (g,0) (sts L L.length)).1) (V.int 0) else eqV (iv (les (g,0) (sts L L.length)).1) (V.int 0))=!decide ((les (g,0) (sts L L.length)).1=0):=by
    have:=zJ ((les (g,0) (sts L L.length)).1:Int) 0;rw[yB (by decide)] at this;rw[yH rfl,this]
    congr 2
    apply propext;lk
   rw[D];by_cases n:(les (g,0) (sts L L.length)).1=0
   .rw [yv n];apply yp ?_;apply qaJ (a _ _ G.at_) ?_;rw[ya];have u:=G.len;show⟨(L.length:Int),rfl,by lk,by lk,?_⟩;rw[Ym];show qcL (lo:=0) (λi ys H'=>H'=y/\ys=ivs ((List.range i).filter λi=>(qe7 L g).testBit i)) ⟨rfl,rfl⟩ (λi ys H' hi q=>?_) λys H' q=>?_
    .obtain⟨rfl,rfl⟩:=q;rw[kZ];apply .inl (qcC j (v:=iv (les (g,0) (sts L L.length)).2) rfl ?_);apply⟨_,(i:Int),rfl,by lk,?_⟩;ext;rw[bit_nat,xN,Yd,yZ];show if (qe7 L g).testBit i=true then _ else _
     cases Z:(qe7 L g).testBit i with
     | true =>
      show jp ?_;apply⟨?_,rfl,?_⟩
      .rw [ya];have:=yG (λi=>(qe7 L g).testBit i) (List.range i);rw[Yh] at this;show qg (by lk)
      .rw [yH rfl];show _=List.map iv _;rw[yt];rfl
     | false =>
      show yp ?_;show⟨rfl,?_⟩;rw[yB (by decide)];simp
    .obtain⟨rfl,rfl⟩:=q;show⟨?_,λO e=>?_⟩
     .rw [ya];have:=yG (λi=>(qe7 L g).testBit i) (List.range L.length);rw[Yh] at this;show yI (qg (by lk))
     .show N ((qdN G.lt g).mp n) O _ (qu a e) (a.free e) qb
   .rw [yk n];apply jp ?_;apply M (λz=>n ((qdN G.lt g).mpr z)) _ a
theorem Uv:FnScope wqO wqO (qf qaw):=fS
theorem KW:FnScope ["_law_cell","_law_found","_law_number","_law_k"] ["_law_cell"] (qf qdb):=fS
theorem Ui:FnScope ["_law_box_here","_law_many","_law_found"] wqo (qf qb6):=fS
inductive spCa(K:W.Frag)(vs:List V)(H:Hp)(Q:VK)(E:XK):Prop|mk (a:Addr) (ns:LQ) (k:Nat) (_:vs=[.ref a,.int (k:Int)]) (_:SqL K H a (ns.map V.int)) (_:k<1000) (_:∀ i:Int,Q (.int i) H)
def Bx(H:Hp)(p:Addr):Prop:=∃ v:Int,0<=v/\H p=some (.lst [.int v])
inductive spBx(vs:List V)(H:Hp)(Q:VK)(E:XK):Prop|mk (c:Int) (_:vs=[.int c]) (_:∀(p:Addr) (H':Hp),L2.Same H H'->H p=none->Bx H' p->Q (.ref p) H')
inductive spTk(vs:List V)(H:Hp)(Q:VK)(E:XK):Prop|mk (p:Addr) (m:Nat) (_:vs=[.ref p,.int (m:Int)]) (_:Bx H p) (_:0<m) (_:m<1000) (_:∀(d:Nat) (H':Hp),d<m->But p H H'->Bx H' p->Q (.int (d:Int)) H')
inductive spNm7(vs:List V)(H:Hp)(Q:VK)(E:XK):Prop|mk (p:Addr) (m:Nat) (_:vs=[.ref p,.int (m:Int)]) (_:Bx H p) (_:m<=14) (_:∀(l:Addr) (ss:LS) (H':Hp),But p H H'->Bx H' p->H l=none->l≠p->H' l=some (.lst (ss.map V.str))->NOk ss->ss.length=m->Q (.ref l) H')
def stepsL:LQ:=[1,3,5,7,9,11,15,17,19,21,23,25]
theorem step_in1:∀ s∈stepsL,∃ u∈stepsL,s*u % 26=1:=by decide
theorem step_in2{step sh a b:Int}(c:step∈stepsL)(g:0<=a)(hb:0<=b)(d:a<26)(f:b<26)(e:(sh+step*a) % 26=(sh+step*b) % 26):a=b:=by
 have ⟨u,_,h⟩:=step_in1 step c;have h1:=Int.emod_eq_emod_iff_emod_sub_eq_zero.mp e;have h2:=Int.mul_ediv_add_emod (step*u) 26;have h3:=Int.mul_ediv_add_emod (sh+step*a-(sh+step*b)) 26;rw[h] at h2;rw[h1] at h3
 have k:(a-b)*(step*u)=u*(sh+step*a-(sh+step*b)):=by rw[show sh+step*a-(sh+step*b)=step*(a-b) by rw[Int.mul_sub];omega,Int.mul_comm u,Int.mul_assoc,Int.mul_comm (a-b),Int.mul_assoc,Int.mul_comm u (a-b),<- Int.mul_assoc]
 rw[<- h2,<- h3,Int.mul_add,Int.mul_left_comm,Int.add_zero,Int.mul_left_comm u] at k;generalize (a-b)*(step*u/26)=x at k;generalize u*((sh+step*a-(sh+step*b))/26)=y at k;omega
def cL(first step:Int)(j:Nat):Nat:=97+((first+step*(j:Int)) % 26).toNat
def NmK(way first step:Int)(t j:Nat)(s:Str):Prop:=
 if way=0 then ∃ a:LN,s.cps.toList=cL first step j::a/\a.all sg=true/\a.length<=5
 else if way=1 then s.cps.toList=List.replicate t 109++[cL first step j]
 else if j<6 then s.cps.toList=List.replicate (j+1) (97+first.toNat) else s.cps.toList=[cL first step j]
theorem qhg(first step:Int)(j:Nat):sg (cL first step j)=true:=by
 have h1:=YX (first+step*(j:Int)) (show(26:Int)≠0 by decide);have a:=xo (first+step*(j:Int)) (show(0:Int)<26 by decide);unfold cL;show qhf (by lk) (by lk)
theorem qdT{step:Int}(c:step∈stepsL){k:Nat}(f:j<14)(g:k<14)(e:cL first step j=cL first step k):j=k:=by
 have h1:=YX (first+step*(j:Int)) (show(26:Int)≠0 by decide);have d:=YX (first+step*(k:Int)) (show(26:Int)≠0 by decide);unfold cL at e;have:=step_in2 (a:=j) (b:=k) (sh:=first) c (by lk) (by lk) (by lk) (by lk) (by lk);lk
theorem NmK.nm{step:Int}{t:Nat}(h:NmK way first step t j s)(d:t<=5)(c:0<=first/\first<26):jx s=true:=by
 unfold NmK at h;split at h
 .obtain⟨f,e,h1,b⟩:=h;show qb5 e (by simp) (by simp;lk) ?_;rw[xU,qhg,h1];rfl
 .split at h
  .show qb5 h (by simp) (by simp;lk) ?_;rw[List.all_append,xU,qhg];have:(List.replicate t 109).all sg=true:=Yp.mpr λx a=>by rw[(ky.mp a).2];show qhf (by decide) (by decide)
   rw[this];rfl
  .split at h
   .show qb5 h (by simp) (by simp;lk) ?_;show Yp.mpr λx a=>by rw[(ky.mp a).2];show qhf (by lk) (by lk)
   .show qb5 h (by simp) (by simp) ?_;rw[xU,qhg];rfl
theorem NmK.inj{step:Int}{t k:Nat}(c:step∈stepsL)(m:0<=first/\first<26)(a:j<14)(b:k<14)(h:NmK way first step t j s)(g:NmK way first step t k s):j=k:=by
 have i:cL first step 0=97+first.toNat:=by
  unfold cL;rw[show first+step*((0:Nat):Int)=first by simp,Int.emod_eq_of_lt m.1 m.2]
 unfold NmK at h g;split at h
 .rename_i hw
  rw[yH hw] at g;obtain⟨o,e,_⟩:=h;obtain⟨n,l,_⟩:=g;rw[e] at l;show qdT c a b (XY l).1
 .rename_i hw
  rw[yB hw] at g;split at h
  .rename_i hw2
   rw[yH hw2] at g;rw[h] at g;have:=List.append_cancel_left g;show qdT c a b (XY this).1
  .rename_i hw2
   rw[yB hw2] at g;split at h<;>split at g
   .rw [h] at g;have:=congrArg List.length g;simp at this;lk
   .rename_i h1 h2
    rw[h] at g;have hl:=congrArg List.length g;simp at hl;have d:j=0:=by lk
    subst d;have:97+first.toNat=cL first step k:=by simpa using g
    rw[<- i] at this;show qdT c a b this
   .rename_i h1 h2
    rw[h] at g;have hl:=congrArg List.length g;simp at hl;have f:k=0:=by lk
    subst f;have:cL first step j=97+first.toNat:=by simpa using g
    rw[<- i] at this;show qdT c a b this
   .rw [h] at g;show qdT c a b (XY g).1
theorem ok_ca7(F:Fun K "_law_cell_at" "_law_cell_at" qaw f fd)(T:Txt K mg cc cw):wqqg 1 f fd wqO (spCa K):=by
 show F.ok Uv λ_ _ _ _ H vs Q E d h=>?_
 .obtain⟨a,ns,k,rfl,b,h1,q⟩:=h;have e:=jJ d;show⟨_,(qd (qJ (qp qaB (pv 1) (qj (zx (K:=K) rfl) rfl T.b_len YM (qa (pv 0) qc)) (qv _)) (qe (qm (qB (qC (K:=K) rfl e) (pv 0) (pv 1) (λ_ _=>rfl)))) qt)
 (qe (qm qh))),?_⟩
  apply vLenLs b ?_;rw[ya];ext;by_cases c:k<ns.length
  .rw [yv (show(k:Int)<(ns.length:Int) by lk)];show jp ?_;apply .inl (vIxLs b (v:=.int ns[k]) (atI_nat (by rw[yd,yb c];rfl)) ?_);show q _
  .rw [yk (show ¬ (k:Int)<(ns.length:Int) by lk)];show yp ?_;apply q _
theorem ok_bx(F:Fun K "_law_box" "_law_box" qdb f fd)(T:Txt K mg cc cw):wqqg 1 f fd ["_law_cell"] spBx:=by
 show F.ok KW λ_ _ _ _ H vs Q E r h=>?_
 .obtain⟨c,rfl,q⟩:=h;show⟨_,(qd (qJ (qp op_ge (pv 0) (qz op_pow qh qh) (qv _)) (qe (qm (qA (qa (pv 0) qc)))) qt)
 (qd (qq (i:=1) KW.nd rfl (yF rfl) qh)
 (qd (qq (i:=2) KW.nd rfl (yF rfl) (qz (zg (K:=K) rfl) (qz zh (pv 0) qh) qh))
 (qd (jy yW rfl (qaa rfl T.b_range (qa qh qc)) (qo (i:=3) KW.nd rfl (yF rfl))
 (qd (qq (i:=2) KW.nd rfl (yF rfl) (qz zh (qz (zg (K:=K) rfl) (qz (zg (K:=K) rfl) (qz qd6 (pv 2) (pv 2)) (qz qd6 qh (pv 2))) (pv 3)) qh))
 (qe (qq (i:=1) KW.nd rfl (yF rfl) (qz (zg (K:=K) rfl) (qz qd6 (pv 1) qh) (qz zh (qz qd6 (pv 2) qh) qh))))))
 (qe (qm (qA (qa (pv 1) qc)))))))),?_⟩
  apply vI ⟨by decide,by decide,by decide⟩ ?_;apply qI (λh=>?_) (λh=>?_)
  .have h:c ≥ 10 ^ (18:Int).toNat:=yj h;apply⟨wqqj,λp d=>q p _ (qu (Sr H) d) d ⟨c,?_,qb⟩⟩;have:(10:Int) ^ (18:Int).toNat=1000000000000000000:=by decide
   lk
  .ext;show vI (by decide) ?_;ext;have l:=YX c (show(2147483647:Int)≠0 by decide);have m:=xo c (show(0:Int)<2147483647 by decide);show⟨9,rfl,by decide,by decide,qaG (lo:=0) (n:=9) (λi σ H'=>H'=H/\∃(b a:Int) (x:Option V),σ=[some (.int c),some (.int b),some (.int a),x]/\0<=b/\0<=a/\a<2200000000) ⟨rfl,0,_,_,rfl,by decide,by lk,by lk⟩ (λi σ H' o d=>?_) fun σ H' d=>?_⟩
   .obtain⟨rfl,b,a,x,rfl,e,h0,h1⟩:=d;apply qe4 (.inl ⟨by lk,by lk⟩) ?_;apply qe4 (.inl ⟨by decide,by decide⟩) ?_;apply vI (by decide) ?_;apply qe4 (.inr ⟨by decide,by decide⟩) ?_;apply qe4 (.inr ⟨by decide,by decide⟩) ?_;apply vI (by decide) ?_;ext;generalize g:(a*a+48271*a+(0+(i:Int))) % 2147483647=N;have j:0<=N:=by rw[<- g];show YX _ (by decide)
    have t:N<2147483647:=by rw[<- g];show xo _ (by decide)
    show⟨rfl,_,_,_,rfl,?_,j,by lk⟩;have s:=YX (N*69621) (show(2147483629:Int)≠0 by decide);have:0<=b*2147483629:=Int.mul_nonneg e (by decide);lk
   .obtain⟨rfl,b,a,x,rfl,e,_⟩:=d;apply⟨wqqj,λp d=>q p _ (qu (Sr H') d) d ⟨b,e,qb⟩⟩
theorem ok_tk(F:Fun K "_law_take" "_law_take" qb6 f fd):wqqg 1 f fd wqo spTk:=by
 show F.ok Ui λ_ _ _ _ H vs Q E d h=>?_
 .obtain⟨p,m,rfl,⟨v,hv,a⟩,h0,h1,k⟩:=h;have b:=jJ d;have hm:(0:Int)<(m:Int):=by lk
  show⟨_,(qd (qq (i:=2) Ui.nd rfl (yF rfl) (qz zh (qB (qC (K:=K) rfl b) (pv 0) qh (λ_ _=>rfl)) (pv 1)))
 (qd (qa2 (qz qcc (qB (qC (K:=K) rfl b) (pv 0) qh (λ_ _=>rfl)) (pv 1)) (qbL (pv 0) qh (qbO b)))
 (qe (qm (pv 2))))),?_⟩
  apply .inl (qbW a rfl ?_);apply vI hm ?_;apply .inl (qbW a rfl ?_);apply vI ⟨hm,by lk⟩ ?_;apply .inl (qhb a rfl ?_);ext;have g:=YX v (show(m:Int)≠0 by lk);have j:=xo v hm;have c:v % (m:Int)=(((v % (m:Int)).toNat:Nat):Int):=by lk
  rw[c];show k _ _ (by lk) (λx o n e=>by rw[qk n];show e) ⟨_,Int.ediv_nonneg hv (by lk),qb⟩
theorem Kr:FnScope ["_law_box_here","_law_many","_law_letters","_law_way","_law_first","_law_step","_law_tails","_law_names_here","_law_k","_law_sign"] wqo (qf jj):=fS
theorem rep_ok6{c:Nat}(h:n<6):MulOk ⟨#[c]⟩ ((n:Int)+1)/\(Txt.mul ⟨#[c]⟩ ((n:Int)+1)).cps.toList=List.replicate (n+1) c:=by
 have a:n=0\/n=1\/n=2\/n=3\/n=4\/n=5:=by lk
 rcases a with rfl | rfl | rfl | rfl | rfl | rfl
 .show⟨⟨by decide,λ_ _=>by show ¬ ((1:Int)>(2 ^ 63-1) / 1);decide,λ_ _=>by show Builtin.Str.tooLong (1*1)=false;decide⟩,rfl⟩
 .show⟨⟨by decide,λ_ _=>by show ¬ ((1:Int)>(2 ^ 63-1) / 2);decide,λ_ _=>by show Builtin.Str.tooLong (1*2)=false;decide⟩,rfl⟩
 .show⟨⟨by decide,λ_ _=>by show ¬ ((1:Int)>(2 ^ 63-1) / 3);decide,λ_ _=>by show Builtin.Str.tooLong (1*3)=false;decide⟩,rfl⟩
 .show⟨⟨by decide,λ_ _=>by show ¬ ((1:Int)>(2 ^ 63-1) / 4);decide,λ_ _=>by show Builtin.Str.tooLong (1*4)=false;decide⟩,rfl⟩
 .show⟨⟨by decide,λ_ _=>by show ¬ ((1:Int)>(2 ^ 63-1) / 5);decide,λ_ _=>by show Builtin.Str.tooLong (1*5)=false;decide⟩,rfl⟩
 .show⟨⟨by decide,λ_ _=>by show ¬ ((1:Int)>(2 ^ 63-1) / 6);decide,λ_ _=>by show Builtin.Str.tooLong (1*6)=false;decide⟩,rfl⟩
theorem qdc(a b:Int):(if false=true then !eqV (V.int a) (V.int b) else eqV (V.int a) (V.int b))=decide (a=b):=by
 rw[yB (by decide)];unfold eqV;by_cases h:a=b<;>simp[h]
theorem But.trans7(a:But p H H1)(b:But p H1 H2):But p H H2:=λc o n e=>b c o n (a c o n e)
theorem But.new7(a:But p H H1)(hl:H1 l=none):But p H (upd H1 l o):=λc u n e=>by
 have:=a c u n e;have ne:c≠l:=λz=>by rw[z,hl] at this;cases this
 rw[qk ne];show this
theorem But.free7(a:But p H H1)(hn:l≠p)(hl:H1 l=none):H l=none:=by
 cases e:H l with
 | none=>rfl
 | some o=>rw[a l o hn e] at hl;cases hl
def setWith(s:Stmt)(a:List Expr):Stmt:=match s with
 | .Assign ts (.Subscript (.List _ lp) ix p1) p=>.Assign ts (.Subscript (.List a lp) ix p1) p
 | s=>s
abbrev qee(s:Stmt)(i:Nat):Stmt:=(zk s).getD i (.Pass ⟨0,0,0,0⟩)
theorem names_parts:∃ d,zk jj=[qee jj 0,qee jj 1,qee jj 2,setWith (qee jj 3) d,qee jj 4,qee jj 5,qee jj 6,qee jj 7]/\∀(env:Env) (c:Expr->TE->Prop) (b:List Expr->TA->Prop),
  (∀ i j f,c (.Constant (.int i) j f) (tC (.int i)))->b [] qbT->(∀ e d g t,c e g->b d t->starEach (e::d) env=(false,eval e env)::starEach d env->b (e::d) (qO g t)) ->
  b d (qO (tC (.int 1)) (qO (tC (.int 3)) (qO (tC (.int 5)) (qO (tC (.int 7)) (qO (tC (.int 9)) (qO (tC (.int 11)) (qO (tC (.int 15)) (qO (tC (.int 17)) (qO (tC (.int 19)) (qO (tC (.int 21)) (qO (tC (.int 23)) (qO (tC (.int 25)) qbT)))))))))))):=
 ⟨_,rfl,λenv c b a h0 hc=>(hc _ _ _ _ (a _ _ _) (hc _ _ _ _ (a _ _ _) (hc _ _ _ _ (a _ _ _) (hc _ _ _ _ (a _ _ _) (hc _ _ _ _ (a _ _ _) (hc _ _ _ _ (a _ _ _) (hc _ _ _ _ (a _ _ _) (hc _ _ _ _ (a _ _ _) (hc _ _ _ _ (a _ _ _) (hc _ _ _ _ (a _ _ _) (hc _ _ _ _ (a _ _ _) (hc _ _ _ _ (a _ _ _) h0 rfl) rfl) rfl) rfl) rfl) rfl) rfl) rfl) rfl) rfl) rfl) rfl)⟩
theorem ok_nm7(F:Fun K "_law_names" "_law_names" jj f fd)(T:Txt K mg cc cw)(Kt:wqqe 1 "_law_take" wqo spTk):wqqg 2 f fd wqo spNm7:=by
 show F.ok Kr λ_ _ _ s H vs Q E O h=>?_
 .obtain⟨p,m,rfl,hB,hm,q⟩:=h;have hu:=jJ O;obtain⟨TC5,G⟩:∃ t:TS,t=λD σ H'=>(∀ u H',Q u H'->D.rt u H')/\∃(x7 I J:Option V) (way first step:Int) (t:Nat),σ=[some (.ref p),some (.int (m:Int)),some (.str L26),some (.int way),some (.int first),some (.int step),some (.int (t:Int)),x7,I,J]/\But p H H'/\Bx H' p/\(way=0\/way=1\/way=2)/\(0<=first/\first<26)/\step∈stepsL/\t<=5:=⟨_,rfl⟩;obtain⟨ao,L,ai⟩:=names_parts;rw[L];show⟨_,(qd (qq (i:=2) Kr.nd rfl (yF rfl) jg)
 (qd (qq (i:=3) Kr.nd rfl (yF rfl) (qi Kt (hmR O) qr (qa (pv 0) (qa qh qc))))
 (qd (qq (i:=4) Kr.nd rfl (yF rfl) (qi Kt (hmR O) qr (qa (pv 0) (qa qh qc))))
 (qd (qq (i:=5) Kr.nd rfl (yF rfl) (qB (qC (K:=K) rfl hu) (qA (ai _ _ _ (λ_ _ _=>qh) qc λ_ _ _ _ ha O hs=>qa ha O hs)) (qi Kt (hmR O) qr (qa (pv 0) (qa qh qc))) (λ_ _=>rfl)))
 (qd (qq (i:=6) Kr.nd rfl (yF rfl) (qi Kt (hmR O) qr (qa (pv 0) (qa qh qc))))
 (qfM TC5 (qd (qq (i:=7) Kr.nd rfl (yF rfl) (qA qc))
 (qd (jy yW rfl (qaa rfl T.b_range (qa (pv 1) qc)) (qo (i:=8) Kr.nd rfl (yF rfl))
 (qd (qq (i:=9) Kr.nd rfl (yF rfl) (qB (qC (K:=K) rfl hu) (pv 2) (qz zh (qz (zg (K:=K) rfl) (pv 4) (qz qd6 (pv 5) (pv 8))) qh) (λ_ _=>rfl)))
 (qe (qJ (qp (zA (K:=K) rfl hu) (pv 3) qh (qv _)) (qe (qK (qcN (K:=K) rfl yO yT yU qR (pv 7) (qa (qz (zg (K:=K) rfl) (pv 9) (qbU (qhR (K:=K) rfl) jg qd2 (qa5 (qz zh (qz (zg (K:=K) rfl) (pv 6) (qz qd6 qh (pv 8))) qh)))) qc)))) (qe (qJ (qp (zA (K:=K) rfl hu) (pv 3) qh (qv _)) (qe (qK (qcN (K:=K) rfl yO yT yU qR (pv 7) (qa (qz (zg (K:=K) rfl) (qbU (qhR (K:=K) rfl) jg qd2 (qa5 (pv 6))) (pv 9)) qc)))) (qe (qJ (qp qaB (pv 8) qh (qv _)) (qe (qK (qcN (K:=K) rfl yO yT yU qR (pv 7) (qa (qz qd6 (qB (qC (K:=K) rfl hu) (pv 2) (pv 4) (λ_ _=>rfl)) (qz (zg (K:=K) rfl) (pv 8) qh)) qc)))) (qe (qK (qcN (K:=K) rfl yO yT yU qR (pv 7) (qa (pv 9) qc))))))))))))
 (qe (qm (pv 7))))) ?cut5)))))),?_⟩
  case cut5 =>
   intro D σ H1 h;rw[G] at h;obtain⟨hD,x7,I,J,way,first,step,t,rfl,b1,hB1,an,hf,B,ht⟩:=h;apply⟨wqqi,λl hl=>?_⟩;obtain⟨bv,aj,ab⟩:=id hB1;have M:l≠p:=λz=>by rw[z,ab] at hl;cases hl
   apply⟨(m:Int),rfl,by lk,by lk,?_⟩;rw[Ym];show qaG (lo:=0) (n:=m) (λi σ H'=>∃(ss:LS) (I J:Option V),σ=[some (.ref p),some (.int (m:Int)),some (.str L26),some (.int way),some (.int first),some (.int step),some (.int (t:Int)),some (.ref l),I,J]/\H'=upd H1 l (.lst (ss.map V.str))/\ss.length=i/\∀(j:Nat) s,ss[j]?=some s->NmK way first step t j s) ⟨[],_,_,rfl,rfl,rfl,λj s h=>by simp at h⟩ (λi σ H' hi hp=>?_) fun σ H' hp=>?_
   .obtain⟨ss,I,J,rfl,rfl,R,A⟩:=hp;have b:upd H1 l (.lst (ss.map V.str)) l=some (.lst (ss.map V.str)):=qb;rw[kZ];ext
    have ar:0<=step/\step<=25:=by
     have h:=B;simp only[stepsL,yy,yR,YJ] at h;lk
    show qe4 (.inl ⟨by lk,by lk⟩) ?_;apply vI (by decide) ?_;have c1:=YX (first+step*(i:Int)) (show(26:Int)≠0 by decide);have c2:=xo (first+step*(i:Int)) (show(0:Int)<26 by decide);show .inl (qih (by room) (qgT c1 c2) ?_)
    have C:∀(s:Str),NmK way first step t i s->∃(W:LS) (I J:Option V),[some (V.ref p),some (.int (m:Int)),some (.str L26),some (.int way),some (.int first),some (.int step),some (.int (t:Int)),some (.ref l),some (.int (i:Int)),some (V.str ⟨#[97+((first+step*(i:Int)) % 26).toNat]⟩)]=[some (.ref p),some (.int (m:Int)),some (.str L26),some (.int way),some (.int first),some (.int step),some (.int (t:Int)),some (.ref l),I,J]/\upd (upd H1 l (.lst (ss.map V.str))) l (.lst (ss.map V.str++[.str s]))=upd H1 l (.lst (W.map V.str))/\W.length=i+1/\∀(j:Nat) s,W[j]?=some s->NmK way first step t j s:=λs hs=>by
     show⟨ss++[s],_,_,rfl,?_,by rw[yx,R];rfl,λj s' r=>?_⟩
     .rw [yt];funext c;by_cases hc:c=l
      .subst hc;rw[qb,qb];rfl
      .rw [qk hc,qk hc,qk hc]
     .by_cases ak:j<ss.length
      .rw [yP ak] at r;show A j s' r
      .rw [yX (by lk)] at r
       have e0:j-ss.length=0:=by
        have:=(yc.mp r).1;simp only[Yb,YT] at this;lk
       rw[e0] at r;cases r;have:j=i:=by lk
       rw[this];show hs
    have g:(ss.map V.str).length<sizeLine:=by rw[ya];show qg (by lk)
    apply .inl (.inl (.inl ⟨rfl,rfl,?_⟩));rw[qdc];apply qI (λh=>?_) (λh=>?_)
    .have hw:way=0:=yj h;apply⟨.inl ⟨rfl,_,.of b⟩,?_⟩;apply qe4 (.inl ⟨by decide,by decide⟩) ?_;apply vI (by decide) ?_;apply qii (by room) ?_;have e6:((t:Int)+5*(i:Int)) % 6=(((t+5*i) % 6:Nat):Int):=by lk
     rw[e6];have a:=qcQ (Str.ofString "zabqk") ((t+5*i) % 6)
     have Y:((Str.ofString "zabqk").cps.toList.take ((t+5*i) % 6)).all sg=true:=by
      have h0:(Str.ofString "zabqk").cps.toList.all sg=true:=by room
      show Yp.mpr λx hx=>Yp.mp h0 x (X6 hx)
     have y:((Str.ofString "zabqk").cps.toList.take ((t+5*i) % 6)).length<=5:=by rw[yN];lk
     have al:(Txt.slice (Str.ofString "zabqk") none (some (((t+5*i) % 6:Nat):Int))).length<=5:=by
      have:(Txt.slice (Str.ofString "zabqk") none (some (((t+5*i) % 6:Nat):Int))).length=(Txt.slice (Str.ofString "zabqk") none (some (((t+5*i) % 6:Nat):Int))).cps.toList.length:=by simp[Str.length]
      rw[this,a];show y
     show qhB (by show 1+_<=sizeLine;show yI (qg (by lk))) ?_;apply⟨l,_,_,rfl,rfl,b,g,?_⟩;show C _ ?_;unfold NmK;rw[yH hw];show⟨_,?_,Y,y⟩;rw[qeS,a];rfl
    .have S:way≠0:=λe=>h (yv e);apply .inl (.inl (.inl ⟨rfl,rfl,?_⟩));rw[qdc];apply qI (λh=>?_) (λh=>?_)
     .have hw:way=1:=yj h;apply⟨.inl ⟨rfl,_,.of b⟩,?_⟩;apply qii (by room) ?_;have a:=qcQ (Str.ofString "mmmmm") t
      have am:(Str.ofString "mmmmm").cps.toList.take t=List.replicate t 109:=by
       have h0:(Str.ofString "mmmmm").cps.toList=List.replicate 5 109:=by room
       rw[h0,List.take_replicate,k8 ht]
      rw[am] at a
      have al:(Txt.slice (Str.ofString "mmmmm") none (some (t:Int))).length<=5:=by
       have:(Txt.slice (Str.ofString "mmmmm") none (some (t:Int))).length=(Txt.slice (Str.ofString "mmmmm") none (some (t:Int))).cps.toList.length:=by simp[Str.length]
       rw[this,a,YV];show ht
      apply qhB (by show _+1<=sizeLine;show yI (qg (by lk))) ?_;apply⟨l,_,_,rfl,rfl,b,g,?_⟩;show C _ ?_;unfold NmK;rw[yB S,yH hw,qeS,a];rfl
     .have ad:way≠1:=λe=>h (yv e);ext;by_cases h6:i<6
      .rw [yv (show(i:Int)<6 by lk)];show jp ?_;apply⟨.inl ⟨rfl,_,.of b⟩,?_⟩;apply .inl (qih (by room) (qgT hf.1 hf.2) ?_);ext;obtain⟨mo,ml⟩:=rep_ok6 (c:=97+first.toNat) h6;show⟨mo,?_⟩;apply⟨l,_,_,rfl,rfl,b,g,?_⟩;show C _ ?_;unfold NmK;rw[yB S,yB ad,yH h6];show ml
      .rw [yk (show ¬ (i:Int)<6 by lk)];show yp ?_;apply⟨.inl ⟨rfl,_,.of b⟩,?_⟩;apply⟨l,_,_,rfl,rfl,b,g,?_⟩;show C _ ?_;unfold NmK;rw[yB S,yB ad,yB h6];rfl
   .obtain⟨ss,I,J,rfl,rfl,R,A⟩:=hp;apply hD _ _ (q l ss _ (b1.new7 hl) ⟨bv,aj,by rw[qk (Yv M)];show ab⟩ (b1.free7 M hl) M qb ⟨by lk,nodup_key λj k s r hk=>?_,λs hs=>?_⟩ R)
    .have ap:j<ss.length:=(yc.mp r).1;have aq:k<ss.length:=(yc.mp hk).1;show NmK.inj B hf (by lk) (by lk) (A j s r) (A k s hk)
    .obtain⟨j,r⟩:=X8 hs;show(A j s r).nm ht hf
  apply⟨p,3,rfl,hB,by decide,by decide,λway H1 hw b1 hB1=>?_⟩;apply⟨p,26,rfl,hB1,by decide,by decide,λfirst H2 hf b2 af=>?_⟩;apply⟨by show 12<=sizeLine;decide,λU N=>?_⟩;obtain⟨ae,Z,ac⟩:=id af;have aa:p≠U:=λz=>by rw[<- z,ac] at N;cases N
  have b3:=(b1.trans7 b2).new7 (o:=.lst (stepsL.map V.int)) N;have em:upd H2 U (.lst (stepsL.map V.int)) U=some (.lst (stepsL.map V.int)):=qb;have X:Bx (upd H2 U (.lst (stepsL.map V.int))) p:=⟨ae,Z,by rw[qk aa];show ac⟩;have eu:upd H2 U (.lst [V.int 1,V.int 3,V.int 5,V.int 7,V.int 9,V.int 11,V.int 15,V.int 17,V.int 19,V.int 21,V.int 23,V.int 25])=upd H2 U (.lst (stepsL.map V.int)):=rfl;rw[eu];generalize upd H2 U (.lst (stepsL.map V.int))=H3 at b3 em X;apply⟨p,12,rfl,X,by decide,by decide,λd H4 hd b4 ag=>?_⟩;obtain⟨st,B⟩:∃ st,stepsL[d]?=some st:=⟨_,yb hd⟩;show .inl (qbW (b4 _ _ (Yv aa) em) (v:=.int st) (atI_nat (by rw[yd,B];rfl)) ?_);apply⟨p,6,rfl,ag,by decide,by decide,λt H5 ht b5 ah=>?_⟩;ext;rw[G];show⟨λ_ _ z=>z,_,_,_,way,first,st,t,rfl,((b3.trans7 b4).trans7 b5),ah,by lk,by lk,ye B,by lk⟩
def tn(ss:LS)(i:Nat):Str:=ss.getD i ""
def nmP(ss:LS)(p:Nat×Nat):Str×Str:=(tn ss p.1,tn ss p.2)
def qhT(a b:Nat×Nat):Prop:=a.1<b.1\/(a.1=b.1/\a.2<b.2)
structure TIok(n:Nat)(TI:List (Nat×Nat)):Prop where
 few:TI.length<=30
 ok:∀ p∈TI,p.1<p.2/\p.2<n
 so:TI.Pairwise qhT
theorem qaD(h:i<ss.length):ss[i]?=some (tn ss i):=by unfold tn;rw[yY,yb h];rfl
theorem jP(h:i<ss.length):tn ss i∈ss:=ye (qaD h)
theorem qaL(hn:ss.Nodup)(h:i<ss.length):ss.idxOf (tn ss i)=i:=by
 have h1:ss[ss.idxOf (tn ss i)]?=some (tn ss i):=by rw[yb (Yj (jP h))];show congrArg some (Yy _)
 show ji hn h1 (qaD h)
theorem jZ(hn:ss.Nodup)(a:i<ss.length)(b:j<ss.length)(e:tn ss i=tn ss j):i=j:=by rw[<- qaL hn a,<- qaL hn b,e]
theorem qbQ{n:Addr}{Q:VK}(h:H n=some (.lst (ss.map V.str)))(a:i<ss.length)(q:Q (.str (tn ss i)) H):qhH K (.ref n) (.int (i:Int)) H Q:=
 .inl (qbW h (v:=.str (tn ss i)) (by
  unfold atI;rw[ya,qbb a];show(ss.map V.str)[i]?=_;rw[yd,qaD a];rfl) q)
theorem TIok.two{TI:List (Nat×Nat)}(h:TIok n TI):∀ q∈TI,q.1<n/\q.2<n:=λq a=>by have:=h.ok q a;lk
theorem lex_irr(a:Nat×Nat):¬ qhT a a:=λh=>by rcases h with h | ⟨_,h⟩<;>lk
theorem TIok.nd{TI:List (Nat×Nat)}(h:TIok n TI):TI.Nodup:=h.so.imp λ{a b} c e=>by subst e;show lex_irr _ c
theorem All2.app9{R:α->β->Prop}{e g:List α}{m1 h:List β}(a:All2 R e m1)(b:All2 R g h):All2 R (e++g) (m1++h):=by
 show⟨by rw[yx,yx,a.len,b.len],λk x y c d=>?_⟩;by_cases f:k<e.length
 .rw [yP f] at c;rw[yP (by rw[<- a.len];show f)] at d;show a.at_ k x y c d
 .rw [yX (by lk)] at c;rw[yX (by rw[<- a.len];lk),<- a.len] at d;show b.at_ _ x y c d
def swP(a:Str×Str):Str×Str:=(a.2,a.1)
def evP(p:Nat×Nat):Bool:=decide ((p.1+p.2) % 2=0)
def hdU(ss:LS)(TI:List (Nat×Nat)):LP:=(TI.filter λp=>!evP p).map (λp=>swP (nmP ss p))++((TI.filter evP).map (nmP ss)).reverse
def hdN(ss:LS)(p:Nat×Nat):Str×Str:=if evP p=true then nmP ss p else swP (nmP ss p)
theorem qdU(f:α->Bool):∀ l:List α,(l.filter (λx=>!f x)++l.filter f).Perm l
 | []=>.nil
 | a::l=>by
  have b:=qdU f l;rw[yZ,yZ]
  cases f a with
  | false=>show .cons a b
  | true=>show(List.perm_middle).trans (.cons a b)
theorem qcu(ss:LS)(TI:List (Nat×Nat)):(hdU ss TI).Perm (TI.map (hdN ss)):=by
 have b:(TI.filter λp=>!evP p).map (λp=>swP (nmP ss p))=(TI.filter λp=>!evP p).map (hdN ss):=by
  show xX λp a=>?_;have:=(yo.mp a).2;unfold hdN;rw[yB (by simpa using this)]
 have c:(TI.filter evP).map (nmP ss)=(TI.filter evP).map (hdN ss):=by
  show xX λp a=>?_;unfold hdN;rw[yH (yo.mp a).2]
 unfold hdU;rw[b,c];show(List.Perm.append_left _ (List.reverse_perm _)).trans ?_;rw[<- yt];show(qdU evP TI).map _
theorem qfO(ss:LS)(p:Nat×Nat):hdN ss p=nmP ss p\/hdN ss p=swP (nmP ss p):=by
 unfold hdN;split
 .show .inl rfl
 .show .inr rfl
theorem hd_tA{TI:List (Nat×Nat)}{a b:Str}:tA (hdU ss TI) a b↔tA (TI.map (nmP ss)) a b:=by
 have m:∀ x y,(x,y)∈hdU ss TI->tA (TI.map (nmP ss)) x y:=λx y h=>by
  obtain⟨p,c,e⟩:=yE.mp ((qcu ss TI).mem_iff.mp h);rcases qfO ss p with k | k
  .rw [k] at e;show .inl (yE.mpr ⟨p,c,e⟩)
  .rw [k] at e;show .inr (yE.mpr ⟨p,c,by cases e;rfl⟩)
 have d:∀ x y,(x,y)∈TI.map (nmP ss)->tA (hdU ss TI) x y:=λx y h=>by
  obtain⟨p,c,e⟩:=yE.mp h;have:=(qcu ss TI).mem_iff.mpr (yE.mpr ⟨p,c,rfl⟩);rcases qfO ss p with k | k
  .rw [k,e] at this;show .inl this
  .rw [k,e] at this;show .inr this
 show⟨λh=>h.elim (m a b) λz=>(m b a z).symm,λh=>h.elim (d a b) λz=>(d b a z).symm⟩
theorem hd_go{TI:List (Nat×Nat)}(hn:ss.Nodup)(h:TIok ss.length TI):TGo ss (hdU ss TI):=by
 show⟨by rw[(qcu ss TI).length_eq,ya];show h.few,λr c=>?_,?_⟩
 .obtain⟨p,q,e⟩:=yE.mp ((qcu ss TI).mem_iff.mp c);have k:=h.ok p q;have l:=jP (ss:=ss) (i:=p.1) (by lk);have m:=jP (ss:=ss) (i:=p.2) (by lk);have n:tn ss p.1≠tn ss p.2:=λz=>by have:=jZ hn (by lk) (by lk) z;lk
  rcases qfO ss p with z | z<;>rw[z] at e<;>subst e
  .show⟨l,m,n⟩
  .show⟨m,l,Yv n⟩
 .show((qcu ss TI).pairwise_iff UN.symm).mpr (Y7.mpr (h.nd.imp_of_mem λ{a b} o hb d=>?_));have s:=h.ok a o;have t:=h.ok b hb
  have key:nmP ss a≠nmP ss b/\nmP ss a≠swP (nmP ss b):=by
   show⟨λe=>d ?_,λe=>?_⟩
   .have f:=jZ hn (by lk) (by lk) (congrArg Prod.fst e);have g:=jZ hn (by lk) (by lk) (congrArg Prod.snd e);show XZ f g
   .have f:=jZ hn (i:=a.1) (j:=b.2) (by lk) (by lk) (congrArg Prod.fst e);have g:=jZ hn (i:=a.2) (j:=b.1) (by lk) (by lk) (congrArg Prod.snd e);lk
  rcases qfO ss a with z | z<;>rcases qfO ss b with y | y<;>rw[z,y]
  .show key
  .show⟨key.2,λe=>key.1 e⟩
  .show⟨λe=>key.2 (by rw[<- e];rfl),λe=>key.1 (congrArg swP e)⟩
  .show⟨λe=>key.1 (congrArg swP e),λe=>key.2 (congrArg swP e)⟩
def qgV(G H:Hp):Hp:=λc=>match G c with
 | none=>H c
 | some _=>none
theorem qcv{c:Addr}(h:G c=none)(e:H c=some o):qgV G H c=some o:=by unfold qgV;rw[h];show e
theorem qef{c:Addr}(h:qgV G H c=some o):G c=none/\H c=some o:=by
 unfold qgV at h
 cases e:G c with
 | none=>rw[e] at h;show⟨rfl,h⟩
 | some u=>rw[e] at h;cases h
theorem newP_le:L2.Same (qgV G H) H:=λc o e=>(qef e).2
theorem qgW{m y:Addr}{us:LI}{Q:VK}(hm:LTu G m (ss.map V.str))(g:NOk ss)(r:PLT G l us kps)(u:TGo ss kps)(q:G y=none)(H:G dx=none)(p:dx≠y)
  (h:∀ ns H2,L2.Same G H2->Wt cw (qgV G H2) y ss ns kps->Q .non H2):spWeb cw [.ref y,.ref m,.ref l] (upd (upd G dx (.own y)) y (.ins cw dx [])) Q E:=by
 have f:=qu (qu (Sr G) (o:=.own y) H) (o:=.ins cw dx []) (show upd G dx (.own y) y=none by rw[qk (Yv p)];show q);show⟨y,dx,m,l,ss,us,kps,rfl,qb,hm.same f,g.few,g.nd,g.nm,⟨r.1.same f,r.2.mono λ_ _ z=>f _ _ z⟩,u,λns H' b i hb=>?_⟩;obtain⟨I,d,ol,n,h1,A,B,C,D,v,w,x⟩:=i;show h ns H' (λc o e=>b c o (λz=>by rw[z,q] at e;cases e) (f _ _ e)) ⟨⟨I,d,ol,n,qcv q h1,qcv (f.free v) A,qcv (f.free w) B,qcv (f.free x) C,D⟩,λa b s t F j=>by rw[hb.2.2 a b s t F j,yJ],u.inn⟩
theorem Wt.to{y:Addr}(h:Wt cw H y ss ns kps)(ok:∀ ab∈tps,ab.1∈ss/\ab.2∈ss/\ab.1≠ab.2)(e:∀ a b,a∈ss->b∈ss->(tA kps a b↔tA tps a b)):Wt cw H y ss ns tps:=
 ⟨h.web,λa b s t c hb=>(h.adj a b s t c hb).trans (e s t (ye c) (ye hb)),ok⟩
theorem TIok.go{TI:List (Nat×Nat)}(hn:ss.Nodup)(h:TIok ss.length TI):∀ a∈TI.map (nmP ss),a.1∈ss/\a.2∈ss/\a.1≠a.2:=λa b=>by
 obtain⟨p,c,rfl⟩:=yE.mp b;have k:=h.ok p c;show⟨jP (by lk),jP k.2,λz=>by have:=jZ hn (by lk) (by lk) z;lk⟩
theorem Kp:FnScope wqg wq0 (qf qaM):=fS
abbrev iT(q:Nat×Nat):HO:=.tup [.int (q.1:Int),.int (q.2:Int)]
def IPL(H:Hp)(l:Addr)(ts:LI)(TI:List (Nat×Nat)):Prop:=H l=some (.lst (ts.map V.ref))/\All2 (λt q=>H t=some (iT q)) ts TI
theorem IPL.same{TI:List (Nat×Nat)}(h:IPL H l ts TI)(s:L2.Same H H'):IPL H' l ts TI:=⟨s _ _ h.1,h.2.mono λ_ _ z=>s _ _ z⟩
theorem vRng2{R:It->Hp->Prop}(h:ta σ H λvs H1=>∃ i j:Int,vs=[.int i,.int j]/\(-(2 ^ 62)<=i/\i<2 ^ 62/\-(2 ^ 62)<=j/\j<2 ^ 62)/\R (Itr i (j-i).toNat) H1):qht ta σ H R:=h
theorem qgp{i j:Int}{Q:VK}(q:Q (.bl (decide (i=j))) H):qgG K (.int i) (.int j) H Q:=.inl (.inl (.inl ⟨rfl,rfl,by rw[qdc];show q⟩))
theorem But.same7(s:L2.Same H H1)(a:H p=none)(b:But p H1 H2):L2.Same H H2:=λc o e=>b c o (λz=>by rw[z,a] at e;cases e) (s c o e)
theorem Same.set7(a:L2.Same H H1)(hl:H l=none):L2.Same H (upd H1 l o):=λc u e=>by
 have:c≠l:=λz=>by rw[z,hl] at e;cases e
 rw[qk this];show a c u e
theorem vNeI7{i j:Int}{Q:VK}(q:Q (.bl (!decide (i=j))) H):qhd K true (.int i) (.int j) H Q:=.inl ⟨rfl,rfl,by
 rw[yH rfl];have:=zJ i j;rw[yB (by decide)] at this;rw[this];show q⟩
inductive spDr(vs:List V)(H:Hp)(Q:VK)(E:XK):Prop|mk (c:Int) (_:vs=[.int c,.bl true]) (_:∀(cl:Nat->Bool) (t n l:Addr) (ss:LS) (ts:LI) (TI:List (Nat×Nat)) (H':Hp),L2.Same H H'->H' t=some (.tup [.ref n,.ref l])->H n=none->H' n=some (.lst (ss.map V.str))->NOk ss->H l=none->IPL H' l ts TI->TIok ss.length TI->(∀ q∈TI,cl q.2=!cl q.1)->Q (.ref t) H')
theorem ok_dr(F:Fun K "_law_drawn" "_law_drawn" qaM f fd)(T:Txt K mg cc cw)(U3:wqqe 1 "_law_box" ["_law_cell"] spBx)(Kt:wqqe 1 "_law_take" wqo spTk)(US:wqqe 2 "_law_names" wqo spNm7):wqqg 3 f fd wq0 spDr:=by
 show F.ok Kp λ_ _ _ _ H vs Q E hr h=>?_
 .obtain⟨c,rfl,q⟩:=h;have hu:=jJ hr;obtain⟨TC3,Y⟩:∃ t:TS,t=λD σ H'=>(∀ u H',Q u H'->D.rt u H')/\∃(p:Addr) (m:Nat) (x4 x5 x6 x7 x8 x9 ax:Option V),σ=[some (.int c),some (.bl true),some (.ref p),some (.int (m:Int)),x4,x5,x6,x7,x8,x9,ax]/\L2.Same H H'/\H p=none/\Bx H' p/\m<=14:=⟨_,rfl⟩;show⟨_,(qd (qq (i:=2) Kp.nd rfl (Xl rfl) (qi U3 (hmR hr) qr (qa (pv 0) qc)))
 (qd (qq (i:=3) Kp.nd rfl (yF rfl) (qi Kt (hmR hr) qr (qa (pv 2) (qa qh qc))))
 (qd (qJ (qp (zA (K:=K) rfl hu) (qi Kt (hmR hr) qr (qa (pv 2) (qa qh qc))) qh (qv _)) (qe (qq (i:=3) Kp.nd rfl (yF rfl) (qi Kt (hmR hr) qr (qa (pv 2) (qa qh qc))))) qt)
 (qfM TC3 (qd (qq (i:=4) Kp.nd rfl (yF rfl) (qi US (hmR hr) qr (qa (pv 2) (qa (pv 3) qc))))
 (qd (qq (i:=5) Kp.nd rfl (yF rfl) (qz (zg (K:=K) rfl) qh (qi Kt (hmR hr) qr (qa (pv 2) (qa qh qc)))))
 (qd (qbE (sc:=qf qaM) (XN:=wqg) ["_law_k","_law_box_here"] 1 [2] rfl rfl rfl (by room) rfl (by room) (i:=6) Kp.nd rfl rfl
  (qaa rfl T.b_range (qa (pv 3) qc)) (λ_ _ _ _=>(qo (i:=0) (show(["_law_k","_law_box_here"]:LS).Nodup by room) rfl (yF rfl))) qE
  (λ_ _ _ _=>jh)
  (λ_ _ _ _=>(qi Kt (hmR hr) qr (qa (pv 1) (qa qh qc)))))
 (qd (qq (i:=7) Kp.nd rfl (yF rfl) (qA qc))
 (qd (jy yW rfl (qaa rfl T.b_range (qa (pv 3) qc)) (qo (i:=8) Kp.nd rfl (yF rfl))
 (qe (jy yW rfl (pi_range2 rfl T.b_range (qa (qz (zg (K:=K) rfl) (pv 8) qh) (qa (pv 3) qc))) (qo (i:=9) Kp.nd rfl (yF rfl))
 (qd (qq (i:=10) Kp.nd rfl (yF rfl) (zv (jk qaB (qi Kt (hmR hr) qr (qa (pv 2) (qa qh qc))) (pv 5) (qv _)) (j4 (qg6 (qcF (pv 1)) (j4 (jk (qaK (K:=K) rfl hu) (qB (qC (K:=K) rfl hu) (pv 6) (pv 8) (λ_ _=>rfl)) (qB (qC (K:=K) rfl hu) (pv 6) (pv 9) (λ_ _=>rfl)) (qv _)))))))
 (qe (qJ (PW.pt (pw_and (qN (pv 10)) (pw_and1 (qp qaB (qj (zx (K:=K) rfl) rfl T.b_len YM (qa (pv 7) qc)) qh (qv _))))) (qe (qK (qcN (K:=K) rfl yO yT yU qR (pv 7) (qa (q8 (qa (pv 8) (qa (pv 9) qc))) qc)))) qt))))))
 (qe (qm (q8 (qa (pv 4) (qa (pv 7) qc)))))))))) ?cut3)))),?_⟩
  case cut3 =>
   intro D σ H1 h;rw[Y] at h;obtain⟨hD,p,m,x4,x5,x6,x7,x8,x9,ax,rfl,s1,B,hB1,hm⟩:=h;apply⟨p,m,rfl,hB1,hm,λn ss H2 b2 ae bb ai bc hO bf=>?_⟩;have s2:=But.same7 s1 B b2;apply⟨p,3,rfl,ae,by decide,by decide,λd H3 hd b3 ab=>?_⟩;have s3:=But.same7 s2 B b3;have bd:=b3 _ _ ai bc;apply⟨(m:Int),rfl,by lk,by lk,?_⟩;rw[Ym];show qcL (lo:=0) (λi ys J=>L2.Same H J/\Bx J p/\J n=some (.lst (ss.map V.str))/\∃ g:LN,ys=ivs g/\g.length=i/\∀ v∈g,v<2) ⟨s3,ab,bd,[],rfl,rfl,λv hv=>by cases hv⟩ (λi ys J hi Z=>?_) λys J Z=>?_
   .obtain⟨W,r,x,g,rfl,av,al⟩:=Z;apply jp ?_;apply⟨p,2,rfl,r,by decide,by decide,λd2 J2 ap b4 I=>?_⟩
    show⟨by rw[ya];show qg (by lk),But.same7 W B b4,I,b4 _ _ ai x,g++[d2],by show _=List.map iv _;rw[yt];rfl,by rw[yx,av];rfl,λv hv=>by
     rcases yK.mp hv with z | z
     .show al v z
     .rw [yr.mp z];show ap⟩
   .obtain⟨W,r,x,g,rfl,av,al⟩:=Z;show⟨by rw[ya];show yI (qg (by lk)),λsd aa=>?_⟩;have s4:=qu W (o:=.lst (ivs g)) aa;have aw:=qu (Sr J) (o:=.lst (ivs g)) aa;have ah:=aw _ _ x;have I:Bx (upd J sd (.lst (ivs g))) p:=r.elim λv h=>⟨v,h.1,aw _ _ h.2⟩;have ag:upd J sd (.lst (ivs g)) sd=some (.lst (ivs g)):=qb;have bg:sd≠p:=λz=>by obtain⟨v,_,e⟩:=r;rw[z,e] at aa;cases aa
    have an:∀ i,i<m->g[i]?=some (g.getD i 0)/\g.getD i 0<2:=λi hi=>by
     have e:g[i]?=some g[i]:=yb (by lk);rw[yY,e];show⟨rfl,al _ (Xb _)⟩
    have ao:∀ i,i<m->atI (ivs g) (i:Int)=some (iv (g.getD i 0)):=λi hi=>by
     unfold atI;rw[ya,qbb (show i<g.length by lk)];show(ivs g)[i]?=_;rw[yd,(an i hi).1];rfl
    have bj:H sd=none:=W.free aa;generalize upd J sd (.lst (ivs g))=H4 at s4 ah I ag;apply⟨wqqi,λl G=>?_⟩;have s5:=qu s4 (o:=.lst []) G;have am:=qu (Sr H4) (o:=.lst []) G;have ar:H l=none:=s4.free G;have as:l≠p:=λz=>by obtain⟨v,_,e⟩:=I;rw[z,e] at G;cases G
    have az:l≠n:=λz=>by rw[z,ah] at G;cases G
    have ba:l≠sd:=λz=>by rw[z,ag] at G;cases G
    apply⟨(m:Int),rfl,by lk,by lk,?_⟩;rw[Ym];show qaG (lo:=0) (n:=m) (λi σ J=>L2.Same H J/\Bx J p/\J n=some (.lst (ss.map V.str))/\J sd=some (.lst (ivs g))/\∃(ts:LI) (TI:List (Nat×Nat)) (y8 y9 M:Option V),σ=[some (.int c),some (.bl true),some (.ref p),some (.int (m:Int)),some (.ref n),some (.int (1+(d:Int))),some (.ref sd),some (.ref l),y8,y9,M]/\IPL J l ts TI/\TI.length<=30/\(∀ q∈TI,q.1<q.2/\q.2<m)/\TI.Pairwise qhT/\(∀ q∈TI,g.getD q.1 0≠g.getD q.2 0)/\∀ q∈TI,q.1<i)
     ⟨s5,I.elim λv h=>⟨v,h.1,am _ _ h.2⟩,am _ _ ah,am _ _ ag,[],[],_,_,_,rfl,⟨qb,.nil⟩,by decide,λq y=>(by cases y),.nil,(λq y=>by cases y),λq y=>by cases y⟩ (λi σ J hi Z=>?_) fun σ J Z=>?_
    .obtain⟨W,r,x,S,ts,TI,y8,y9,M,rfl,X,j,s,C,A,L⟩:=Z;rw[kZ];apply vRng2 ?_;apply⟨_,_,rfl,⟨by lk,by lk,by lk,by lk⟩,?_⟩;rw[show((m:Int)-((i:Int)+1)).toNat=m-(i+1) by lk];show qaG (lo:=(i:Int)+1) (n:=m-(i+1)) (λk σ J=>L2.Same H J/\Bx J p/\J n=some (.lst (ss.map V.str))/\J sd=some (.lst (ivs g))/\∃(ts:LI) (TI:List (Nat×Nat)) (y9 M:Option V),σ=[some (.int c),some (.bl true),some (.ref p),some (.int (m:Int)),some (.ref n),some (.int (1+(d:Int))),some (.ref sd),some (.ref l),some (.int (i:Int)),y9,M]/\IPL J l ts TI/\TI.length<=30/\(∀ q∈TI,q.1<q.2/\q.2<m)/\TI.Pairwise qhT/\(∀ q∈TI,g.getD q.1 0≠g.getD q.2 0)/\∀ q∈TI,q.1<i\/(q.1=i/\q.2<i+1+k))
      ⟨W,r,x,S,ts,TI,_,_,rfl,X,j,s,C,A,λq y=>.inl (L q y)⟩ (λk σ J hk Z=>?_) fun σ J Z=>?_
     .obtain⟨W,r,x,S,ts,TI,y9,M,rfl,X,j,s,C,A,L⟩:=Z;apply⟨p,4,rfl,r,by decide,by decide,λd2 J2 ap b6 ac=>?_⟩;have s6:=But.same7 W B b6;have ad:=b6 _ _ ai x;have O:IPL J2 l ts TI:=⟨b6 _ _ as X.1,X.2.mono λt q z=>b6 _ _ (λe=>by obtain⟨v,_,e2⟩:=r;rw[e,e2] at z;cases z) z⟩;have R:=b6 _ _ bg S;have N:∀ q∈TI,q.1<i\/(q.1=i/\q.2<i+1+(k+1)):=λq y=>by have:=L q y;lk
      ext;by_cases aq:(d2:Int)<1+(d:Int)
      .rw [yv aq];show jp ?_;apply yp ?_;apply .inl (qbW R (ao i (by lk)) ?_);apply .inl (qbW R (v:=iv (g.getD (i+1+k) 0)) (by rw[show(i:Int)+1+(k:Int)=((i+1+k:Nat):Int) by lk];show ao _ (by lk)) ?_);apply vNeI7 ?_;by_cases ay:g.getD i 0=g.getD (i+1+k) 0
       .rw [yv (show(g.getD i 0:Int)=(g.getD (i+1+k) 0:Nat) by lk)];apply yp ?_;show yp ?_;apply⟨s6,ac,ad,R,ts,TI,_,_,rfl,O,j,s,C,A,N⟩
       rw[yk (show ¬ (g.getD i 0:Int)=(g.getD (i+1+k) 0:Nat) by lk)];apply jp ?_;apply qaJ O.1 ?_;ext;by_cases bh:TI.length<30
       .rw [yv (show(((ts.map V.ref).length:Nat):Int)<30 by rw[ya,X.2.len];lk)];show jp ?_;apply⟨.inl ⟨rfl,_,.of O.1⟩,?_⟩;apply⟨wqqk,λt aj=>?_⟩;have U:=qu (Sr J2) (o:=.tup [.int (i:Int),.int ((i:Int)+1+(k:Int))]) aj
        have ak:upd J2 t (.tup [.int (i:Int),.int ((i:Int)+1+(k:Int))]) t=some (iT (i,i+1+k)):=by
         rw[qb];show _=some (HO.tup [_,V.int ((i+1+k:Nat):Int)]);rw[show((i+1+k:Nat):Int)=(i:Int)+1+(k:Int) by lk]
        have s7:=s6.trans U;generalize upd J2 t (.tup [.int (i:Int),.int ((i:Int)+1+(k:Int))])=J7 at U ak s7;have af:=O.same U;apply⟨l,_,_,rfl,rfl,af.1,by rw[ya,X.2.len];show qg (by lk),?_⟩;have au:∀{c:Addr} {o:HO},J7 c=some o->(∀ xs,o≠.lst xs)->c≠l:=λe be z=>by rw[z,af.1] at e;cases e;show be _ rfl
        show⟨Same.set7 s7 ar,ac.elim λv h=>⟨v,h.1,by rw[qk (Yv as)];show U _ _ h.2⟩,by rw[qk (Yv az)];show U _ _ ad,by rw[qk (Yv ba)];show U _ _ R,ts++[t],TI++[(i,i+1+k)],_,_,rfl,⟨by rw[qb,yt];rfl,?_⟩,by rw[yx];show TI.length+1<=30;lk,λq y=>?_,?_,λq y=>?_,λq y=>?_⟩
        .show All2.snoc (af.2.mono λt' q z=>?_) ?_
         .rw [qk (au z λxs e=>by cases e)];show z
         .rw [qk (au ak λxs e=>by cases e)];show ak
        .rcases yK.mp y with z | z
         .show s q z
         .rw [yr.mp z];show i<i+1+k/\i+1+k<m;lk
        .show X7.mpr ⟨C,List.pairwise_singleton _ _,λa ha b hb=>?_⟩;rw[yr.mp hb];rcases L a ha with z | z
         .show .inl z
         .show .inr z
        .rcases yK.mp y with z | z
         .show A q z
         .rw [yr.mp z];show ay
        .rcases yK.mp y with z | z
         .show N q z
         .rw [yr.mp z];show .inr ⟨rfl,by show i+1+k<_;lk⟩
       .rw [yk (show ¬ (((ts.map V.ref).length:Nat):Int)<30 by rw[ya,X.2.len];lk)];show yp ?_;apply⟨s6,ac,ad,R,ts,TI,_,_,rfl,O,j,s,C,A,N⟩
      .rw [yk aq];show yp ?_;apply yp ?_;show yp ?_;apply⟨s6,ac,ad,R,ts,TI,_,_,rfl,O,j,s,C,A,N⟩
     .obtain⟨W,r,x,S,ts,TI,y9,M,rfl,X,j,s,C,A,L⟩:=Z;show⟨W,r,x,S,ts,TI,_,_,_,rfl,X,j,s,C,A,λq y=>by have:=L q y;lk⟩
    .obtain⟨W,r,x,S,ts,TI,y8,y9,M,rfl,X,j,s,C,A,L⟩:=Z;apply⟨wqqk,λt aj=>hD _ _ ?_⟩;have s8:=qu (Sr J) (o:=.tup [.ref n,.ref l]) aj
     show q (λi=>decide (g.getD i 0=0)) t n l ss ts TI _ (W.trans s8) qb (s1.free bb) (s8 _ _ x) hO ar (X.same s8) ⟨j,λq y=>by rw[bf];show s q y,C⟩ λq y=>by
      have h1:=(an q.1 (by have:=s q y;lk)).2;have h2:=(an q.2 (s q y).2).2;have h3:=A q y;show decide (g.getD q.2 0=0)=!decide (g.getD q.1 0=0);rcases(by lk:g.getD q.1 0=0\/g.getD q.1 0=1) with k1 | k1<;>rcases(by lk:g.getD q.2 0=0\/g.getD q.2 0=1) with k2 | k2<;>rw[k1,k2] at h3 ⊢<;>first | rfl | show absurd rfl h3
  apply⟨c,rfl,λp H1 s1 B hB1=>?_⟩;apply⟨p,8,rfl,hB1,by decide,by decide,λm H2 hm b2 ae=>?_⟩;have s2:=But.same7 s1 B b2;apply⟨p,8,rfl,ae,by decide,by decide,λm2 H3 bm b3 ab=>?_⟩;have s3:=But.same7 s2 B b3;apply qgp ?_;apply qI (λh=>?_) (λh=>?_)
  .ext;show⟨p,15,rfl,ab,by decide,by decide,λm4 H4 bn b4 I=>?_⟩;ext;rw[Y];show⟨λ_ _ z=>z,p,m4,_,_,_,_,_,_,_,rfl,But.same7 s3 B b4,B,I,by lk⟩
  .ext;rw[Y];show⟨λ_ _ z=>z,p,m,_,_,_,_,_,_,_,rfl,s3,B,ab,by lk⟩
theorem uY:FnScope wqC wqS (qf qbJ):=fS
inductive spWb(cw:Addr)(vs:List V)(H:Hp)(Q:VK)(E:XK):Prop|mk (n l:Addr) (ss:LS) (ts:LI) (TI:List (Nat×Nat)) (_:vs=[.ref n,.ref l]) (_:H n=some (.lst (ss.map V.str))) (_:IPL H l ts TI) (_:NOk ss) (_:TIok ss.length TI) (_:∀(b:Addr) (ns:LN) (H':Hp),L2.Same H H'->Wt cw (qgV H H') b ss ns (TI.map (nmP ss))->Q (.ref b) H')
theorem ok_wb(F:Fun K "_law_web" "_law_web" qbJ f fd)(T:Txt K mg cc cw)(U2:wqqh 5 cw "Web" wqI (spWeb cw)):wqqg 7 f fd wqS (spWb cw):=by
 show F.ok uY λ_ _ _ _ H vs Q E hr h=>?_
 .obtain⟨n,l,ss,ts,TI,rfl,hn,I,hO,hT,q⟩:=h;have hu:=jJ hr;have few:=hT.few;have two:=hT.two;show⟨_,(qd (qbE (sc:=qf qbJ) (XN:=wqC) wqm 2 [0] rfl rfl rfl (by room) rfl (by room) (i:=2) uY.nd rfl rfl
  (qeH (K:=K) rfl (pv 1)) (λ_ _ _ _=>(qa1 (n:=2) rfl (qW (qo (i:=0) (show(wqm:LS).Nodup by room) rfl (yF rfl)) (qW (qo (i:=1) (show(wqm:LS).Nodup by room) rfl (yF rfl)) zV)))) qeK
  (λ_ _ _ _=>(qP (qp (zA (K:=K) rfl hu) (qz zh (qz (zg (K:=K) rfl) (pv 0) (pv 1)) qh) qh (qv _))))
  (λ_ _ _ _=>(q8 (qa (qB (qC (K:=K) rfl hu) (pv 2) (pv 0) (λ_ _=>rfl)) (qa (qB (qC (K:=K) rfl hu) (pv 2) (pv 1) (λ_ _=>rfl)) qc)))))
 (qd (qq (i:=2) uY.nd rfl (yF rfl) (qz (zg (K:=K) rfl) (qG (sc:=qf qbJ) (XN:=wqC) wqm 2 [0] rfl rfl rfl (by room) rfl (by room)
  (qeH (K:=K) rfl (pv 1)) (λ_ _ _ _=>(qa1 (n:=2) rfl (qW (qo (i:=0) (show(wqm:LS).Nodup by room) rfl (yF rfl)) (qW (qo (i:=1) (show(wqm:LS).Nodup by room) rfl (yF rfl)) zV)))) qeK
  (λ_ _ _ _=>(qP (qp (zA (K:=K) rfl hu) (qz zh (qz (zg (K:=K) rfl) (pv 0) (pv 1)) qh) qh (qv _))))
  (λ_ _ _ _=>(q8 (qa (qB (qC (K:=K) rfl hu) (pv 2) (pv 1) (λ_ _=>rfl)) (qa (qB (qC (K:=K) rfl hu) (pv 2) (pv 0) (λ_ _=>rfl)) qc))))) (qgH (K:=K) rfl (pv 2) (qa5 (qdu qbM qh)))))
 (qd (qJ (qp (zA (K:=K) rfl hu) (qz zh (qj (zx (K:=K) rfl) rfl T.b_len YM (qa (pv 1) qc)) qh) qh (qv _)) (qe (qm (qbY U2 (hmR hr) (qa (jz (qc1 (K:=K) rfl) rfl T.b_tuple XV (qa (pv 0) qc)) (qa (pv 2) qc))))) qt)
 (qe (qm (qbY U2 (hmR hr) (qa (jz (qco (K:=K) rfl rfl) rfl T.b_list xr (qa (pv 0) qc)) (qa (jz (qc1 (K:=K) rfl) rfl T.b_tuple XV (qa (pv 2) qc)) qc)))))))),?_⟩
  apply qgn ?_;apply⟨l,_,rfl,.of I.1,qx (xs:=ts.map V.ref) (λi ys J=>L2.Same H J/\∃ us:LI,ys=us.map V.ref/\All2 (λt g=>J t=some (.tup [.str g.1,.str g.2])) us (((TI.take i).filter evP).map (nmP ss))) ⟨L2.Same.refl H,[],rfl,.nil⟩ (λi ys J _ d=>.of (d.1 _ _ I.1)) (λi x ys J hx d=>?_) λys J d=>?_⟩
  .obtain⟨s2,us,rfl,W⟩:=d;rw[yd] at hx;obtain⟨u,A,rfl⟩:=ym.mp hx;have hi:i<TI.length:=by rw[<- I.2.len];show(yc.mp A).1
   obtain⟨p,hp⟩:∃ p,TI[i]?=some p:=⟨_,yb hi⟩;have ac:=s2 _ _ (I.2.at_ i u p A hp);have r:=two p (ye hp);show⟨u,_,rfl,.of ac,rfl,_,_,rfl,_,_,rfl,rfl,?_⟩;apply vI (by decide) ?_;show qgp ?_;ext;have ee:decide (((p.1:Int)+(p.2:Int)) % 2=0)=evP p:=Yc.mpr (by lk);rw[ee,yL,hp,Yd,yt]
   have ai:us.length<=30:=by
    rw[W.len,ya];have:=yG evP (TI.take i);rw[yN] at this;lk
   show qI (λh=>?_) (λh=>?_)
   .ext;show qbQ (s2 _ _ hn) r.1 ?_;apply qbQ (s2 _ _ hn) r.2 ?_;apply⟨wqqk,λm hm=>?_⟩;show⟨by rw[ya];show qg (by lk),qu s2 hm,us++[m],by rw[yt];rfl,?_⟩;have e:([p].filter evP).map (nmP ss)=[nmP ss p]:=by rw[yZ,yH h];rfl
    show All2 _ _ (_++([p].filter evP).map (nmP ss));rw[e];show(W.mono λt' q z=>qu (Sr J) hm _ _ z).snoc qb
   .show⟨s2,us,rfl,?_⟩;have e:([p].filter evP).map (nmP ss)=[]:=by rw[yZ,yB h];rfl
    show All2 _ _ (_++([p].filter evP).map (nmP ss));rw[e,y6];show W
  .obtain⟨s2,us,rfl,W⟩:=d;have e:(ts.map V.ref).length=TI.length:=by rw[ya,I.2.len]
   rw[e,yD] at W;have ba:us.length<=30:=by rw[W.len,ya];show yh (yG _ _) few
   show⟨by rw[ya];show yI (qg (by lk)),λr1 al=>?_⟩;have s3:=qu s2 (o:=.lst (us.map V.ref)) al;have ap:=qu (Sr J) (o:=.lst (us.map V.ref)) al;have M:upd J r1 (.lst (us.map V.ref)) r1=some (.lst (us.map V.ref)):=qb;have ag:=W.mono λt g z=>ap _ _ z;generalize upd J r1 (.lst (us.map V.ref))=H3 at s3 ap M ag;apply qgn ?_;ext;have Y:=I.same s3;show⟨l,_,rfl,.of Y.1,qx (xs:=ts.map V.ref) (λi ys J=>L2.Same H3 J/\∃ us:LI,ys=us.map V.ref/\All2 (λt g=>J t=some (.tup [.str g.1,.str g.2])) us (((TI.take i).filter λp=>!evP p).map λp=>swP (nmP ss p))) ⟨L2.Same.refl H3,[],rfl,.nil⟩ (λi ys J _ d=>.of (d.1 _ _ Y.1)) (λi x ys J hx d=>?_) λys J d=>?_⟩
   .obtain⟨s4,vs,rfl,X⟩:=d;rw[yd] at hx;obtain⟨u,A,rfl⟩:=ym.mp hx;have hi:i<TI.length:=by rw[<- I.2.len];show(yc.mp A).1
    obtain⟨p,hp⟩:∃ p,TI[i]?=some p:=⟨_,yb hi⟩;have ac:=s4 _ _ (Y.2.at_ i u p A hp);have r:=two p (ye hp);have aj:=s4 _ _ (s3 _ _ hn);show⟨u,_,rfl,.of ac,rfl,_,_,rfl,_,_,rfl,rfl,?_⟩;apply vI (by decide) ?_;show qgp ?_;ext
    have ee:decide (((p.1:Int)+(p.2:Int)) % 2=1)=!evP p:=by
     unfold evP;rw[<- decide_not];show Yc.mpr (by lk)
    rw[ee,yL,hp,Yd,yt]
    have ai:vs.length<=30:=by
     rw[X.len,ya];have:=yG (λp=>!evP p) (TI.take i);rw[yN] at this;lk
    show qI (λh=>?_) (λh=>?_)
    .ext;show qbQ aj r.2 ?_;apply qbQ aj r.1 ?_;apply⟨wqqk,λm hm=>?_⟩;show⟨by rw[ya];show qg (by lk),qu s4 hm,vs++[m],by rw[yt];rfl,?_⟩;have e:([p].filter λp=>!evP p).map (λp=>swP (nmP ss p))=[swP (nmP ss p)]:=by rw[yZ,yH h];rfl
     show All2 _ _ (_++([p].filter λp=>!evP p).map (λp=>swP (nmP ss p)));rw[e];show(X.mono λt' q z=>qu (Sr J) hm _ _ z).snoc qb
    .show⟨s4,vs,rfl,?_⟩;have e:([p].filter λp=>!evP p).map (λp=>swP (nmP ss p))=[]:=by rw[yZ,yB h];rfl
     show All2 _ _ (_++([p].filter λp=>!evP p).map (λp=>swP (nmP ss p)));rw[e,y6];show X
   .obtain⟨s4,vs,rfl,X⟩:=d;have e:(ts.map V.ref).length=TI.length:=by rw[ya,I.2.len]
    rw[e,yD] at X;have bb:vs.length<=30:=by rw[X.len,ya];show yh (yG _ _) few
    show⟨by rw[ya];show yI (qg (by lk)),λr2 av=>?_⟩;have aq:=qu (Sr J) (o:=.lst (vs.map V.ref)) av;have s5:=s4.trans aq;have N:upd J r2 (.lst (vs.map V.ref)) r2=some (.lst (vs.map V.ref)):=qb;have ah:=X.mono λt g z=>aq _ _ z;generalize upd J r2 (.lst (vs.map V.ref))=H5 at s5 N ah;show qin ?_;apply vU ?_;apply⟨rfl,r1,_,rfl,.of (s5 _ _ M),λr3 aw=>?_⟩;rw[<- kU];have B:=qu (Sr H5) (o:=.lst (us.reverse.map V.ref)) aw;have O:upd H5 r3 (.lst (us.reverse.map V.ref)) r3=some (.lst (us.reverse.map V.ref)):=qb;generalize upd H5 r3 (.lst (us.reverse.map V.ref))=H6 at B O;show .inl ⟨r2,r3,_,_,rfl,rfl,B _ _ N,O,by rw[ya,ya,xz];show yI (qg (by lk)),λr4 ax=>?_⟩;rw[<- yt];have L:=qu (Sr H6) (o:=.lst ((vs++us.reverse).map V.ref)) ax;have s:upd H6 r4 (.lst ((vs++us.reverse).map V.ref)) r4=some (.lst ((vs++us.reverse).map V.ref)):=qb;have s7:=((s3.trans s5).trans B).trans L;have ao:=(s5.trans B).trans L
    have hU:All2 (λt g=>upd H6 r4 (.lst ((vs++us.reverse).map V.ref)) t=some (.tup [.str g.1,.str g.2])) (vs++us.reverse) (hdU ss TI):=by
     show All2.app9 (ah.mono λt g z=>L _ _ (B _ _ z)) ?_
     have am:∀{α β:Type} {R:α->β->Prop} {x:List α} {y:List β},All2 R x y->All2 R x.reverse y.reverse:=λ{α β R x y} h=>by
      show⟨by rw[xz,xz,h.len],λk a b ha hb=>?_⟩;have hk:=(yc.mp ha).1;rw[xz] at hk;rw[List.getElem?_reverse hk] at ha;rw[List.getElem?_reverse (by rw[<- h.len];show hk),<- h.len] at hb;show h.at_ _ a b ha hb
     show am (ag.mono λt g z=>ao _ _ z)
    generalize upd H6 r4 (.lst ((vs++us.reverse).map V.ref))=U at L s s7 ao hU;have ak:=s7 _ _ hn;have au:=I.same s7;have ar:=hd_go hO.nd hT
    have af:∀(S:Addr) (ns:LN) (D G:Hp),L2.Same U D->L2.Same D G->Wt cw (qgV D G) S ss ns (hdU ss TI)->Q (.ref S) G:=λS ns D G C s9 hW =>
     q S ns G ((s7.trans C).trans s9) ((hW.same λc o e=>qcv ((s7.trans C).free (qef e).1) (qef e).2).to (hT.go hO.nd) λ_ _ _ _=>hd_tA)
    apply qaJ au.1 ?_;apply vI (by decide) ?_;show qgp ?_;apply qI (λh=>?_) (λh=>?_)
    .ext;show⟨n,_,rfl,.inl ⟨.of ak,λt1 aa=>?_⟩⟩;have C:=qu (Sr U) (o:=.tup (ss.map V.str)) aa;have v:upd U t1 (.tup (ss.map V.str)) t1=some (.tup (ss.map V.str)):=qb;generalize upd U t1 (.tup (ss.map V.str))=D at C v;apply λS as ad j Z=>?_;show qgW (.inr v) hO ⟨.inl (C _ _ s),hU.mono λt g z=>C _ _ z⟩ ar ad j Z λns G s9 hW=>⟨rfl,af S ns D G C s9 hW⟩
    .ext;show .inl ⟨n,_,rfl,.inl (.of ak),λt1 aa=>?_⟩;have C:=qu (Sr U) (o:=.lst (ss.map V.str)) aa;have v:upd U t1 (.lst (ss.map V.str)) t1=some (.lst (ss.map V.str)):=qb;generalize upd U t1 (.lst (ss.map V.str))=D at C v;apply⟨r4,_,rfl,.inl ⟨.of (C _ _ s),λt2 ay=>?_⟩⟩;have ae:=qu (Sr D) (o:=.tup ((vs++us.reverse).map V.ref)) ay;have an:upd D t2 (.tup ((vs++us.reverse).map V.ref)) t2=some (.tup ((vs++us.reverse).map V.ref)):=qb;have s9:=C.trans ae;generalize upd D t2 (.tup ((vs++us.reverse).map V.ref))=G at ae an s9;apply λS as ad j Z=>?_;show qgW (.inl (ae _ _ v)) hO ⟨.inr an,hU.mono λt g z=>s9 _ _ z⟩ ar ad j Z λns H10 az hW=>⟨rfl,af S ns G H10 s9 az hW⟩
theorem and_or_dis:∀(a b:Nat),a &&& b=0->a+b=a ||| b:=by
 intro a
 induction a using Nat.strongRecOn with
 | ind a ih =>
  intro b h;by_cases d:a=0
  .subst d;simp
  .have c:(a / 2) &&& (b / 2)=0:=by rw[<- Nat.and_div_two,h]
   have e:=ih (a / 2) (by lk) (b / 2) c
   have h1:(a % 2) &&& (b % 2)=0:=by
    have:=congrArg (· % 2) h;simpa [Nat.and_mod_two_pow (n:=1)] using this
   have i:(a ||| b) / 2=a / 2 ||| b / 2:=Nat.or_div_two
   have g:(a ||| b) % 2=(a % 2) ||| (b % 2):=by
    simpa using Nat.or_mod_two_pow (a:=a) (b:=b) (n:=1)
   have hm:(a % 2) ||| (b % 2)=a % 2+b % 2:=by
    rcases xG a with x | x<;>rcases xG b with y | y<;>rw[x,y] at h1 ⊢<;>first | rfl | show absurd h1 (by decide)
   have f:=k9 (a ||| b) 2;rw[i,g,hm,<- e] at f;lk
def bsT(is:LN):Nat:=(is.map λk=>2 ^ k).sum
theorem qeg:∀{is:LN},is.Nodup->∀ k,(bsT is).testBit k=decide (k∈is)
 | [],_,k=>by unfold bsT;simp
 | i::r,nd,k=>by
  obtain⟨b,c⟩:=yn.mp nd;have a:=qeg c;have e:bsT (i::r)=2 ^ i+bsT r:=by unfold bsT;rw[Ys,List.sum_cons]
  have h0:2 ^ i &&& bsT r=0:=by
   apply YQ;intro j;rw[Nat.testBit_and,Y9,YE,a];by_cases h:i=j
   .subst h;rw[yk b,kr]
   .rw [yk h,Xn]
  rw[e,and_or_dis _ _ h0,Xe,Y9,a,Ye,xu,yJ,yJ,yJ,yy];show⟨λz=>z.imp Kg id,λz=>z.imp Kg id⟩
theorem bsT_lt{is:LN}(nd:is.Nodup)(h:∀ k∈is,k<n):bsT is<2 ^ n:=by
 show Xs _ λi a=>?_;rw[qeg nd];show yk λz=>by have:=h i z;lk
theorem qdd(r:α->α->Prop)(f:∀ a,¬ r a a)(g:∀ a b,r a b->¬ r b a):∀(l m:List α),l.Pairwise r->m.Pairwise r->(∀ x,x∈l↔x∈m)->l=m
 | [],[],_,_,_=>rfl
 | [],b::m,_,_,h=>by have:=(h b).mpr (yC ..);cases this
 | a::l,[],_,_,h=>by have:=(h a).mp (yC ..);cases this
 | a::l,b::m,hl,hm,h=>by
  have c:=Xj.mp hl;have d:=Xj.mp hm
  have j:a=b:=by
   rcases yy.mp ((h a).mp (yC ..)) with e | e
   .show e
   .rcases yy.mp ((h b).mpr (yC ..)) with e2 | e2
    .show e2.symm
    .show absurd (d.1 a e) (g _ _ (c.1 b e2))
  subst j
  congr 1
  show qdd r f g l m c.2 d.2 λx=>⟨λi=>?_,λi=>?_⟩
  .rcases yy.mp ((h x).mp (yw _ i)) with e | e
   .subst e;show absurd (c.1 x i) (f x)
   .show e
  .rcases yy.mp ((h x).mpr (yw _ i)) with e | e
   .subst e;show absurd (d.1 x i) (f x)
   .show e
theorem qgX{P c:Nat}(h:P<2 ^ n)(hc:P.testBit c=true):c<n:=by
 apply xL;intro hn;rw[YU (yi h (YR (by decide) (by lk)))] at hc;cases hc
def adjI(TI:List (Nat×Nat))(a b:Nat):Prop:=(a,b)∈TI\/(b,a)∈TI
def bsN(TI:List (Nat×Nat))(h:Nat):LN:=(TI.filter λp=>decide (h=p.1)||decide (h=p.2)).map λp=>p.1+p.2-h
inductive RI(TI:List (Nat×Nat))(a:Nat):Nat->Prop
 | refl:RI TI a a
 | on {b c:Nat} (h:RI TI a b) (t:adjI TI b c):RI TI a c
def BI(ns:LN)(TI:List (Nat×Nat)):Prop:=∀ a b,(ns.getD a 0).testBit b=true↔adjI TI a b
theorem RI.trans{TI:List (Nat×Nat)}{a b c:Nat}(h:RI TI a b)(k:RI TI b c):RI TI a c:=by
 induction k with
 | refl=>show h
 | on _ t ih=>show ih.on t
theorem adjI.symm{TI:List (Nat×Nat)}{a b:Nat}(h:adjI TI a b):adjI TI b a:=Or.symm h
theorem RI.symm{TI:List (Nat×Nat)}{a b:Nat}(h:RI TI a b):RI TI b a:=by
 induction h with
 | refl=>show .refl
 | on _ t ih=>show(RI.refl.on t.symm).trans ih
section
variable{n:Nat}{TI:List (Nat×Nat)}
theorem TIok.adj(c:TIok n TI){a b:Nat}(h:adjI TI a b):a<n/\b<n/\a≠b:=by
 rcases h with h | h<;>have:=c.ok _ h<;>simp only at this<;>lk
theorem qaN(d:TIok n TI){h b:Nat}:b∈bsN TI h↔adjI TI h b:=by
 unfold bsN;rw[yE];constructor
 .rintro ⟨p,c,rfl⟩;obtain⟨a,e⟩:=yo.mp c;rw[xu,yJ,yJ] at e;rcases e with e | e
  .subst e;rw[show p.1+p.2-p.1=p.2 by lk];show .inl a
  .subst e;rw[show p.1+p.2-p.2=p.1 by lk];show .inr a
 .rintro (k | k)
  .show⟨_,yo.mpr ⟨k,by simp⟩,by show h+b-h=b;lk⟩
  .show⟨_,yo.mpr ⟨k,by simp⟩,by show b+h-h=b;lk⟩
theorem sum_sub{a b h:Nat}(e:h=a\/h=b):(a=h/\a+b-h=b)\/(b=h/\a+b-h=a):=by
 rcases e with e | e<;>subst e<;>simp
theorem qfP(c:TIok n TI)(h:Nat):(bsN TI h).Nodup:=by
 unfold bsN;refine List.pairwise_map.mpr ((c.nd.filter _).imp_of_mem λ{a b} d g f e=>f ?_);have ⟨d,i⟩:=List.mem_filter.mp d;have ⟨g,j⟩:=List.mem_filter.mp g;have k:=(c.ok a d).1;have l:=(c.ok b g).1;rw[Bool.or_eq_true,decide_eq_true_iff,decide_eq_true_iff] at i j
 rcases sum_sub i with ⟨p,q⟩ | ⟨p,q⟩<;>rcases sum_sub j with ⟨r,s⟩ | ⟨r,s⟩<;>rw[q,s] at e
 .exact Prod.ext (p.trans r.symm) e
 .exact absurd (Nat.lt_trans (p ▸ e ▸ k) (r ▸ l)) (Nat.lt_irrefl _)
 .exact absurd (Nat.lt_trans (p ▸ e ▸ k) (r ▸ l)) (Nat.lt_irrefl _)
 .exact Prod.ext e (p.trans r.symm)
theorem qfQ(a:TIok n TI)(h:Nat):(bsN TI h).length<=30:=by
 unfold bsN;rw[ya];show yh (yG _ _) a.few
def qaE(TI:List (Nat×Nat))(v:Nat):Nat:=bsT (bsN TI v)
theorem qbc(a:TIok n TI){v b:Nat}:(qaE TI v).testBit b=true↔adjI TI v b:=by
 unfold qaE;rw[qeg (qfP a v),yJ,qaN a]
theorem qfR(a:TIok n TI)(v:Nat):qaE TI v<2 ^ n:=bsT_lt (qfP a v) λk b=>(a.adj ((qaN a).mp b)).2.1
theorem BI.col(h:BI ns TI)(a:TIok n TI)(v:Nat):ns.getD v 0=qaE TI v:=YQ λi=>by
 rw[Ye,h v i,qbc a]
theorem qeU(c:BI ns TI){a b:Nat}:Rch ns a b↔RI TI a b:=by
 constructor
 .intro h
  induction h with
  | zero=>show .refl
  | step _ t ih=>show ih.on ((c _ _).mp t)
 .intro h
  induction h with
  | refl=>show .zero
  | on _ t ih=>show .step ih ((c _ _).mpr t)
def nr(TI:List (Nat×Nat))(cl:Nat->Bool)(n s:Nat)(c:Bool):LN:=(List.range n).filter λv=>@decide (RI TI s v/\cl v=c) (Classical.propDecidable _)
theorem nr_mem{s v:Nat}:v∈nr TI cl n s c↔v<n/\RI TI s v/\cl v=c:=by
 unfold nr;rw[yo,Yu,@decide_eq_true_iff _ (Classical.propDecidable _)]
theorem nr_inc{s:Nat}:(nr TI cl n s c).Pairwise (· < ·):=List.Pairwise.filter _ List.pairwise_lt_range
theorem nr_nd{s:Nat}:(nr TI cl n s c).Nodup:=nr_inc.imp λh e=>by lk
theorem qa3{s:Nat}:(nr TI cl n s c).length<=n:=by
 unfold nr;have:=yG (λv=>@decide (RI TI s v/\cl v=c) (Classical.propDecidable _)) (List.range n)
 rwa[Yh] at this
theorem qfS{s:Nat}{l m:LN}(hl:∀ v,v∈l↔v<n/\RI TI s v/\cl v=c)(nd:l.Nodup)(e:m.Perm l)(f:m.Pairwise (·<=·)):m=nr TI cl n s c:=by
 show qdd (· < ·) (λa=>Yw a) (λa b h k=>Nat.lt_asymm h k) m _ ?_ nr_inc λx=>?_
 .have d:=(e.nodup_iff).mpr nd;show(List.Pairwise.and f d).imp λ{a b} h=>Nat.lt_of_le_of_ne h.1 h.2
 .rw [e.mem_iff,hl,nr_mem]
end
theorem Wt.bi{TI:List (Nat×Nat)}(W:Wt cw H x ss ns (TI.map (nmP ss)))(d:TIok ss.length TI):BI ns TI:=by
 have hn:=W.wok.nd
 have g:∀{i j:Nat},i<ss.length->j<ss.length->((tn ss i,tn ss j)∈TI.map (nmP ss)↔(i,j)∈TI):=λ{i j} n o=>by
  constructor
  .intro h;obtain⟨p,f,e⟩:=yE.mp h;have k:=d.ok p f;have l:=jZ hn (i:=p.1) (j:=i) (by lk) n (congrArg Prod.fst e);have m:=jZ hn (i:=p.2) (j:=j) (by lk) o (congrArg Prod.snd e);rw[<- l,<- m];show f
  .show λh=>yE.mpr ⟨_,h,rfl⟩
 intro a b;by_cases c:a<ss.length
 .by_cases hb:b<ss.length
  .rw [W.adj a b _ _ (qaD c) (qaD hb),g c hb,g hb c];show Ki
  .show⟨λh=>absurd (qgX (W.wok.lt a) h) hb,λh=>absurd (d.adj h).2.1 hb⟩
 .show⟨λh=>?_,λh=>absurd (d.adj h).1 c⟩;have hl:=W.wok.len;rw[yY,xl (by lk)] at h;simp at h
def par{α:Type}(l:List α)(p:α->Bool):Bool:=l.foldr (λi b=>p i ^^ b) false
section
variable{α β:Type}
theorem jm(x:α)(l:List α)(p:α->Bool):par (x::l) p=(p x ^^ par l p):=rfl
theorem qgY{l:List α}{p:α->Bool}(h:∀ i∈l,p i=false):par l p=false:=by
 induction l with
 | nil=>rfl
 | cons x l ih=>rw[jm,h x yC,ih λi a=>h i (yw _ a)];rfl
theorem zK{l:List α}{p q:α->Bool}(h:∀ i∈l,p i=q i):par l p=par l q:=by
 induction l with
 | nil=>rfl
 | cons x l ih=>rw[jm,jm,h x yC,ih λi a=>h i (yw _ a)]
theorem qfT(l:List α)(p q:α->Bool):par l (λi=>p i ^^ q i)=(par l p ^^ par l q):=by
 induction l with
 | nil=>rfl
 | cons x l ih=>rw[jm,jm,jm,ih];cases p x<;>cases q x<;>cases par l p<;>cases par l q<;>rfl
theorem par_one{l:List α}(nd:l.Nodup){x:α}(b:x∈l){p:α->Bool}(h:∀ i∈l,i≠x->p i=false):par l p=p x:=by
 induction l with
 | nil=>cases b
 | cons y l ih =>
  obtain⟨c,d⟩:=yn.mp nd;rw[jm];by_cases e:y=x
  .subst e;rw[qgY λi a=>h i (yw _ a) λz=>c (z ▸ a)];cases p y<;>rfl
  .rw [h y yC e,ih d ((yy.mp b).resolve_left (Yv e)) λi a=>h i (yw _ a)];cases p x<;>rfl
theorem qeh(l:List α)(p:α->Bool):par l p=decide ((l.filter p).length % 2=1):=by
 induction l with
 | nil=>rfl
 | cons x l ih =>
  rw[jm,ih,yZ];cases p x
  .rw [yB (by decide),Ka]
  .rw [yH rfl,Yb];rcases xG (l.filter p).length with k | k
   .rw [k,show((l.filter p).length+1) % 2=1 by lk];rfl
   .rw [k,show((l.filter p).length+1) % 2=0 by lk];rfl
end
def dot(n:Nat)(T:Nat->Bool)(v:Nat):Bool:=par (List.range n) λb=>T b&&v.testBit b
theorem dot_xor(n:Nat)(T:Nat->Bool)(v w:Nat):dot n T (v ^^^ w)=(dot n T v ^^ dot n T w):=by
 unfold dot;rw[<- qfT];show zK λb _=>?_;rw[Yg];cases T b<;>cases v.testBit b<;>cases w.testBit b<;>rfl
theorem qfU(n:Nat)(T U:Nat->Bool)(v:Nat):dot n (λb=>T b ^^ U b) v=(dot n T v ^^ dot n U v):=by
 unfold dot;rw[<- qfT];show zK λb _=>?_;show((T b ^^ U b)&&_)=_;cases T b<;>cases U b<;>cases v.testBit b<;>rfl
theorem qh5:∀{L:LN} {g:Nat},g<2 ^ n->(∀ v∈L,v<2 ^ n)->¬ Spn L g->∃ T:Nat->Bool,(∀ v∈L,dot n T v=false)/\dot n T g=true
 | [],g,hg,_,h=>by
  obtain⟨b,hb⟩:∃ b,g.testBit b=true:=xL λz=>h (YQ λi=>by
   rw[YE]
   cases e:g.testBit i with
   | false=>rfl
   | true=>show absurd ⟨i,e⟩ z)
  show⟨λi=>decide (i=b),λv hv=>by(cases hv),?_⟩;unfold dot;rw[par_one List.nodup_range (x:=b) (Yu.mpr (qgX hg hb)) λi _ ne=>by show(decide (i=b)&&_)=_;rw[yk ne];rfl];show(decide (b=b)&&_)=_;rw[yv rfl,hb];rfl
 | x::L,g,hg,hL,h=>by
  have q:=hL x yC;have c:∀ v∈L,v<2 ^ n:=λv hv=>hL v (yw _ hv);have h1:¬ Spn L g:=λz=>h (.inl z);have p:¬ Spn L (g ^^^ x):=λz=>h (.inr z);obtain⟨T,j,l⟩:=qh5 hg c h1;obtain⟨U,m,a⟩:=qh5 (kt hg q) c p;rw[dot_xor] at a
  cases f:dot n T x with
  | false =>
   show⟨T,λv hv=>?_,l⟩;rcases yy.mp hv with z | z
   .rw [z];show f
   .show j v z
  | true =>
   cases d:dot n U x with
   | false =>
    rw[d,YS] at a;show⟨U,λv hv=>?_,a⟩;rcases yy.mp hv with z | z
    .rw [z];show d
    .show m v z
   | true =>
    rw[d,Xz] at a;show⟨λb=>T b ^^ U b,λv hv=>?_,?_⟩
    .rw [qfU];rcases yy.mp hv with z | z
     .rw [z,f,d];rfl
     .rw [j v z,m v z];rfl
    .rw [qfU,l]
     cases o:dot n U g with
     | false=>rfl
     | true=>rw[o] at a;cases a
theorem qde{f:Nat->Nat}{x:Nat->Bool}:∀{l:LN} {g:Nat},(∀ b,g.testBit b=par l λv=>x v&&(f v).testBit b)->Spn (l.map f) g
 | [],g,h=>YQ λb=>by rw[h b,YE];rfl
 | a::l,g,h=>by
  cases e:x a with
  | false =>
   show .inl (qde (x:=x) λb=>?_);rw[h b,jm,e,Xn,Ka]
  | true =>
   show .inr (qde (x:=x) λb=>?_);rw[Yg,h b,jm,e,kM];cases (f a).testBit b<;>cases par l _<;>rfl
def oth(TI:List (Nat×Nat))(cl:Nat->Bool)(n s:Nat):LN:=(nr TI cl n s (cl s)).filter λv=>!decide (v=s)
def Lst(TI:List (Nat×Nat))(cl:Nat->Bool)(n s:Nat):Prop:=Spn ((oth TI cl n s).map (qaE TI)) (qaE TI s)
theorem qcR(l:List α)(q p:α->Bool):par (l.filter q) p=par l λi=>q i&&p i:=by
 induction l with
 | nil=>rfl
 | cons x l ih =>
  rw[yZ,jm,<- ih];cases q x
  .rw [yB (by decide),Xn,Ka]
  .rw [yH rfl,kM,jm]
theorem qei{l:LN}{q:Nat->Bool}(nd:l.Nodup)(hl:∀ v∈l,v<n)(h:∀ v,v<n->q v=true->v∈l):par l q=par (List.range n) q:=by
 have e:par l q=par (l.filter q) λ_=>true:=by rw[qcR];show zK λi _=>by cases q i<;>rfl
 have a:par (List.range n) q=par ((List.range n).filter q) λ_=>true:=by rw[qcR];show zK λi _=>by cases q i<;>rfl
 rw[e,a]
 have:(l.filter q).Perm ((List.range n).filter q):=by
  show(Xp (nd.filter _) (List.nodup_range.filter _)).mpr λv=>?_;rw[yo,yo,Yu];show⟨λz=>⟨hl v z.1,z.2⟩,λz=>⟨h v z.1 z.2,z.2⟩⟩
 rw[qeh,qeh,(this.filter _).length_eq]
section
variable{n:Nat}{TI:List (Nat×Nat)}{cl:Nat->Bool}{s p:Nat}
theorem oth_mem{v:Nat}:v∈oth TI cl n s↔(v<n/\RI TI s v/\cl v=cl s)/\v≠s:=by
 unfold oth;rw[yo,nr_mem];simp
theorem qfV(c:TIok n TI)(a b:Nat):(qaE TI a).testBit b=(qaE TI b).testBit a:=by
 rw[Ye,qbc c,qbc c];show⟨adjI.symm,adjI.symm⟩
theorem lost_mask(a:TIok n TI)(h:¬ Lst TI cl n s):∃ T:Nat->Bool,(∀ v∈oth TI cl n s,dot n T (qaE TI v)=false)/\dot n T (qaE TI s)=true:=by
 obtain⟨T,h1,b⟩:=qh5 (qfR a s) (λv hv=>by obtain⟨w,_,rfl⟩:=yE.mp hv;show qfR a w) h;show⟨T,λv hv=>h1 _ (yE.mpr ⟨v,hv,rfl⟩),b⟩
theorem far_spn(g:TIok n TI)(i:∀ a b,adjI TI a b->cl b=!cl a)(o:s<n)(h:¬ Lst TI cl n s):Spn ((nr TI cl n s (!cl s)).map (qaE TI)) (1 <<< s):=by
 obtain⟨T,l,m⟩:=lost_mask g h;show qde (x:=T) λb=>?_;rw[qbI]
 have e:∀ b,cl b=cl s->RI TI s b->(par (nr TI cl n s (!cl s)) λf=>T f&&(qaE TI f).testBit b)=dot n T (qaE TI b):=λb hb j=>by
  unfold dot;rw[<- qei (n:=n) nr_nd (λf d=>(nr_mem.mp d).1) λf d k=>?_]
  .show zK λf _=>by rw[qfV g]
  .rw [Yn] at k;have a:=(qbc g).mp k.2;show nr_mem.mpr ⟨d,j.on a,by rw[i _ _ a,hb]⟩
 by_cases c:b=s
 .subst c;rw[e b rfl .refl,m,yv rfl]
 .rw [yk c];by_cases hb:b∈oth TI cl n s
  .have k:=oth_mem.mp hb;rw[e b k.1.2.2 k.1.2.1,l b hb]
  .show(qgY λf d=>?_).symm
   cases k:(qaE TI f).testBit b with
   | false=>show kr _
   | true =>
    have a:=(qbc g).mp k;show absurd (oth_mem.mpr ⟨⟨(g.adj a).2.1,(nr_mem.mp d).2.1.on a,?_⟩,c⟩) hb;rw[i _ _ a,(nr_mem.mp d).2.2,Bool.not_not]
end
open Classical in
section
variable{n:Nat}{TI:List (Nat×Nat)}{cl:Nat->Bool}{s:Nat}
end
theorem UC:FnScope wqx wqx (qf qaj):=fS
theorem KQ:FnScope ["_law_ties","_law_start","_law_side","_law_line","_law_here","_law_other"] wqc (qf qbu):=fS
theorem qfW(c:H a=some (.lst xs))(hb:H b=some (.lst [])):EqT K H 1 a b xs.isEmpty:=by
 cases xs with
 | nil=>show EqT.lst (n:=0) (e:=λ_=>true) (SqL.of c) (SqL.of hb) rfl λj x y h=>by(simp at h)
 | cons x r=>show EqT.lstL (SqL.of c) (SqL.of hb) (by simp)
theorem qfX{Q:VK}(c:H a=some (.lst xs))(hb:H b=some (.lst []))(q:Q (.bl (!xs.isEmpty)) H):qhd K true (.ref a) (.ref b) H Q:=
 .inr (.inl ⟨a,b,_,1,rfl,rfl,by decide,qfW c hb,q⟩)
theorem qeV{l:LN}(nd:l.Nodup)(h:∀ v∈l,v<n):l.length<=n:=by
 have e:l.Perm ((List.range n).filter λv=>decide (v∈l)):=(Xp nd (List.nodup_range.filter _)).mpr λv=>by
  rw[yo,Yu,yJ];show⟨λz=>⟨h v z,z⟩,λz=>z.2⟩
 rw[e.length_eq];have:=yG (λv=>decide (v∈l)) (List.range n)
 rwa[Yh] at this
inductive spBeI(vs:List V)(H:Hp)(Q:VK)(E:XK):Prop|mk (l:Addr) (ts:LI) (TI:List (Nat×Nat)) (h n:Nat) (_:vs=[.ref l,iv h]) (_:IPL H l ts TI) (_:TIok n TI) (_:∀(b:Addr) (H':Hp),L2.Same H H'->H b=none->H' b=some (.lst (ivs (bsN TI h)))->Q (.ref b) H')
def sdK(cl:Nat->Bool)(s:Nat)(a:LN):List (Key×V):=a.map λ(v:Nat)=>((Sum.inl (v:Int):Key),iv (if cl v=cl s then 0 else 1))
theorem qcS(cl:Nat->Bool)(s:Nat)(v:Nat):∀ a:LN,qab (sdK cl s a) (Sum.inl (v:Int):Key)=if v∈a then some (iv (if cl v=cl s then 0 else 1)) else none
 | []=>rfl
 | u::a=>by
  have b:=qcS cl s v a;unfold sdK at b ⊢;unfold qab at b ⊢;rw[Ys,xt];by_cases h:u=v
  .subst h;rw[yv rfl,yH yC];rfl
  .have ne:¬ (Sum.inl (u:Int):Key)=Sum.inl (v:Int):=λe=>h (by have:=Sum.inl.inj e;lk);rw[yk ne];by_cases hm:v∈a
   .rw [yH hm] at b;rw[yH (yw _ hm)];show b
   .rw [yB hm] at b;rw[yB (λz=>hm ((yy.mp z).resolve_left (Yv h)))];show b
theorem sd_put{s v:Nat}{a:LN}(h:v∉a):qa6 (sdK cl s a) (Sum.inl (v:Int):Key) (iv (if cl v=cl s then 0 else 1))=sdK cl s (a++[v]):=by
 rw[qcY _ (by rw[qcS,yB h])];unfold sdK;rw[yt];rfl
inductive spSiI(vs:List V)(H:Hp)(Q:VK)(E:XK):Prop|mk (l:Addr) (ts:LI) (TI:List (Nat×Nat)) (s n:Nat) (cl:Nat->Bool) (_:vs=[.ref l,iv s]) (_:IPL H l ts TI) (_:TIok n TI) (_:n<=14) (_:s<n) (_:(∀ a b,adjI TI a b->cl b=!cl a)) (_:∀(d:Addr) (vis:LN) (H':Hp),L2.Same H H'->H d=none->H' d=some (.dK (sdK cl s vis))->vis.Nodup->(∀ v,v∈vis↔v<n/\RI TI s v)->Q (.ref d) H')
theorem ok_beI(F:Fun K "_law_beside" "_law_beside" qaj f fd):wqqg 1 f fd wqx spBeI:=by
 show F.ok UC λ_ _ _ _ H vs Q E N h=>?_
 .obtain⟨l,ts,TI,h,n,rfl,c,v,q⟩:=h;have O:=jJ N;show⟨_,(qe (qm (qG (sc:=qf qaj) (XN:=wqx) wqT 2 [1] rfl rfl rfl (by room) rfl (by room)
  (qeH (K:=K) rfl (pv 0)) (λ_ _ _ _=>(qa1 (n:=2) rfl (qW (qo (i:=0) (show(wqT:LS).Nodup by room) rfl (yF rfl)) (qW (qo (i:=1) (show(wqT:LS).Nodup by room) rfl (yF rfl)) zV)))) qeK
  (λ_ _ _ _=>(qP (qp (qaC (K:=K) rfl O) (pv 2) (q8 (qa (pv 0) (qa (pv 1) qc))) (by with_unfolding_all rfl))))
  (λ_ _ _ _=>(qz qcG (qz (zg (K:=K) rfl) (pv 0) (pv 1)) (pv 2)))))),?_⟩
  apply qgn ?_;apply⟨l,_,rfl,.of c.1,qx (xs:=ts.map V.ref) (λi ys J=>L2.Same H J/\ys=ivs (bsN (TI.take i) h)) ⟨L2.Same.refl H,rfl⟩ (λi ys J _ a=>.of (a.1 _ _ c.1)) (λi x ys J D a=>?_) λys J a=>?_⟩
  .obtain⟨j,rfl⟩:=a;rw[yd] at D;obtain⟨u,g,rfl⟩:=ym.mp D;have M:i<TI.length:=by rw[<- c.2.len];show(yc.mp g).1
   obtain⟨p,y⟩:∃ p,TI[i]?=some p:=⟨_,yb M⟩;have z:=j _ _ (c.2.at_ i u p g y);show⟨u,_,rfl,.of z,rfl,_,_,rfl,_,_,rfl,rfl,?_⟩;apply⟨wqqk,λm hm=>?_⟩;have A:=qu j (o:=iT p) hm;have d:upd J m (iT p) m=some (iT p):=qb;generalize upd J m (iT p)=R at A d;apply .inl ⟨m,_,rfl,.inr (SqT.of d),rfl,rfl,?_⟩
   have t:(if false=true then !inV (iv h) [iv p.1,iv p.2] else inV (iv h) [iv p.1,iv p.2])=(decide (h=p.1)||decide (h=p.2)):=by
    rw[yB (by decide)];have B:=zJ (p.1:Int) (h:Int);have C:=zJ (p.2:Int) (h:Int);rw[yB (by decide)] at B C;show(eqV (iv p.1) (iv h)||(eqV (iv p.2) (iv h)||false))=_;rw[B,C,kJ]
    congr 1<;>show Yc.mpr (by lk)
   rw[t]
   have s:bsN (TI.take (i+1)) h=bsN (TI.take i) h++bsN [p] h:=by
    unfold bsN;rw[yL,y,Yd,yt];rfl
   rw[s]
   have L:(bsN (TI.take i) h).length<=30:=by
    unfold bsN;rw[ya];show yh (yG _ _) ?_;rw[yN];have:=v.few;lk
   ext
   cases r:(decide (h=p.1)||decide (h=p.2)) with
   | false =>
    show yp ?_;have G:bsN [p] h=[]:=by unfold bsN;rw[yZ,r];rfl
    rw[G];show⟨A,by simp⟩
   | true =>
    show jp ?_;ext;have I:bsN [p] h=[p.1+p.2-h]:=by unfold bsN;rw[yZ,r];rfl
    rw[I];have S:=v.ok p (ye y);rw[xu,yJ,yJ] at r;show⟨by rw[ya];show qg (by lk),A,?_⟩;show _=List.map iv _;rw[yt];show _++[V.int _]=_++[V.int ((p.1+p.2-h:Nat):Int)]
    congr 3
    lk
  .obtain⟨j,rfl⟩:=a;have e:(ts.map V.ref).length=TI.length:=by rw[ya,c.2.len]
   rw[e,yD];show⟨by rw[ya];show yI (qg (by have:=qfQ v h;lk)),λb hb=>?_⟩;show q b _ (qu j hb) (j.free hb) qb
theorem ok_siI(F:Fun K "_law_sides" "_law_sides" qbu f fd)(T:Txt K mg cc cw)(uw:wqqe 1 "_law_beside" wqx spBeI):wqqg 2 f fd wqc spSiI:=by
 show F.ok KQ λ_ _ _ _ H vs Q E hr h=>?_
 .obtain⟨l,ts,TI,st,n,cl,rfl,hI,hT,bf,az,hC,q⟩:=h;have U:=jJ hr;show⟨_,(qd (qq (i:=2) KQ.nd rfl (yF rfl) (pe_disp (pps_cons (pv 1) qh pps_nil) rfl rfl (λh=>nomatch h) (by show 1<=15;decide)))
 (qd (qq (i:=3) KQ.nd rfl (yF rfl) (qA (qa (pv 1) qc)))
 (qd (qcW yW (qp (qaK (K:=K) rfl U) (pv 3) (qA qc) (qv _))
 (qd (qq (i:=4) KQ.nd rfl (yF rfl) (k_bm0 (K:=K) rfl yO PySem.F.slot_list_pop PySem.F.type_list_pop mtR_pop (pv 3)))
 (qe (jy yW rfl (qF (K:=K) rfl (qi uw (hmR hr) qr (qa (pv 0) (qa (pv 4) qc)))) (qo (i:=5) KQ.nd rfl (yF rfl))
 (qe (qJ (qp (zO (K:=K) rfl U) (pv 5) (pv 2) (by with_unfolding_all rfl)) (qd (qa2 (qz qcG qh (qB (qC (K:=K) rfl U) (pv 2) (pv 4) (λ_ _=>rfl))) (qbL (pv 2) (pv 5) (qbO U)))
 (qe (qK (qcN (K:=K) rfl yO yT yU qR (pv 3) (qa (pv 5) qc))))) qt))))))
 (qe (qm (pv 2)))))),?_⟩
  ext;intro d hd;show⟨_,rfl,qb,[(Sum.inl (st:Int),V.int 0)],rfl,by show 1<=15;decide,?_⟩;have s1:L2.Same H (upd (upd H d (HO.dK [])) d (HO.dK (j5 [] [(Sum.inl (st:Int),V.int 0)]))):=qgo (qgo (Sr H) hd) hd
  have ed:upd (upd H d (HO.dK [])) d (HO.dK (j5 [] [(Sum.inl (st:Int),V.int 0)])) d=some (.dK (sdK cl st [st])):=by
   rw[qb];have e0:sdK cl st [st]=[(Sum.inl (st:Int),V.int 0)]:=by unfold sdK;rw[Ys,yH rfl];rfl
   rw[e0];rfl
  show qhp _ _ _ _ (upd (upd H d (HO.dK [])) d (HO.dK (j5 [] [(Sum.inl (st:Int),V.int 0)])));generalize upd (upd H d (HO.dK [])) d (HO.dK (j5 [] [(Sum.inl (st:Int),V.int 0)]))=H1 at s1 ed;apply⟨wqqj,λp R=>?_⟩;have s2:=qu s1 (o:=.lst (ivs [st])) R;have bb:=qu (Sr H1) (o:=.lst (ivs [st])) R;have ew:upd H1 p (.lst (ivs [st])) p=some (.lst (ivs [st])):=qb;have ak:=bb _ _ ed;have ar:H p=none:=s1.free R;have ai:p≠d:=λz=>by rw[z,ed] at R;cases R
  show qhp _ _ _ _ (upd H1 p (.lst (ivs [st])));generalize upd H1 p (.lst (ivs [st]))=H2 at s2 ew ak;ext;obtain⟨Wp,af⟩:∃ Wp:Nat->L2.St->Hp->Prop,Wp=λm σ J=>∃(c wl:LN) (y4 y5:Option V),m=2*(n-c.length)+wl.length/\σ=[some (.ref l),some (iv st),some (.ref d),some (.ref p),y4,y5]/\L2.Same H J/\J p=some (.lst (ivs wl))/\J d=some (.dK (sdK cl st c))/\c.Nodup/\(∀ v∈c,v<n/\RI TI st v)/\(∀ v∈wl,v∈c)/\(∀ a∈c,a∉wl->∀ b,adjI TI a b->b∈c)/\st∈c/\wl.length<=c.length:=⟨_,rfl⟩
  have vl:∀{c:LN},c.Nodup->(∀ v∈c,v<n/\RI TI st v)->c.length<=n:=λ{c} h1 h2=>by
   show qeV h1 λv hv=>(h2 v hv).1
  show⟨Wp,⟨_,by rw[af];show⟨[st],[st],none,none,rfl,rfl,s2,ew,ak,by simp,λv hv=>by rw[yr.mp hv];show⟨az,.refl⟩,λv hv=>hv,λa ha hn=>absurd ha hn,by simp,yg _⟩⟩,λm σ J hW=>?_⟩;rw[af] at hW;obtain⟨c,wl,y4,y5,hm,rfl,sJ,ae,am,s,j,S,L,N,ah⟩:=hW;have ba:=vl s j;apply⟨wqqi,λe ax=>?_⟩;have Z:=qu (Sr J) (o:=.lst []) ax;have ee:upd J e (.lst []) e=some (.lst []):=qb;generalize upd J e (.lst [])=J3 at Z ee;show qfX (Z _ _ ae) ee ?_;ext
  have hL:wl=[]\/∃ g a,wl=g++[a]:=by
   rcases List.eq_nil_or_concat wl with h | ⟨g,a,h⟩
   .show .inl h
   .show .inr ⟨g,a,by rw[h,List.concat_eq_append]⟩
  rcases hL with rfl | ⟨g,a,rfl⟩
  .show yp ?_;apply q d c J3 (sJ.trans Z) hd (Z _ _ am) s λv=>⟨j v,λh=>?_⟩;obtain⟨_,h⟩:=h
   induction h with
   | refl=>show N
   | on _ t ih=>show L _ (ih (hT.adj t).1) (by simp) _ t
  .show qI (λ_=>⟨λbc H'=>∃ n',n'<m/\Wp n' bc H',λ_ _ z=>z,?_⟩) λh=>absurd (show(!(ivs (g++[a])).isEmpty)=true by rw[show ivs (g++[a])=ivs g++[iv a] from yt ..];cases ivs g<;>rfl) h;apply⟨.inl ⟨rfl,_,.of (Z _ _ ae)⟩,?_⟩;show⟨p,_,iv a,rfl,rfl,Z _ _ ae,by rw[ya,yx,yd];simp,?_⟩;have aw:(ivs (g++[a])).dropLast=ivs g:=by rw[show ivs (g++[a])=ivs g++[iv a] from yt ..];simp
   rw[aw];have s4:L2.Same H (upd J3 p (.lst (ivs g))):=qgo (sJ.trans Z) ar;have ac:upd J3 p (.lst (ivs g)) p=some (.lst (ivs g)):=qb;have ab:upd J3 p (.lst (ivs g)) d=some (.dK (sdK cl st c)):=by rw[qk (Yv ai)];show Z _ _ am
   generalize upd J3 p (.lst (ivs g))=J4 at s4 ac ab;have r:a∈c:=S a (by simp);have bg:=j a r;apply⟨l,ts,TI,a,n,rfl,hI.same s4,hT,λb J5 s5 X hb=>?_⟩;have av:b≠p:=λz=>by rw[z,ac] at X;cases X
   have bd:b≠d:=λz=>by rw[z,ab] at X;cases X
   show .inl ⟨⟨_,.of hb⟩,ju (xs:=ivs (bsN TI a)) (λi σ G=>∃(vs A:LN) (y5:Option V),σ=[some (.ref l),some (iv st),some (.ref d),some (.ref p),some (iv a),y5]/\L2.Same H G/\G b=some (.lst (ivs (bsN TI a)))/\G p=some (.lst (ivs A))/\G d=some (.dK (sdK cl st vs))/\vs.Nodup/\(∀ v∈vs,v<n/\RI TI st v)/\(∀ v∈A,v∈vs)/\(∀ u∈vs,u∉A->u≠a->∀ x,adjI TI u x->x∈vs)/\st∈vs/\a∈vs/\(∀ x∈(bsN TI a).take i,x∈vs)/\2*(n-vs.length)+A.length<=2*(n-c.length)+g.length/\A.length<=vs.length)
    ⟨c,g,_,rfl,s4.trans s5,hb,s5 _ _ ac,s5 _ _ ab,s,j,λv hv=>S v (by simp[hv]),λu U hw ne=>L u U (by simp[hw,ne]),N,r,λx D=>by simp at D,yg _,by simp at ah;lk⟩
    (λi σ G _ hp=>?_) (λi y σ G hy hp=>?_) fun σ G hp=>?_⟩
   .obtain⟨vs,A,y5,_,_,e,_⟩:=hp;show .of e
   .obtain⟨vs,A,y5,rfl,sG,aa,W,I,s,j,S,L,N,r,O,ao,ah⟩:=hp;have ba:=vl s j;rw[yd] at hy;obtain⟨o,ho,rfl⟩:=ym.mp hy;have ag:adjI TI a o:=(qaN hT).mp (ye ho);have Y:(bsN TI a).take (i+1)=(bsN TI a).take i++[o]:=by rw[yL,ho];rfl
    apply .inr (.inl ⟨d,_,rfl,DGet.k (k:=Sum.inl (o:Int)) I,?_⟩);rw[yH rfl,qcS];ext;by_cases M:o∈vs
    .rw [yH M];show yp ?_;show⟨vs,A,_,rfl,sG,aa,W,I,s,j,S,L,N,r,λx D=>?_,ao,ah⟩;rw[Y] at D;rcases yK.mp D with z | z
     .show O x z
     .rw [yr.mp z];show M
    .rw [yB M];show jp ?_;apply .inr ⟨d,iv (if cl a=cl st then 0 else 1),rfl,by have:=DGet.k (k:=Sum.inl (a:Int)) I;rw[qcS,yH r] at this;show this,?_⟩;ext
     have ev:V.int (1-((if cl a=cl st then 0 else 1:Nat):Int))=iv (if cl o=cl st then 0 else 1):=by
      rw[hC _ _ ag];cases cl a<;>cases cl st<;>rfl
     rw[ev];show .inr ⟨d,_,rfl,DPut.k (k:=Sum.inl (o:Int)) I (by rw[show(sdK cl st vs).length=vs.length from ya ..,xi];lk),?_⟩;rw[sd_put M];have s6:L2.Same H (upd G d (.dK (sdK cl st (vs++[o])))):=qgo sG hd;have al:upd G d (.dK (sdK cl st (vs++[o]))) d=some (.dK (sdK cl st (vs++[o]))):=qb;have ad:upd G d (.dK (sdK cl st (vs++[o]))) p=some (.lst (ivs A)):=by rw[qk ai];show W
     have aj:upd G d (.dK (sdK cl st (vs++[o]))) b=some (.lst (ivs (bsN TI a))):=by rw[qk bd];show aa
     generalize upd G d (.dK (sdK cl st (vs++[o])))=G6 at s6 al ad aj;apply⟨.inl ⟨rfl,_,.of ad⟩,?_⟩;apply⟨p,_,_,rfl,rfl,ad,by rw[ya];show qg (by lk),?_⟩;have ay:=hT.adj ag;have C:(vs++[o]).Nodup:=YI.mpr ⟨s,by simp,λx D y hy e=>M (by rw[<- yr.mp hy,<- e];show D)⟩
     have B:∀ v∈vs++[o],v<n/\RI TI st v:=λv hv=>by
      rcases yK.mp hv with z | z
      .show j v z
      .rw [yr.mp z];show⟨ay.2.1,(j a r).2.on ag⟩
     have aq:=vl C B;rw[yx,xk] at aq;show⟨vs++[o],A++[o],_,rfl,qgo s6 ar,by rw[qk av];show aj,by rw[qb,show ivs (A++[o])=ivs A++[iv o] from yt ..],by rw[qk (Yv ai)];show al,C,B,λv hv=>?_,λu U hw ne x D=>?_,by simp[N],by simp[r],λx D=>?_,by rw[yx,yx,xk];lk,by rw[yx,yx,xk];lk⟩
     .rcases yK.mp hv with z | z
      .show Yz _ (S v z)
      .show yQ _ z
     .rcases yK.mp U with z | z
      .show Yz _ (L u z (λk=>hw (Yz _ k)) ne x D)
      .show absurd (yQ _ z) hw
     .rw [Y] at D;rcases yK.mp D with z | z
      .show Yz _ (O x z)
      .show yQ _ z
   .obtain⟨vs,A,y5,rfl,sG,aa,W,I,C,B,au,an,ap,be,O,ao,as⟩:=hp;rw[show(ivs (bsN TI a)).length=(bsN TI a).length from ya ..,yD] at O;show⟨2*(n-vs.length)+A.length,?_,?_⟩
    .rw [yx,xk] at hm;lk
    .rw [af];show⟨vs,A,_,_,rfl,rfl,sG,W,I,C,B,au,λu U hw x D=>?_,ap,as⟩;by_cases h:u=a
     .subst h;show O x ((qaN hT).mpr D)
     .show an u U hw h x D
theorem Uj:FnScope wqu wqc (qf qbv):=fS
theorem Uw:FnScope wqu wqc (qf qcw):=fS
theorem qeW{c:LQ}(d:c.Perm (L.map λ(v:Nat)=>(v:Int)))(f:c.Pairwise (·<=·)):∃ M:LN,c=(M.map λ(v:Nat)=>(v:Int))/\M.Perm L/\M.Pairwise (·<=·):=by
 have e:c=(c.map Int.toNat).map λ(v:Nat)=>(v:Int):=by
  rw[YL];show(List.map_id _).symm.trans (xX λx g=>?_);obtain⟨v,_,rfl⟩:=yE.mp (d.mem_iff.mp g);show(v:Int)=(((v:Int).toNat:Nat):Int);lk
 show⟨c.map Int.toNat,e,?_,?_⟩
 .have:=d.map Int.toNat;rw[YL] at this;show this.trans (List.Perm.of_eq ?_);show(xX λv _=>rfl).trans (List.map_id _)
 .show Y7.mpr (f.imp λ{a b} h=>by lk)
inductive spNrI(far:Bool)(vs:List V)(H:Hp)(Q:VK)(E:XK):Prop|mk (l:Addr) (ts:LI) (TI:List (Nat×Nat)) (s n:Nat) (cl:Nat->Bool) (_:vs=[.ref l,iv s]) (_:IPL H l ts TI) (_:TIok n TI) (_:n<=14) (_:s<n) (_:(∀ a b,adjI TI a b->cl b=!cl a)) (_:∀(b:Addr) (H':Hp),L2.Same H H'->H b=none->H' b=some (.lst (ivs (nr TI cl n s (cl s ^^ far))))->Q (.ref b) H')
theorem ok_nrI(F:Fun K "_law_near" "_law_near" qbv f fd)(T:Txt K mg cc cw)(Z:wqqe 2 "_law_sides" wqc spSiI):wqqg 3 f fd wqc (spNrI false):=by
 show F.ok Uj λ_ _ _ s H vs Q E B h=>?_
 .obtain⟨l,ts,TI,st,n,cl,rfl,L,N,t,z,I,q⟩:=h;have j:=jJ B;show⟨_,(qd (qq (i:=2) Uj.nd rfl (Xl rfl) (qi Z (hmR B) qr (qa (pv 0) (qa (pv 1) qc))))
 (qe (qm (qj (qeM (K:=K) rfl) rfl T.b_sorted boot_sorted (qa (qG (sc:=qf qbv) (XN:=wqu) wqL 1 [2] rfl rfl rfl (by room) rfl (by room)
  (qgK (pv 2)) (λ_ _ _ _=>(qo (i:=0) (show(wqL:LS).Nodup by room) rfl (yF rfl))) qE
  (λ_ _ _ _=>(qP (qp (zA (K:=K) rfl j) (qB (qC (K:=K) rfl j) (pv 1) (pv 0) (λ_ _=>rfl)) qh (qv _))))
  (λ_ _ _ _=>(pv 0))) qc))))),?_⟩
  apply⟨l,ts,TI,st,n,cl,rfl,L,N,t,z,I,λd a H1 W x O m hv=>?_⟩;ext;have S:a.length<=n:=qeV m λv h=>((hv v).mp h).1;show qhK ?_;apply⟨d,_,rfl,O,λo=>qdP (λi ys J=>J=upd H1 d (.frz o (.dK (sdK cl st a)))/\ys=ivs ((a.take i).filter λv=>decide (cl v=(cl st ^^ false)))) ⟨rfl,rfl⟩ (λi ys J _ g=>by rw[g.1];show qb) (λi k v ys J y g=>?_) λys J g=>?_⟩
  .obtain⟨rfl,rfl⟩:=g
   have e:∃ u,a[i]?=some u/\k=Sum.inl (u:Int)/\v=iv (if cl u=cl st then 0 else 1):=by
    unfold sdK at y;rw[yd] at y;obtain⟨u,j,e⟩:=ym.mp y;cases e;show⟨u,j,rfl,rfl⟩
   obtain⟨u,j,rfl,rfl⟩:=e;have A:=ye j;apply .inr ⟨d,iv (if cl u=cl st then 0 else 1),rfl,.inl ⟨_,Sum.inl (u:Int),.inr ⟨_,qb⟩,rfl,by rw[qcS,yH A]⟩,?_⟩;apply .inl (.inl (.inl ⟨rfl,rfl,?_⟩));rw[zJ];have G:decide (((if cl u=cl st then 0 else 1:Nat):Int)=0)=decide (cl u=(cl st ^^ false)):=by cases cl u<;>cases cl st<;>rfl
   rw[G,show a.take (i+1)=a.take i++[u] by rw[yL,j];rfl,Yd,yZ];ext
   cases e:decide (cl u=(cl st ^^ false)) with
   | false =>
    show yp ?_;show⟨rfl,?_⟩;rw[yB (by decide)];simp
   | true =>
    show jp ?_;apply⟨?_,rfl,?_⟩
    .rw [ya];show qg (yh (yG _ _) (by rw[yN];lk))
    .rw [yH rfl];show _=List.map iv _;rw[yt];rfl
  .obtain⟨rfl,rfl⟩:=g;rw[show(sdK cl st a).length=a.length from ya ..,yD];have hl:=yG (λv=>decide (cl v=(cl st ^^ false))) a;show⟨by rw[ya];show yI (qg (by lk)),λb hb=>?_⟩;have X:L2.Same H (upd H1 d (.frz o (.dK (sdK cl st a)))):=qgo W x;have C:=qu X (o:=.lst (ivs (a.filter λv=>decide (cl v=(cl st ^^ false))))) hb;apply⟨b,(a.filter λv=>decide (cl v=(cl st ^^ false))).map λ(v:Nat)=>(v:Int),rfl,.of (by rw[YL];show qb),by rw[ya];lk,λr ms p g R=>?_⟩;obtain⟨M,rfl,U,Y⟩:=qeW g R;have D:=qfS (n:=n) (TI:=TI) (cl:=cl) (s:=st) (c:=(cl st ^^ false)) (λv=>by rw[yo,hv,yJ,and_assoc]) (m.filter _) U Y;rw[D];show q r _ (qu C p) (C.free p) ?_;rw[qb,YL];cases cl st<;>rfl
theorem ok_frI(F:Fun K "_law_far" "_law_far" qcw f fd)(T:Txt K mg cc cw)(Z:wqqe 2 "_law_sides" wqc spSiI):wqqg 3 f fd wqc (spNrI true):=by
 show F.ok Uw λ_ _ _ s H vs Q E B h=>?_
 .obtain⟨l,ts,TI,st,n,cl,rfl,L,N,t,z,I,q⟩:=h;have j:=jJ B;show⟨_,(qd (qq (i:=2) Uw.nd rfl (Xl rfl) (qi Z (hmR B) qr (qa (pv 0) (qa (pv 1) qc))))
 (qe (qm (qj (qeM (K:=K) rfl) rfl T.b_sorted boot_sorted (qa (qG (sc:=qf qcw) (XN:=wqu) wqL 1 [2] rfl rfl rfl (by room) rfl (by room)
  (qgK (pv 2)) (λ_ _ _ _=>(qo (i:=0) (show(wqL:LS).Nodup by room) rfl (yF rfl))) qE
  (λ_ _ _ _=>(qP (qp (zA (K:=K) rfl j) (qB (qC (K:=K) rfl j) (pv 1) (pv 0) (λ_ _=>rfl)) qh (qv _))))
  (λ_ _ _ _=>(pv 0))) qc))))),?_⟩
  apply⟨l,ts,TI,st,n,cl,rfl,L,N,t,z,I,λd a H1 W x O m hv=>?_⟩;ext;have S:a.length<=n:=qeV m λv h=>((hv v).mp h).1;show qhK ?_;apply⟨d,_,rfl,O,λo=>qdP (λi ys J=>J=upd H1 d (.frz o (.dK (sdK cl st a)))/\ys=ivs ((a.take i).filter λv=>decide (cl v=(cl st ^^ true)))) ⟨rfl,rfl⟩ (λi ys J _ g=>by rw[g.1];show qb) (λi k v ys J y g=>?_) λys J g=>?_⟩
  .obtain⟨rfl,rfl⟩:=g
   have e:∃ u,a[i]?=some u/\k=Sum.inl (u:Int)/\v=iv (if cl u=cl st then 0 else 1):=by
    unfold sdK at y;rw[yd] at y;obtain⟨u,j,e⟩:=ym.mp y;cases e;show⟨u,j,rfl,rfl⟩
   obtain⟨u,j,rfl,rfl⟩:=e;have A:=ye j;apply .inr ⟨d,iv (if cl u=cl st then 0 else 1),rfl,.inl ⟨_,Sum.inl (u:Int),.inr ⟨_,qb⟩,rfl,by rw[qcS,yH A]⟩,?_⟩;apply .inl (.inl (.inl ⟨rfl,rfl,?_⟩));rw[zJ];have G:decide (((if cl u=cl st then 0 else 1:Nat):Int)=1)=decide (cl u=(cl st ^^ true)):=by cases cl u<;>cases cl st<;>rfl
   rw[G,show a.take (i+1)=a.take i++[u] by rw[yL,j];rfl,Yd,yZ];ext
   cases e:decide (cl u=(cl st ^^ true)) with
   | false =>
    show yp ?_;show⟨rfl,?_⟩;rw[yB (by decide)];simp
   | true =>
    show jp ?_;apply⟨?_,rfl,?_⟩
    .rw [ya];show qg (yh (yG _ _) (by rw[yN];lk))
    .rw [yH rfl];show _=List.map iv _;rw[yt];rfl
  .obtain⟨rfl,rfl⟩:=g;rw[show(sdK cl st a).length=a.length from ya ..,yD];have hl:=yG (λv=>decide (cl v=(cl st ^^ true))) a;show⟨by rw[ya];show yI (qg (by lk)),λb hb=>?_⟩;have X:L2.Same H (upd H1 d (.frz o (.dK (sdK cl st a)))):=qgo W x;have C:=qu X (o:=.lst (ivs (a.filter λv=>decide (cl v=(cl st ^^ true))))) hb;apply⟨b,(a.filter λv=>decide (cl v=(cl st ^^ true))).map λ(v:Nat)=>(v:Int),rfl,.of (by rw[YL];show qb),by rw[ya];lk,λr ms p g R=>?_⟩;obtain⟨M,rfl,U,Y⟩:=qeW g R;have D:=qfS (n:=n) (TI:=TI) (cl:=cl) (s:=st) (c:=(cl st ^^ true)) (λv=>by rw[yo,hv,yJ,and_assoc]) (m.filter _) U Y;rw[D];show q r _ (qu C p) (C.free p) ?_;rw[qb,YL];cases cl st<;>rfl
theorem qfa{i j:Int}{Q:VK}(q:Q (.bl (decide (i=j))) H):qgG K (.int i) (.int j) H Q:=.inl (.inl (.inl ⟨rfl,rfl,by rw[zJ];show q⟩))
theorem jf(L:LN):(ivs L).length=L.length:=ya ..
theorem qaX{f:Nat->Bool}(h:L[i]?=some n):(L.take (i+1)).filter f=(L.take i).filter f++if f n=true then [n] else []:=by
 rw[yL,h,Yd]
 congr 1
 show List.filter f [n]=_;rw[yZ];rfl
theorem qaO{f:Nat->Bool}(h:L.length<=1000):((L.take i).filter f).length<=1000:=by
 have h1:=yG f (L.take i);rw[yN] at h1;lk
theorem UK:FnScope wqk wqk (qf qaP):=fS
theorem qgZ(k:Nat)(L:LN):inV (iv k) (ivs L)=decide (k∈L):=by
 unfold inV;rw[List.any_map,Ye,xn,yJ]
 have a:∀ y:Nat,((λy=>eqV y (iv k)) ∘ iv) y=decide (y=k):=λy=>by
  have:=zJ (y:Int) (k:Int);rw[yB (by decide)] at this;show eqV (iv y) (iv k)=_;rw[this];show Yc.mpr (by lk)
 constructor
 .rintro ⟨y,b,e⟩;rw[a] at e;rw[<- yj e];show b
 .show λh=>⟨k,h,by rw[a];show yv rfl⟩
theorem vInI{v:Nat}{Q:VK}(e:H p=some (.lst (ivs L)))(q:Q (.bl (decide (v∈L))) H):qgl K false (iv v) (.ref p) H Q:=by
 show .inl ⟨p,_,rfl,.inl (.of e),rfl,?_,?_⟩
 .show Yp.mpr λx a=>by obtain⟨u,_,rfl⟩:=yE.mp a;rfl
 .rw [yB (by decide),qgZ];show q
theorem qhh{v:Nat}{Q:VK}(e:H p=some (.lst (ivs L)))(q:Q (.bl (!decide (v∈L))) H):qgl K true (iv v) (.ref p) H Q:=by
 show .inl ⟨p,_,rfl,.inl (.of e),rfl,?_,?_⟩
 .show Yp.mpr λx a=>by obtain⟨u,_,rfl⟩:=yE.mp a;rfl
 .rw [yH rfl,qgZ];show q
def oft(TI:List (Nat×Nat))(h:Nat)(ps:LN):Nat:=((bsN TI h).filter λv=>decide (v∈ps)).length
inductive spOf(vs:List V)(H:Hp)(Q:VK)(E:XK):Prop|mk (l pl:Addr) (ts:LI) (TI:List (Nat×Nat)) (h n:Nat) (ps:LN) (_:vs=[.ref l,iv h,.ref pl]) (_:IPL H l ts TI) (_:TIok n TI) (_:H pl=some (.lst (ivs ps))) (_:∀ H',L2.Same H H'->Q (iv (oft TI h ps)) H')
theorem ok_of(F:Fun K "_law_often" "_law_often" qaP f fd)(T:Txt K mg cc cw)(u:wqqe 1 "_law_beside" wqx spBeI):wqqg 2 f fd wqk spOf:=by
 show F.ok UK λ_ _ _ _ H vs Q E g h=>?_
 .obtain⟨l,pl,ts,TI,h,n,ps,rfl,o,e,c,q⟩:=h;have t:=jJ g;show⟨_,(qe (qm (qj (zx (K:=K) rfl) rfl T.b_len YM (qa (qG (sc:=qf qaP) (XN:=wqk) ["_law_one","_law_places"] 1 [2] rfl rfl rfl (by room) rfl (by room)
  (qF (K:=K) rfl (qi u (hmR g) qr (qa (pv 0) (qa (pv 1) qc)))) (λ_ _ _ _=>(qo (i:=0) (show(["_law_one","_law_places"]:LS).Nodup by room) rfl (yF rfl))) qE
  (λ_ _ _ _=>(qP (qp (qaC (K:=K) rfl t) (pv 0) (pv 1) (by with_unfolding_all rfl))))
  (λ_ _ _ _=>(pv 0))) qc)))),?_⟩
  apply⟨l,ts,TI,h,n,rfl,o,e,λb H1 m p hb=>?_⟩;have s:=qfQ e h;show .inl ⟨⟨_,.of hb⟩,qx (xs:=ivs (bsN TI h)) (λi ys J=>J=H1/\ys=ivs (((bsN TI h).take i).filter λv=>decide (v∈ps))) ⟨rfl,by simp⟩ (λi ys J _ c=>by rw[c.1];show .of hb) (λi x ys J j a=>?_) λys J a=>?_⟩
  .obtain⟨rfl,rfl⟩:=a;rw[yd] at j;obtain⟨v,hv,rfl⟩:=ym.mp j;apply vInI (m _ _ c) ?_;ext;rw[qaX hv];show qI (λh=>?_) (λh=>?_)
   .ext;show⟨by rw[ya];show qg (qaO (by lk)),rfl,?_⟩;rw[yH h];show _=List.map iv _;rw[yt];rfl
   .show⟨rfl,?_⟩;rw[yB h,y6]
  .obtain⟨rfl,rfl⟩:=a;rw[jf (bsN TI h),yD];have hl:=yG (λv=>decide (v∈ps)) (bsN TI h);show⟨by rw[ya];show yI (qg (by lk)),λr d=>?_⟩;apply qaJ qb ?_;rw[jf];show q _ (qu m d)
theorem Up:FnScope wqp wqp (qf zr):=fS
theorem qbw{n:Addr}{Q:VK}(hn:H n=some (.lst (ss.map V.str)))(q:Q (.bl (decide (z∈ss))) H):qgl K false (.str z) (.ref n) H Q:=
 .inl ⟨n,_,rfl,.inl (.of hn),rfl,Yp.mpr λx a=>by(obtain⟨s,_,rfl⟩:=yE.mp a;rfl),by rw[yB (by decide),qfJ];show q⟩
theorem range_map(ss:LS):(List.range ss.length).map (λi=>ss.getD i "")=ss:=by
 apply List.ext_getElem?;intro i;rw[yd];by_cases h:i<ss.length
 .rw [Xv h,yb h];simp[List.getD,h]
 .rw [xl (by simpa using h),xl (by lk)];rfl
theorem tn_map(ss:LS):(List.range ss.length).map (tn ss)=ss:=range_map ss
theorem fil_tn(ss:LS)(q:Str->Bool):ss.filter q=((List.range ss.length).filter λi=>q (tn ss i)).map (tn ss):=by
 conv=>lhs;arg 2;rw[<- tn_map ss]
 rw[List.filter_map];rfl
def qcT(TI:List (Nat×Nat))(n s:Nat):LN:=(List.range n).filter λv=>@decide (RI TI s v) (Classical.propDecidable _)
theorem cmp_mem{TI:List (Nat×Nat)}{s v:Nat}:v∈qcT TI n s↔v<n/\RI TI s v:=by
 unfold qcT;rw[yo,Yu,@decide_eq_true_iff _ (Classical.propDecidable _)]
theorem qg0{TI:List (Nat×Nat)}{s:Nat}:(qcT TI n s).filter (λv=>decide (cl v=c))=nr TI cl n s c:=by
 unfold qcT nr;rw[List.filter_filter];show XJ λv _=>?_;rw[Ye,Yn,yJ,@decide_eq_true_iff _ (Classical.propDecidable _),@decide_eq_true_iff _ (Classical.propDecidable _)];show And.comm
theorem comp_eq{TI:List (Nat×Nat)}{k s:Nat}(hn:ss.Nodup)(c:BI ns TI)(b:ss[s]?=some y)(h:y∈qcs ss ns k):qcs ss ns k=(qcT TI ss.length s).map (tn ss):=by
 have e:=(yc.mp b).1;have d:ss.idxOf y=s:=ji hn (by rw[yb (Yj (ye b))];show congrArg some (Yy _)) b;unfold qcs at h ⊢;have a:=@yj _ (Classical.propDecidable _) (yo.mp h).2;rw[d,qeU c] at a;rw[fil_tn];unfold qcT
 congr 1
 show XJ λv hv=>?_;rw[qaL hn (Yu.mp hv),Ye,@decide_eq_true_iff _ (Classical.propDecidable _),@decide_eq_true_iff _ (Classical.propDecidable _),qeU c];show⟨λz=>a.symm.trans z,λz=>a.trans z⟩
theorem rep_has{TI:List (Nat×Nat)}{s:Nat}(hn:ss.Nodup)(e:BI ns TI)(d:ss[s]?=some y):∃ k,k∈qfd ns ss.length/\y∈qcs ss ns k:=by
 have i:=(yc.mp d).1;have g:ss.idxOf y=s:=ji hn (by rw[yb (Yj (ye d))];show congrArg some (Yy _)) d
 have f:∃ k,k<=s/\RI TI k s/\∀ j,j<k->¬ RI TI j s:=by
  have:∀ m,(∃ k,k<=m/\k<=s/\RI TI k s)->∃ k,k<=s/\RI TI k s/\∀ j,j<k->¬ RI TI j s:=λm=>by
   induction m with
   | zero=>rintro⟨k,h0,h1,a⟩;show⟨k,h1,a,λj b=>by lk⟩
   | succ m ih =>
    rintro⟨k,h0,h1,a⟩;by_cases z:∃ j,j<k/\RI TI j s
    .obtain⟨j,b,c⟩:=z;show ih ⟨j,by lk,by lk,c⟩
    .show⟨k,h1,a,λj b c=>z ⟨j,b,c⟩⟩
  show this s ⟨s,yg _,yg _,.refl⟩
 obtain⟨k,h1,a,h⟩:=f;show⟨k,?_,?_⟩
 .unfold qfd;show yo.mpr ⟨Yu.mpr (by lk),isRep_iff.mpr λj b c=>h j b (((qeU e).mp c).trans a)⟩
 .unfold qcs;show yo.mpr ⟨ye d,@decide_eq_true _ (Classical.propDecidable _) ?_⟩;rw[g];show(qeU e).mpr a
inductive spPw(cw:Addr)(vs:List V)(H:Hp)(Q:VK)(E:XK):Prop|mk (x:Addr) (ss:LS) (ns:LN) (TI:List (Nat×Nat)) (s:Nat) (y:Str) (_:vs=[.ref x,.str y]) (_:Wt cw H x ss ns (TI.map (nmP ss))) (_:TIok ss.length TI) (_:ss[s]?=some y) (_:∀(l:Addr) (H':Hp),L2.Same H H'->H l=none->H' l=some (.lst (((qcT TI ss.length s).map (tn ss)).map V.str))->Q (.ref l) H')
theorem ok_pw2(F:Fun K "piece_with" "piece_with" zr f fd)(T:Txt K mg cc cw)(S:wqqf 3 cw "pieces" wqs (spPcs cw)):wqqg 4 f fd wqp (spPw cw):=by
 show F.ok Up λ_ _ _ _ H vs Q E N h=>?_
 .obtain⟨x,ss,ns,TI,st,y,rfl,W,U,R,q⟩:=h;have e:=jJ N;have L:=W.bi U;have hn:=W.wok.nd;obtain⟨wx,d,ol,nn,hb,X,aa,Z,hw⟩:=id W.web;show⟨_,(qe (qm (qB (qC (K:=K) rfl e) (qG (sc:=qf zr) (XN:=wqp) ["piece","place"] 1 [1] rfl rfl rfl (by room) rfl (by room)
  (qF (K:=K) rfl (j6 S (hmR N) (pv 0))) (λ_ _ _ _=>(qo (i:=0) (show(["piece","place"]:LS).Nodup by room) rfl (yF rfl))) qE
  (λ_ _ _ _=>(qP (qp (qaC (K:=K) rfl e) (pv 1) (pv 0) (by with_unfolding_all rfl))))
  (λ_ _ _ _=>(pv 0))) qh (λ_ _=>rfl)))),?_⟩
  apply⟨x,wx,_,rfl,hb,zH (by room),?_⟩;apply⟨x,ss,ns,rfl,W.web,λl G H1 s1 Y hl t=>?_⟩
  have M:G.length<=14:=by
   rw[t.len,ya];unfold qfd;have:=yG (qe8 ns) (List.range ss.length);rw[Yh] at this;have:=W.wok.few;lk
  have cont:∀ i a,G[i]?=some a->∃ k,(qfd ns ss.length)[i]?=some k/\H a=none/\H1 a=some (.lst ((qcs ss ns k).map V.str)):=λi a g=>by
   have B:=(yc.mp g).1;rw[t.len,ya] at B;have I:=yb B;have:=t.at_ i a _ g (by rw[yd,I];rfl);show⟨_,I,this.1,this.2.2⟩
  show .inl ⟨⟨_,.of hl⟩,qx (xs:=G.map V.ref) (λi ys J=>J=H1/\∃ us:LI,ys=us.map V.ref/\us.length<=i/\(∀ u∈us,H u=none/\H1 u=some (.lst (((qcT TI ss.length st).map (tn ss)).map V.str)))/\(us=[]->∀ k∈(qfd ns ss.length).take i,y∉qcs ss ns k)) ⟨rfl,[],rfl,yg _,λu e=>(by cases e),λ_ k m=>by simp at m⟩ (λi ys J _ o=>by rw[o.1];show .of hl) (λi v ys J O o=>?_) λys J o=>?_⟩
  .obtain⟨rfl,us,rfl,s,c,b⟩:=o;rw[yd] at O;obtain⟨a,g,rfl⟩:=ym.mp O;have B:=(yc.mp g).1;obtain⟨k,m,A,j⟩:=cont i a g;apply qbw j ?_;apply qI (λh=>?_) (λh=>?_)
   .have C:=yj h;apply⟨by rw[ya];show qg (by lk),rfl,us++[a],by rw[yt];rfl,by rw[yx];show us.length+1<=i+1;lk,λu e=>?_,λz=>by simp at z⟩;rcases yK.mp e with z | z
    .show c u z
    .rw [yr.mp z,<- comp_eq hn L R C];show⟨A,j⟩
   .show⟨rfl,us,rfl,by lk,c,λz k' n=>?_⟩;rw[yL,m] at n;rcases yK.mp n with z' | z'
    .show b z k' z'
    .rw [yr.mp z'];show λz=>h (yv z)
  .obtain⟨rfl,us,rfl,s,c,b⟩:=o;rw[ya] at s b;obtain⟨k,m,D⟩:=rep_has hn L R
   cases us with
   | nil =>
    show absurd D (b rfl k ?_);rw[t.len,ya,yD];show m
   | cons u us =>
    show⟨by rw[ya];show yI (qg (by lk)),λr p=>?_⟩;apply .inl (qbW (i:=0) (v:=.ref u) qb (by unfold atI;rw[ya,show(0:Int)=((0:Nat):Int) from rfl,qbb (by simp)];rfl) ?_);have:=c u yC;show q u _ (qu s1 p) this.1 (qu (Sr J) p _ _ this.2)
theorem Ky:FnScope wqY wqf (qf jX):=fS
theorem uT:FnScope ["web","start","near"] wqf (qf qak):=fS
theorem str_nin{n:Addr}{Q:VK}(hn:H n=some (.lst (ss.map V.str)))(q:Q (.bl (!decide (z∈ss))) H):qgl K true (.str z) (.ref n) H Q:=
 .inl ⟨n,_,rfl,.inl (.of hn),rfl,Yp.mpr λx a=>by(obtain⟨s,_,rfl⟩:=yE.mp a;rfl),by rw[yH rfl,qfJ];show q⟩
theorem qg1{TI:List (Nat×Nat)}(hn:ss.Nodup)(d:TIok ss.length TI){a b:Str}(h:tA (TI.map (nmP ss)) a b):adjI TI (ss.idxOf a) (ss.idxOf b):=by
 have m:∀ x y,(x,y)∈TI.map (nmP ss)->(ss.idxOf x,ss.idxOf y)∈TI:=λx y h=>by
  obtain⟨p,c,e⟩:=yE.mp h;have k:=d.ok p c;cases e;rw[qaL hn (by lk),qaL hn k.2];show c
 show h.imp (m a b) (m b a)
theorem adj_tA{TI:List (Nat×Nat)}(h:adjI TI i j):tA (TI.map (nmP ss)) (tn ss i) (tn ss j):=
 h.imp (λz=>yE.mpr ⟨_,z,rfl⟩) λz=>yE.mpr ⟨_,z,rfl⟩
theorem ri_rc{TI:List (Nat×Nat)}(h:RI TI i j):Rc (tA (TI.map (nmP ss))) (tn ss i) (tn ss j):=by
 induction h with
 | refl=>show .refl
 | on _ t ih=>show ih.on (adj_tA t)
def qH(ss:LS)(l:LN):List V:=(l.map (tn ss)).map V.str
inductive spNS(cw:Addr)(far:Bool)(vs:List V)(H:Hp)(Q:VK)(E:XK):Prop|mk (x:Addr) (ss:LS) (ns:LN) (TI:List (Nat×Nat)) (s:Nat) (cl:Nat->Bool) (_:vs=[.ref x,.str (tn ss s)]) (_:Wt cw H x ss ns (TI.map (nmP ss))) (_:TIok ss.length TI) (_:s<ss.length) (_:(∀ a b,adjI TI a b->cl b=!cl a)) (_:∀(l:Addr) (H':Hp),L2.Same H H'->H l=none->H' l=some (.lst (qH ss (nr TI cl ss.length s (cl s ^^ far))))->Q (.ref l) H')
theorem qdf{v:Nat}{f:Nat->Bool}(h:L[i]?=some v):qH ss ((L.take (i+1)).filter f)=qH ss ((L.take i).filter f)++if f v=true then [V.str (tn ss v)] else []:=by
 unfold qH;rw[qaX h,yt,yt];split<;>rfl
theorem zl{x:V}(h:(qH ss L)[i]?=some x):∃ v,L[i]?=some v/\x=.str (tn ss v):=by
 unfold qH at h;rw[yd] at h;obtain⟨y,a,rfl⟩:=ym.mp h;rw[yd] at a;obtain⟨v,hv,rfl⟩:=ym.mp a;show⟨v,hv,rfl⟩
theorem qw(ss:LS)(L:LN):(qH ss L).length=L.length:=by unfold qH;rw[ya,ya]
theorem ok_nS(F:Fun K "near_side" "near_side" jX f fd)(T:Txt K mg cc cw)(Kk:wqqf 4 cw "number_of" wqe (spNum cw))(ux:wqqe 9 "sides_of" ["web"] (spSd cw))(KG:wqqe 4 "piece_with" wqp (spPw cw)):wqqg 10 f fd wqf (spNS cw false):=by
 show F.ok Ky λ_ _ _ s H vs Q E g h=>?_
 .obtain⟨x,ss,ns,TI,st,cl,rfl,W,U,I,hC,q⟩:=h;have B:=jJ g;have hn:=W.wok.nd;have few:=W.wok.few;have A:=qaD I;obtain⟨wx,dd,ol,nn,hb,_⟩:=id W.web;show⟨_,(qd (qK (qZ Kk (hmR g) (pv 0) (qa (pv 1) qc)))
 (qd (qq (i:=2) Ky.nd rfl (yF rfl) (qi ux (hmR g) qr (qa (pv 0) qc)))
 (qd (qq (i:=3) Ky.nd rfl (Xl rfl) (qbS (qp (qaC (K:=K) rfl B) (pv 1) (qB (qC (K:=K) rfl B) (pv 2) qh (λ_ _=>rfl)) (by with_unfolding_all rfl)) (qB (qC (K:=K) rfl B) (pv 2) qh (λ_ _=>rfl)) (qB (qC (K:=K) rfl B) (pv 2) qh (λ_ _=>rfl))))
 (qe (qm (qG (sc:=qf jX) (XN:=wqY) wqqa 1 [3] rfl rfl rfl (by room) rfl (by room)
  (qF (K:=K) rfl (qi KG (hmR g) qr (qa (pv 0) (qa (pv 1) qc)))) (λ_ _ _ _=>(qo (i:=0) (show(wqqa:LS).Nodup by room) rfl (yF rfl))) qE
  (λ_ _ _ _=>(qP (qp (qaC (K:=K) rfl B) (pv 0) (pv 1) (by with_unfolding_all rfl))))
  (λ_ _ _ _=>(pv 0)))))))),?_⟩
  apply⟨x,wx,_,rfl,hb,zH (by room),?_⟩;apply⟨x,ss,ns,tn ss st,st,rfl,W.web,A,λH1 Y=>?_⟩;apply⟨x,ss,ns,_,λz=>cl (ss.idxOf z),rfl,W.same Y,λa b h=>hC _ _ (qg1 hn U h),λd t R X H2 s2 hd N h1 h2=>?_⟩;have D:=Y.trans s2;have m:(tn ss st∈ss.filter d)↔d (tn ss st)=true:=by rw[yo];show⟨λz=>z.2,λz=>⟨jP I,z⟩⟩
  have same:∀ v,v∈qcT TI ss.length st->(d (tn ss v)=d (tn ss st)↔cl v=cl st):=λv hv=>by
   obtain⟨O,g⟩:=cmp_mem.mp hv;have:=hd (tn ss st) (tn ss v) (jP I) (ri_rc g);rw[qaL hn I,qaL hn O] at this;show⟨λz=>(this.mp z.symm).symm,λz=>(this.mpr z.symm).symm⟩
  have S:(qcT TI ss.length st).length<=14:=by
   unfold qcT;show yh (yG _ _) ?_;rw[Yh];show few
  have j:∀(o:Addr) (f:Str->Bool),H2 o=some (.lst ((ss.filter f).map V.str))->(∀ v∈qcT TI ss.length st,f (tn ss v)=decide (cl v=(cl st ^^ false)))->qhW (qgj (qhQ K (qe1 (spPw cw) [] E0 (qO (qd1 0) (qO (qd1 1) qbT)))) (qcB 0) (qgf (tOp (qgl K false) (qd1 0) (qd1 1))) (qd1 0) 1 [3]) { nx:=λ_ H'=>Q V.non H',rt:=Q } [some (.ref x),some (.str (tn ss st)),some (.ref t),some (.ref o)] H2:=λo f eo ef=>by
   apply⟨x,ss,ns,TI,st,_,rfl,W.same D,U,A,λl H3 Z aa hl=>?_⟩;have G:=D.trans Z;have M:=Z _ _ eo;show .inl ⟨⟨_,.of hl⟩,qx (xs:=qH ss (qcT TI ss.length st)) (λi ys J=>J=H3/\ys=qH ss (((qcT TI ss.length st).take i).filter λv=>decide (cl v=(cl st ^^ false)))) ⟨rfl,by simp[qH]⟩ (λi ys J _ p=>by rw[p.1];show .of hl) (λi y ys J hy p=>?_) λys J p=>?_⟩
   .obtain⟨rfl,rfl⟩:=p;obtain⟨v,hv,rfl⟩:=zl hy;have C:=ye hv;apply qbw M ?_
    have e:decide (tn ss v∈ss.filter f)=decide (cl v=(cl st ^^ false)):=by
     rw[<- ef v C,Ye,yJ,yo];show⟨λz=>z.2,λz=>⟨jP (cmp_mem.mp C).1,z⟩⟩
    rw[e];ext;rw[qdf hv];show qI (λh=>?_) (λh=>?_)
    .ext;show⟨by rw[qw];show qg (qaO (by lk)),rfl,?_⟩;rw[yH h]
    .show⟨rfl,?_⟩;rw[yB h,y6]
   .obtain⟨rfl,rfl⟩:=p;rw[qw (L:=qcT TI ss.length st),yD,qg0];have nl:=qa3 (n:=ss.length) (TI:=TI) (cl:=cl) (s:=st) (c:=(cl st ^^ false));show⟨by rw[qw];show yI (qg (by lk)),λr u=>?_⟩;show q r _ (qu G u) (G.free u) qb
  apply .inl (qcC N (v:=.ref R) rfl ?_);show qbw h1 ?_;apply qI (λh=>?_) (λh=>?_)
  .have e:=m.mp (yj h);apply .inl (qcC N (v:=.ref R) rfl ?_);show j R d h1 λv hv=>?_;rw[YS,Ye,yJ,<- same v hv,e]
  .have e:d (tn ss st)=false:=by
    cases z:d (tn ss st) with
    | false=>rfl
    | true=>show absurd (yv (m.mpr z)) h
   apply .inl (qcC N (v:=.ref X) rfl ?_);show j X (λs=>!d s) h2 λv hv=>?_;rw[YS,Ye,yJ,<- same v hv,e];cases d (tn ss v)<;>decide
theorem ok_fS(F:Fun K "far_side" "far_side" qak f fd)(T:Txt K mg cc cw)(U:wqqe 10 "near_side" wqf (spNS cw false))(S:wqqe 4 "piece_with" wqp (spPw cw)):wqqg 11 f fd wqf (spNS cw true):=by
 show F.ok uT λ_ _ _ s H vs Q E d h=>?_
 .obtain⟨x,ss,ns,TI,st,cl,rfl,W,G,M,X,q⟩:=h;have B:=jJ d;have hn:=W.wok.nd;have few:=W.wok.few;have A:=qaD M
  have D:(qcT TI ss.length st).length<=14:=by
   unfold qcT;show yh (yG _ _) ?_;rw[Yh];show few
  show⟨_,(qd (qq (i:=2) uT.nd rfl (Xl rfl) (qi U (hmR d) qr (qa (pv 0) (qa (pv 1) qc))))
 (qe (qm (qG (sc:=qf qak) (XN:=["web","start","near"]) ["place","near"] 1 [2] rfl rfl rfl (by room) rfl (by room)
  (qF (K:=K) rfl (qi S (hmR d) qr (qa (pv 0) (qa (pv 1) qc)))) (λ_ _ _ _=>(qo (i:=0) (show(["place","near"]:LS).Nodup by room) rfl (yF rfl))) qE
  (λ_ _ _ _=>(qP (qp (zO (K:=K) rfl B) (pv 0) (pv 1) (by with_unfolding_all rfl))))
  (λ_ _ _ _=>(pv 0)))))),?_⟩
  apply⟨x,ss,ns,TI,st,cl,rfl,W,G,M,X,λo H2 N Z I=>?_⟩;rw[YS] at I;ext
  .show⟨x,ss,ns,TI,st,_,rfl,W.same N,G,A,λl R O Y hl=>?_⟩;have m:=N.trans O;have p:=O _ _ I;show .inl ⟨⟨_,.of hl⟩,qx (xs:=qH ss (qcT TI ss.length st)) (λi ys J=>J=R/\ys=qH ss (((qcT TI ss.length st).take i).filter λv=>decide (cl v=(cl st ^^ true)))) ⟨rfl,by simp[qH]⟩ (λi ys J _ b=>by rw[b.1];show .of hl) (λi y ys J hy b=>?_) λys J b=>?_⟩
   .obtain⟨rfl,rfl⟩:=b;obtain⟨v,hv,rfl⟩:=zl hy;have C:=ye hv;apply str_nin p ?_
    have e:(!decide (tn ss v∈(nr TI cl ss.length st (cl st)).map (tn ss)))=decide (cl v=(cl st ^^ true)):=by
     obtain⟨j,d⟩:=cmp_mem.mp C;rw[Ye,xQ,Xd,yJ,yE,Xz];constructor
     .intro z;cases h1:cl v<;>cases t:cl st<;>first | rfl | show absurd ⟨v,nr_mem.mpr ⟨j,d,h1.trans t.symm⟩,rfl⟩ z
     .rintro z ⟨u,B,e⟩;have a:=nr_mem.mp B;rw[jZ hn a.1 j e,z] at a;have:=a.2.2;cases t:cl st<;>rw[t] at this<;>cases this
    rw[e];ext;rw[qdf hv];show qI (λh=>?_) (λh=>?_)
    .ext;show⟨by rw[qw];show qg (qaO (by lk)),rfl,?_⟩;rw[yH h]
    .show⟨rfl,?_⟩;rw[yB h,y6]
   .obtain⟨rfl,rfl⟩:=b;rw[qw (L:=qcT TI ss.length st),yD,qg0];have nl:=qa3 (n:=ss.length) (TI:=TI) (cl:=cl) (s:=st) (c:=(cl st ^^ true));show⟨by rw[qw];show yI (qg (by lk)),λr g=>?_⟩;show q r _ (qu m g) (m.free g) qb
theorem uD:FnScope wqy wqy (qf jc):=fS
theorem UD:FnScope wqv wqv (qf qal):=fS
theorem UT:FnScope wqp wqp (qf qb7):=fS
inductive spBe(cw:Addr)(vs:List V)(H:Hp)(Q:VK)(E:XK):Prop|mk (x l:Addr) (ss:LS) (ns:LN) (TI:List (Nat×Nat)) (L:LN) (_:vs=[.ref x,.ref l]) (_:Wt cw H x ss ns (TI.map (nmP ss))) (_:TIok ss.length TI) (_:H l=some (.lst (qH ss L))) (_:L.length<=14) (_:(∀ v∈L,v<ss.length)) (_:∀(b:Addr) (H':Hp),L2.Same H H'->H b=none->H' b=some (.lst (ivs (L.map (qaE TI))))->Q (.ref b) H')
inductive spNa(vs:List V)(H:Hp)(Q:VK)(E:XK):Prop|mk (l m:Addr) (ss:LS) (L P:LN) (_:vs=[.ref l,.ref m]) (_:H l=some (.lst (qH ss L))) (_:H m=some (.lst (ivs P))) (_:P.length<=100) (_:(∀ i∈P,i<L.length)) (_:∀(b:Addr) (H':Hp),L2.Same H H'->H b=none->H' b=some (.lst (qH ss (P.map λi=>L.getD i 0)))->Q (.ref b) H')
inductive spBi(cw:Addr)(vs:List V)(H:Hp)(Q:VK)(E:XK):Prop|mk (x:Addr) (ss:LS) (ns:LN) (s:Nat) (_:vs=[.ref x,.str (tn ss s)]) (_:WebAt cw H x ss ns) (_:s<ss.length) (_:ss.length<=14) (_:∀ H',L2.Same H H'->Q (iv (1 <<< s)) H')
theorem ok_be(F:Fun K "bits_beside_each" "bits_beside_each" jc f fd)(T:Txt K mg cc cw)(m:wqqf 5 cw "bits_beside" wqe (spBB cw)):wqqg 6 f fd wqy (spBe cw):=by
 show F.ok uD λ_ _ _ _ H vs Q E j h=>?_
 .obtain⟨x,l,ss,ns,TI,L,rfl,W,g,hl,n,o,q⟩:=h;have z:=jJ j;show⟨_,(qe (qm (qG (sc:=qf jc) (XN:=wqy) ["place","web"] 1 [0] rfl rfl rfl (by room) rfl (by room)
  (qF (K:=K) rfl (pv 1)) (λ_ _ _ _=>(qo (i:=0) (show(["place","web"]:LS).Nodup by room) rfl (yF rfl))) qE
  (λ_ _ _ _=>jh)
  (λ_ _ _ _=>(qZ m (hmR j) (pv 1) (qa (pv 0) qc)))))),?_⟩
  apply .inl ⟨⟨_,.of hl⟩,qx (xs:=qH ss L) (λi ys J=>L2.Same H J/\ys=ivs ((L.take i).map (qaE TI))) ⟨L2.Same.refl H,by simp⟩ (λi ys J _ a=>.of (a.1 _ _ hl)) (λi y ys J p a=>?_) λys J a=>?_⟩
  .obtain⟨c,rfl⟩:=a;obtain⟨v,hv,rfl⟩:=zl p;have d:=o v (ye hv);have e:=W.same c;obtain⟨t,u,ol,A,hb,_⟩:=id e.web;apply jp ?_;apply⟨x,t,_,rfl,hb,zH (by room),?_⟩;apply⟨x,ss,ns,tn ss v,v,rfl,e.web,qaD d,λH1 s=>?_⟩;rw[(W.bi g).col g v];show⟨by rw[ya,ya,yN];show qg (by lk),c.trans s,?_⟩;rw[yL,hv,yt];show _=List.map iv _;rw[yt];rfl
  .obtain⟨c,rfl⟩:=a;rw[qw ss L,yD];show⟨by rw[ya,ya];show yI (qg (by lk)),λr b=>?_⟩;show q r _ (qu c b) (c.free b) qb
theorem ok_na(F:Fun K "names_at" "names_at" qal f fd)(T:Txt K mg cc cw):wqqg 1 f fd wqv spNa:=by
 show F.ok UD λ_ _ _ _ H vs Q E j h=>?_
 .obtain⟨l,m,ss,L,N,rfl,hl,hm,d,g,q⟩:=h;have n:=jJ j;show⟨_,(qe (qm (qG (sc:=qf qal) (XN:=wqv) ["number","names"] 1 [0] rfl rfl rfl (by room) rfl (by room)
  (qF (K:=K) rfl (pv 1)) (λ_ _ _ _=>(qo (i:=0) (show(["number","names"]:LS).Nodup by room) rfl (yF rfl))) qE
  (λ_ _ _ _=>jh)
  (λ_ _ _ _=>(qB (qC (K:=K) rfl n) (pv 1) (pv 0) (λ_ _=>rfl)))))),?_⟩
  apply .inl ⟨⟨_,.of hm⟩,qx (xs:=ivs N) (λi ys J=>J=H/\ys=qH ss ((N.take i).map λi=>L.getD i 0)) ⟨rfl,by simp[qH]⟩ (λi ys J _ a=>by rw[a.1];show .of hm) (λi y ys J e a=>?_) λys J a=>?_⟩
  .obtain⟨rfl,rfl⟩:=a;rw[yd] at e;obtain⟨v,hv,rfl⟩:=ym.mp e;have c:=g v (ye hv);apply jp ?_;ext
   show .inl (qbW hl (v:=.str (tn ss (L.getD v 0))) (by
    unfold atI;rw[qw,qbb c];show(qH ss L)[v]?=_;unfold qH;rw[yd,yd,yY,yb c];rfl) ?_)
   show⟨by rw[qw,ya,yN];show qg (by lk),rfl,?_⟩;unfold qH;rw[yL,hv,yt,yt,yt];rfl
  .obtain⟨rfl,rfl⟩:=a;rw[jf N,yD];show⟨by rw[qw,ya];show yI (qg (by lk)),λr b=>?_⟩;show q r _ (qu (Sr _) b) b qb
theorem ok_bi(F:Fun K "bit_of" "bit_of" qb7 f fd)(T:Txt K mg cc cw)(b:wqqf 4 cw "number_of" wqe (spNum cw)):wqqg 5 f fd wqp (spBi cw):=by
 show F.ok UT λ_ _ _ _ H vs Q E a h=>?_
 .obtain⟨x,ss,ns,st,rfl,W,d,c,q⟩:=h;have l:=jJ a;obtain⟨i,j,ol,m,hb,_⟩:=id W;show⟨_,(qe (qm (qz qdv qh (qZ b (hmR a) (pv 0) (qa (pv 1) qc))))),?_⟩;apply⟨x,i,_,rfl,hb,zH (by room),?_⟩;apply⟨x,ss,ns,tn ss st,st,rfl,W,qaD d,λH1 g=>?_⟩;show vI ⟨by lk,by lk,by decide⟩ ?_
  have e:V.int (1*2 ^ (st:Int).toNat)=iv (1 <<< st):=by
   show V.int _=V.int _
   congr 1
   rw[Ym,Nat.shiftLeft_eq];simp
  rw[e];show q H1 g
theorem Km:FnScope wqi wqf (qf jH):=fS
theorem qfY{x:V}{b:Bool}{Q:VK}(e:decide (x=.non)=b)(q:Q (.bl b) H):qh3 x .non H Q:=by subst e;cases x<;>show q
theorem qfZ(a b:Str):eqV (.str a) (.str b)=decide (a=b):=by
 unfold eqV;by_cases h:a=b<;>simp[h]
theorem qis{i j:Str}{Q:VK}(q:Q (.bl (decide (i=j))) H):qgG K (.str i) (.str j) H Q:=.inl (.inl (.inl ⟨rfl,rfl,by rw[yB (by decide),qfZ];show q⟩))
theorem qhU{i j:Str}{Q:VK}(q:Q (.bl (!decide (i=j))) H):qhd K true (.str i) (.str j) H Q:=.inl ⟨rfl,rfl,by rw[yH rfl,qfZ];show q⟩
theorem qgq{TI:List (Nat×Nat)}(b:TIok n TI)(a:n<=14)(v:Nat):qaE TI v<2 ^ 30:=yi (qfR b v) (YR (by decide) (by lk))
inductive spEs(cw:Addr)(vs:List V)(H:Hp)(Q:VK)(E:XK):Prop|mk (x:Addr) (ss:LS) (ns:LN) (TI:List (Nat×Nat)) (s:Nat) (cl:Nat->Bool) (_:vs=[.ref x,.str (tn ss s)]) (_:Wt cw H x ss ns (TI.map (nmP ss))) (_:TIok ss.length TI) (_:s<ss.length) (_:(∀ a b,adjI TI a b->cl b=!cl a)) (_:(Lst TI cl ss.length s->∀(l:Addr) (L:LN) (H':Hp),L2.Same H H'->H l=none->H' l=some (.lst (qH ss L))->L.Sublist (nr TI cl ss.length s (cl s))->Q (.ref l) H')) (_:(¬ Lst TI cl ss.length s->∀ H',L2.Same H H'->Q .non H'))
theorem ok_es(F:Fun K "even_set" "even_set" jH f fd)(T:Txt K mg cc cw)(Kx:wqqe 10 "near_side" wqf (spNS cw false))(KY:wqqe 5 "picks" wqJ spPk)(Kj:wqqe 6 "bits_beside_each" wqy (spBe cw))(Kz:wqqe 1 "names_at" wqv spNa)(Kl:wqqf 5 cw "bits_beside" wqe (spBB cw)):wqqg 11 f fd wqf (spEs cw):=by
 show F.ok Km λ_ _ _ s H vs Q E g h=>?_
 .obtain⟨x,ss,ns,TI,st,cl,rfl,W,e,U,hC,q1,q2⟩:=h;have X:=jJ g;have hn:=W.wok.nd;have few:=W.wok.few;have nl:=qa3 (n:=ss.length) (TI:=TI) (cl:=cl) (s:=st) (c:=cl st);have eo:((nr TI cl ss.length st (cl st)).filter λv=>!decide (v=st))=oth TI cl ss.length st:=rfl;have ol:(oth TI cl ss.length st).length<=ss.length:=yh (yG _ _) nl;show⟨_,(qd (qq (i:=2) Km.nd rfl (yF rfl) (qi Kx (hmR g) qr (qa (pv 0) (qa (pv 1) qc))))
 (qd (qbE (sc:=qf jH) (XN:=wqi) wq3 1 [1] rfl rfl rfl (by room) rfl (by room) (i:=3) Km.nd rfl rfl
  (qF (K:=K) rfl (pv 2)) (λ_ _ _ _=>(qo (i:=0) (show(wq3:LS).Nodup by room) rfl (yF rfl))) qE
  (λ_ _ _ _=>(qP (qp (qaK (K:=K) rfl X) (pv 0) (pv 1) (qv _))))
  (λ_ _ _ _=>(pv 0)))
 (qd (qq (i:=4) Km.nd rfl (yF rfl) (qi KY (hmR g) qr (qa (qi Kj (hmR g) qr (qa (pv 0) (qa (pv 3) qc))) (qa (qZ Kl (hmR g) (pv 0) (qa (pv 1) qc)) qc))))
 (qd (qJ (qp qig (pv 4) jI (qv _)) (qe (qm jI)) qt)
 (qd (qq (i:=5) Km.nd rfl (Xl rfl) (qi Kz (hmR g) qr (qa (pv 3) (qa (pv 4) qc))))
 (qe (qm (qG (sc:=qf jH) (XN:=wqi) wqM 1 [1,5] rfl rfl rfl (by room) rfl (by room)
  (qF (K:=K) rfl (pv 2)) (λ_ _ _ _=>(qo (i:=0) (show(wqM:LS).Nodup by room) rfl (yF rfl))) qE
  (λ_ _ _ _=>(qP (PW.pt (zU (qp (zA (K:=K) rfl X) (pv 0) (pv 1) (qv _)) (zu (qp (qaC (K:=K) rfl X) (pv 0) (pv 2) (by with_unfolding_all rfl)))))))
  (λ_ _ _ _=>(pv 0)))))))))),?_⟩
  apply⟨x,ss,ns,TI,st,cl,rfl,W,e,U,hC,λo H2 s2 ad M=>?_⟩;rw[YS] at M;apply .inl ⟨⟨_,.of M⟩,qx (xs:=qH ss (nr TI cl ss.length st (cl st))) (λi ys J=>J=H2/\ys=qH ss (((nr TI cl ss.length st (cl st)).take i).filter λv=>!decide (v=st))) ⟨rfl,by simp[qH]⟩ (λi ys J _ a=>by rw[a.1];show .of M) (λi y ys J Z a=>?_) λys J a=>?_⟩
  .obtain⟨rfl,rfl⟩:=a;obtain⟨v,hv,rfl⟩:=zl Z;have Y:=nr_mem.mp (ye hv);apply qhU ?_;rw[show(!decide (tn ss v=tn ss st))=!decide (v=st) by congr 1;show Yc.mpr ⟨λz=>jZ hn Y.1 U z,λz=>by rw[z]⟩,qdf hv];apply qI (λh=>?_) (λh=>?_)
   .ext;show⟨by rw[qw];show qg (qaO (by lk)),rfl,?_⟩;rw[yH h]
   .show⟨rfl,?_⟩;rw[yB h,y6]
  .obtain⟨rfl,rfl⟩:=a;rw[qw (L:=nr TI cl ss.length st (cl st)),yD,eo];show⟨by rw[qw];show yI (qg (by lk)),λr q=>?_⟩;have s3:=qu s2 (o:=.lst (qH ss (oth TI cl ss.length st))) q;have j:=qu (Sr J) (o:=.lst (qH ss (oth TI cl ss.length st))) q _ _ M;have O:upd J r (.lst (qH ss (oth TI cl ss.length st))) r=some (.lst (qH ss (oth TI cl ss.length st))):=qb;generalize upd J r (.lst (qH ss (oth TI cl ss.length st)))=J2 at s3 j O;apply⟨x,r,ss,ns,TI,_,rfl,W.same s3,e,O,by lk,λv hv=>(oth_mem.mp hv).1.1,λb H4 s4 aa hb=>?_⟩;have C:=s3.trans s4;ext;have W4:=W.same C;obtain⟨wx,dd,ae,nn,R,_⟩:=id W4.web;show⟨x,wx,_,rfl,R,zH (by room),?_⟩;apply⟨x,ss,ns,tn ss st,st,rfl,W4.web,qaD U,λH5 s5=>?_⟩;rw[(W.bi e).col e st];have D:=C.trans s5;have hg:GoodL H5 b ((oth TI cl ss.length st).map (qaE TI)):=⟨s5 _ _ hb,by rw[ya];lk,λv hv=>by obtain⟨u,_,rfl⟩:=yE.mp hv;show qgq e few u⟩;show⟨b,_,_,rfl,hg,qgq e few st,λS H6 N=>?_,λA l H6 N ac hl=>?_⟩
   .ext;show qfY (b:=true) (by decide) ?_;apply jp ?_;apply q2 S _ (D.trans N)
   .ext;show qfY (b:=false) (yk λz=>by cases z) ?_;apply yp ?_;ext;have I:=s5.trans N;have G:=D.trans N;show⟨r,l,ss,_,_,rfl,I _ _ (s4 _ _ O),hl,?_,?_,λc H7 s7 ab hc=>?_⟩
    .unfold pkL;show yh (yG _ _) ?_;rw[Yh,ya];lk
    .intro i hi;unfold pkL at hi;have:=Yu.mp (yo.mp hi).1
     rwa[ya] at this
    .ext;have p:=s7 _ _ (I _ _ (s4 _ _ j));show .inl ⟨⟨_,.of p⟩,qx (xs:=qH ss (nr TI cl ss.length st (cl st))) (λi ys J=>J=H7/\∃ L:LN,ys=qH ss L/\L.Sublist ((nr TI cl ss.length st (cl st)).take i)) ⟨rfl,[],rfl,.slnil⟩ (λi ys J _ a=>by rw[a.1];show .of p) (λi y ys J Z a=>?_) λys J a=>?_⟩
     .obtain⟨rfl,L,rfl,d⟩:=a;obtain⟨v,hv,rfl⟩:=zl Z;have m:=d.length_le;rw[yN] at m;have B:(L++[v]).Sublist ((nr TI cl ss.length st (cl st)).take (i+1)):=by rw[yL,hv];show d.append (.refl _)
      have sL:L.Sublist ((nr TI cl ss.length st (cl st)).take (i+1)):=d.trans (List.take_sublist_take_left (YO i));have eL:qH ss L++[V.str (tn ss v)]=qH ss (L++[v]):=by unfold qH;rw[yt,yt];rfl
      apply qis ?_;apply qI (λh=>?_) (λh=>?_)
      .show jp ?_;apply⟨by rw[qw];show qg (by lk),rfl,_,eL,B⟩
      .ext;show qbw hc ?_;apply qI (λh=>?_) (λh=>?_)
       .ext;show⟨by rw[qw];show qg (by lk),rfl,_,eL,B⟩
       .show⟨rfl,L,rfl,sL⟩
     .obtain⟨rfl,L,rfl,d⟩:=a;rw[qw,yD] at d;have m:=d.length_le;show⟨by rw[qw];show yI (qg (by lk)),λr2 t=>?_⟩;show q1 A _ L _ (qu (G.trans s7) t) ((G.trans s7).free t) qb d
theorem KC:FnScope ["web","start","even","far"] wqf (qf qam):=fS
inductive spTd(cw:Addr)(vs:List V)(H:Hp)(Q:VK)(E:XK):Prop|mk (x:Addr) (ss:LS) (ns:LN) (TI:List (Nat×Nat)) (s:Nat) (cl:Nat->Bool) (_:vs=[.ref x,.str (tn ss s)]) (_:Wt cw H x ss ns (TI.map (nmP ss))) (_:TIok ss.length TI) (_:s<ss.length) (_:(∀ a b,adjI TI a b->cl b=!cl a)) (_:∀(b:Bool) (l t:Addr) (L:LN) (H':Hp),L2.Same H H'->(b=true↔Lst TI cl ss.length s)->H l=none->H' l=some (.lst (qH ss L))->L.length<=14->(∀ v∈L,v<ss.length)->H' t=some (.tup [.str (if b=true then "lost" else "won"),.ref l])->Q (.ref t) H')
theorem ok_td(F:Fun K "told_set" "told_set" qam f fd)(T:Txt K mg cc cw)(uy:wqqe 11 "even_set" wqf (spEs cw))(X:wqqe 11 "far_side" wqf (spNS cw true))(Kz:wqqe 1 "names_at" wqv spNa)(Y:wqqe 5 "picks" wqJ spPk)(Z:wqqe 6 "bits_beside_each" wqy (spBe cw))(U:wqqe 5 "bit_of" wqp (spBi cw)):wqqg 12 f fd wqf (spTd cw):=by
 show F.ok KC λ_ _ _ s H vs Q E d h=>?_
 .obtain⟨x,ss,ns,TI,st,cl,rfl,W,e,y,B,q⟩:=h;have hu:=jJ d;have few:=W.wok.few;have nl:=qa3 (n:=ss.length) (TI:=TI) (cl:=cl) (s:=st) (c:=(cl st ^^ true));show⟨_,(qd (qq (i:=2) KC.nd rfl (yF rfl) (qi uy (hmR d) qr (qa (pv 0) (qa (pv 1) qc))))
 (qd (qJ (qp qfe (pv 2) jI (qv _)) (qe (qm (q8 (qa jg (qa (pv 2) qc))))) qt)
 (qd (qq (i:=3) KC.nd rfl (yF rfl) (qi X (hmR d) qr (qa (pv 0) (qa (pv 1) qc))))
 (qe (qm (q8 (qa jg (qa (qi Kz (hmR d) qr (qa (pv 3) (qa (qi Y (hmR d) qr (qa (qi Z (hmR d) qr (qa (pv 0) (qa (pv 3) qc))) (qa (qi U (hmR d) qr (qa (pv 0) (qa (pv 1) qc))) qc))) qc))) qc)))))))),?_⟩
  apply⟨x,ss,ns,TI,st,cl,rfl,W,e,y,B,λhl l L H1 A l0 el O=>?_,λg H1 A=>?_⟩
  .ext;show⟨rfl,true,rfl,?_⟩;show jp ?_;apply⟨wqqk,λt j=>?_⟩;have ll:=O.length_le;have ln:=qa3 (n:=ss.length) (TI:=TI) (cl:=cl) (s:=st) (c:=cl st);show q true _ t L _ (qu A j) ⟨λ_=>hl,λ_=>rfl⟩ l0 (qu (Sr H1) j _ _ el) (by lk) (λv hv=>(nr_mem.mp (O.subset hv)).1) qb
  .ext;show⟨rfl,false,rfl,?_⟩;show yp ?_;apply⟨x,ss,ns,TI,st,cl,rfl,W.same A,e,y,B,λo H2 s2 ac M=>?_⟩;have m:=A.trans s2;apply⟨x,o,ss,ns,TI,_,rfl,W.same m,e,M,by lk,λv hv=>(nr_mem.mp hv).1,λb H3 N aa hb=>?_⟩;have p:=m.trans N;apply⟨x,ss,ns,st,rfl,(W.same p).web,y,few,λR I=>?_⟩;have r:=p.trans I;have hg:GoodL R b ((nr TI cl ss.length st (cl st ^^ true)).map (qaE TI)):=⟨I _ _ hb,by rw[ya];lk,λv hv=>by obtain⟨u,_,rfl⟩:=yE.mp hv;show qgq e few u⟩;have D:Spn ((nr TI cl ss.length st (cl st ^^ true)).map (qaE TI)) (1 <<< st):=by rw[Xz];show far_spn e B y g
   show⟨b,_,_,rfl,hg,?_,λhn=>absurd D hn,λ_ l H5 J ab hl=>?_⟩
   .rw [kI];show Xo (by decide) (by lk)
   .have G:=N.trans (I.trans J);show⟨o,l,ss,_,_,rfl,G _ _ M,hl,?_,?_,λc S s7 C hc=>?_⟩
    .unfold pkL;show yh (yG _ _) ?_;rw[Yh,ya];lk
    .intro i a;unfold pkL at a;have:=Yu.mp (yo.mp a).1
     rwa[ya] at this
    .show⟨wqqk,λt j=>?_⟩;show q false _ t _ _ (qu ((r.trans J).trans s7) j) ⟨(λz=>by cases z),λz=>absurd z g⟩ ((r.trans J).free C) (qu (Sr S) j _ _ hc) ?_ (λv hv=>?_) qb
     .rw [ya];unfold pkL;show yh (yG _ _) ?_;rw[Yh,ya];lk
     .obtain⟨i,a,rfl⟩:=yE.mp hv;unfold pkL at a;have a:=Yu.mp (yo.mp a).1;rw[ya] at a;rw[yY,yb a];show(nr_mem.mp (Xb a)).1
def qgb(seen:LS):List (Key×V):=seen.map λs=>(.inr s,.bl true)
theorem qcx(y:Str):∀ seen:LS,(qab (qgb seen) (.inr y:Key)).isSome=decide (y∈seen)
 | []=>rfl
 | s::r=>by
  by_cases e:s=y
  .subst e;show(qab (((.inr s:Key),V.bl true)::qgb r) _).isSome=_;rw[yv (by simp)];simp[qab]
  .show(qab (((.inr s:Key),V.bl true)::qgb r) _).isSome=_;rw[jv (p:=((.inr s:Key),V.bl true)) (λz=>e (kz z)),qcx y r];apply Yc.mpr;simp[Yv e]
theorem yesK_put{seen:LS}(h:y∉seen):qa6 (qgb seen) (.inr y:Key) (.bl true)=qgb (seen++[y]):=by
 have:qab (qgb seen) (.inr y:Key)=none:=by
  have:=qcx y seen;rw[yk h] at this;show Option.isNone_iff_eq_none.mp (by rw[<- Option.not_isSome,this];rfl)
 rw[qcY _ this];unfold qgb;rw[yt];rfl
def pt:LP->Str->Option Str
 | [],_=>none
 | q::r,s=>if q.1=s then some q.2 else if q.2=s then some q.1 else pt r s
def qan:V->Bool
 | .str x=>jx x
 | _=>false
def qbK:V->Str
 | .str x=>x
 | _=>""
theorem qbx{x:V}(h:qan x=true):x=.str (qbK x)/\jx (qbK x)=true/\(qbK x).length<=6:=by
 cases x with
 | str y =>
  show⟨rfl,h,?_⟩;have h':jx y=true:=h;unfold jx at h';split at h'
  .rename_i z;show z.2
  .cases h'
 | _=>cases h
inductive Th(p:Addr)(H:Hp):Nat->V->Prop
 | flat {n:Nat} {v:V} (f:qaI v=true) (l:∀ s,v=.str s->s.length<=100000):Th p H n v
 | lst {n:Nat} {a:Addr} {xs:List V} (e:H a=some (.lst xs)) (ne:a≠p) (h:∀ x∈xs,Th p H n x) (l:xs.length<=1000):Th p H (n+1) (.ref a)
 | tup {n:Nat} {a:Addr} {xs:List V} (e:H a=some (.tup xs)) (ne:a≠p) (h:∀ x∈xs,Th p H n x) (l:xs.length<=1000):Th p H (n+1) (.ref a)
 | dct {n:Nat} {a:Addr} {kvs:List (Key×V)} (e:H a=some (.dK kvs)) (ne:a≠p):Th p H n (.ref a)
theorem Th.mono:∀{n:Nat} {v:V},Th p H n v->Th p H (n+1) v
 | _,_,.flat f l=>.flat f l
 | _,_,.lst e ne h l=>.lst e ne (λx a=>(h x a).mono) l
 | _,_,.tup e ne h l=>.tup e ne (λx a=>(h x a).mono) l
 | _,_,.dct e ne=>.dct e ne
theorem Th.keep(k:∀ b o,b≠p->H b=some o->H' b=some o):∀{n:Nat} {v:V},Th p H n v->Th p H' n v
 | _,_,.flat f l=>.flat f l
 | _,_,.lst e ne h l=>.lst (k _ _ ne e) ne (λx a=>(h x a).keep k) l
 | _,_,.tup e ne h l=>.tup (k _ _ ne e) ne (λx a=>(h x a).keep k) l
 | _,_,.dct e ne=>.dct (k _ _ ne e) ne
theorem Th.same(h:Th p H n v)(s:L2.Same H H'):Th p H' n v:=h.keep λb o _ e=>s b o e
def isB:V->Bool
 | .bl _=>true
 | _=>false
theorem Th.ty(h:Th p H n v):∃ t∈wqa,TyOf K H v (.type t)/\(qbN t "str"=true->∃ x,v=.str x/\x.length<=100000)/\(qbN t "str"=false->qan v=false) /\
  (qbN t "tuple"=true->∃ a xs,v=.ref a/\H a=some (.tup xs)/\xs.length<=1000/\∀ x∈xs,Th p H n x)/\(qbN t "tuple"=false->∀ a xs,v=.ref a->H a≠some (.tup xs))/\qbN t "bool"=isB v:=by
 have c:∀{P:Prop} {a b:String},qbN a b=false->qbN a b=true->P:=λh1 d=>by rw[h1] at d;cases d
 have g:∀{P:Prop} {a b:String},qbN a b=true->qbN a b=false->P:=λh1 d=>by rw[h1] at d;cases d
 cases h with
 | flat f l =>
  cases v with
  | non=>show⟨_,by simp,.non,c (by decide),λ_=>rfl,c (by decide),λ_ _ _ e=>by(cases e),rfl⟩
  | bl x=>show⟨_,by simp,.bl x,c (by decide),λ_=>rfl,c (by decide),λ_ _ _ e=>by(cases e),rfl⟩
  | int x=>show⟨_,by simp,.int x,c (by decide),λ_=>rfl,c (by decide),λ_ _ _ e=>by(cases e),rfl⟩
  | str x=>show⟨_,by simp,.str x,λ_=>⟨x,rfl,l x rfl⟩,g (by decide),c (by decide),λ_ _ _ e=>by(cases e),rfl⟩
  | _=>cases f
 | lst e ne h l=>show⟨_,by simp,.lst e,c (by decide),λ_=>rfl,c (by decide),λ_ _ _ z=>by(cases z;rw[e];intro y;cases y),rfl⟩
 | tup e ne h l=>show⟨_,by simp,.tup e,c (by decide),λ_=>rfl,λ_=>⟨_,_,rfl,e,l,λx i=>(h x i).mono⟩,g (by decide),rfl⟩
 | dct e ne=>show⟨_,by simp,.dK e,c (by decide),λ_=>rfl,c (by decide),λ_ _ _ z=>by(cases z;rw[e];intro y;cases y),rfl⟩
inductive spNameG(vs:List V)(H:Hp)(Q:VK)(E:XK):Prop|mk (p:Addr) (n:Nat) (v:V) (_:vs=[v]) (_:Th p H n v) (_:∀ H',L2.Same H H'->Q (.bl (qan v)) H')
theorem ok_nameG(F:Fun K "is_name" "is_name" zG f fd)(T:Txt K mg cc cw):wqqg 1 f fd wqb spNameG:=by
 show F.ok u9 λ_ _ _ _ H vs Q E B h=>?_
 .obtain⟨p,n,v,rfl,hv,q⟩:=h;show⟨_,(qd (qJ (PW.pt (zU (qS (qN (qj (jY (K:=K) rfl) rfl T.b_isinstance yV (qa (pv 0) (qa (qY (v:=.ty "str") rfl T.b_str boot_str rfl) qc))))) (zu (qS (qcX qeB qeB qh (qj (zx (K:=K) rfl) rfl T.b_len YM (qa (pv 0) qc)) (zN rfl T.g_LONGEST_NAME)))))) (qe (qm jW)) qt)
 (qe (qm (qj (qdI (K:=K) rfl rfl) rfl T.b_all kx (qa (qG (sc:=qf zG) (XN:=wqb) ["sign"] 1 [] rfl rfl rfl (by room) rfl (by room)
  (qF (K:=K) rfl (pv 0)) (λ_ _ _ _=>(qo (i:=0) (show(["sign"]:LS).Nodup by room) rfl (yF rfl))) qE
  (λ_ _ _ _=>jh)
  (λ_ _ _ _=>(qap qeB qeB jg (pv 0) jg))) qc))))),?_⟩
  obtain⟨t,s,ty,r,hn,_,_,_⟩:=hv.ty (K:=K);apply zy (.inl ty) rfl (je K t s "str" (by simp)) ?_;apply qI (λh=>?_) λh=>?_
  .ext;have z:=q H (Sr H);rw[hn (by simpa using h)] at z;show z
  .obtain⟨x,rfl,y⟩:=r (by simpa using h);apply qhC (yh y (by decide)) ?_;ext;have d:=q;simp only[qan,jx] at d
   have a:¬ (1<=x.length/\x.length<=6)->∀ H',L2.Same H H'->Q (.bl false) H':=λhc H' r=>by
    have z:=d H' r;rw[yB hc] at z;show z
   show qI (λh1=>?_) λh1=>?_
   .ext;show qI (λe=>?_) λe=>?_
    .ext;show a (λh=>?_) H (Sr H);simp only[xQ,Xd] at e;lk
    .ext
     have j:1<=x.length/\x.length<=6:=by
      have A:=yj h1;simp only[xQ,Xd,Classical.not_not] at e;lk
     rw[yH j] at d;show qez (λi ys H'=>H'=H/\ys=((x.cps.toList.take i).map sg).map V.bl) ⟨rfl,by simp⟩ (λi c ys H' hc m=>?_) λys H' m=>?_
     .obtain⟨rfl,rfl⟩:=m;apply jp ?_;ext
      have hl:(List.map V.bl (List.map sg (List.take i x.cps.toList))).length<sizeLine:=by
       rw[ya,ya,yN];show qg (yh (XR _ _) (by simpa [Str.length] using(show x.length<=1000 by lk)))
      have key:∀ b,b=sg c->(List.map V.bl (List.map sg (List.take i x.cps.toList)))++[V.bl b]=List.map V.bl (List.map sg (List.take (i+1) x.cps.toList)):=by
       intro b hb;have u:x.cps.toList[i]?=some c:=by simpa using hc
       rw[hb,yL,u];simp
      show qI (λg=>?_) λg=>?_
      .ext;show⟨hl,rfl,key _ (by unfold sg;rw[yH g])⟩
      .show⟨hl,rfl,key _ (by unfold sg;rw[yB g])⟩
     .obtain⟨rfl,rfl⟩:=m;have s:x.cps.toList.take x.cps.size=x.cps.toList:=by rw[<- Y8,yD]
      rw[s];show⟨?_,λl hl=>?_⟩
      .rw [ya,ya];show yI (qg (by simpa [Str.length] using(show x.length<=1000 by lk)))
      .ext;show⟨l,x.cps.toList.map sg,rfl,SqL.of qb,?_⟩;have z:=d _ (qu (Sr H') (o:=.lst ((x.cps.toList.map sg).map V.bl)) hl);rw[xA];show z
   .ext;show a (λh=>h1 (yv (by lk))) H (Sr H)
def zb(ss:LS)(v:V):Bool:=if qan v=true then decide (qbK v∈ss) else false
inductive spPlaceG(vs:List V)(H:Hp)(Q:VK)(E:XK):Prop|mk (p:Addr) (n:Nat) (d:Addr) (ss:LS) (v:V) (_:vs=[.ref d,v]) (_:H d=some (.dK (qbP ss 0))) (_:Th p H n v) (_:∀ H',L2.Same H H'->Q (.bl (zb ss v)) H')
theorem ok_placeG(F:Fun K "is_place" "is_place" qaf f fd)(g:wqqe 1 "is_name" wqb spNameG):wqqg 2 f fd wqq spPlaceG:=by
 show F.ok uR λ_ _ _ _ H vs Q E b h=>?_
 .obtain⟨p,n,d,ss,v,rfl,i,hv,q⟩:=h;have j:=jJ b;show⟨_,(qe (qm (zv (qi g (hmR b) qr (qa (pv 1) qc)) (j4 (jk (qaC (K:=K) rfl j) (pv 1) (pv 0) (by with_unfolding_all rfl)))))),?_⟩;apply⟨p,n,v,rfl,hv,λH1 c=>?_⟩;ext;have a:=q H1 c;unfold zb at a;show qI (λhc=>?_) λhc=>?_
  .ext;rw[yH hc] at a;obtain⟨e,_,_⟩:=qbx hc;generalize qbK v=x at a e;subst e;show .inr (.inl ⟨d,_,rfl,DGet.k (k:=Sum.inr x) (c d _ i),?_⟩);rw[qba];show a
  .rw [yB hc] at a;show a
theorem KA:FnScope ["web","thing","seen","place"] ["web","thing"] (qf jo):=fS
def unl(ss:LS):LS->List V->Bool
 | _,[]=>true
 | seen,x::r=>if zb ss x=true then(if qbK x∈seen then false else unl ss (seen++[qbK x]) r) else false
def ulV(H:Hp)(ss:LS)(v:V):Bool:=match v with
 | .ref a=>(match H a with
  | some (.lst xs)=>unl ss [] xs
  | _=>false)
 | _=>false
theorem qf0(e:H a=some (.lst xs)):ulV H ss (.ref a)=unl ss [] xs:=by
 unfold ulV;dsimp only;rw[e]
theorem ulV_no(h:∀ a xs,v=.ref a->H a≠some (.lst xs)):ulV H ss v=false:=by
 unfold ulV;split
 .split
  .rename_i a _ xs e;show absurd e (h a xs rfl)
  .rfl
 .rfl
theorem qdV(nm:∀ s∈ss,jx s=true):∀{bar seen:LS},bar.Nodup->(∀ s∈bar,s∈ss/\s∉seen)->unl ss seen (bar.map V.str)=true
 | [],_,_,_=>rfl
 | x::r,seen,hn,h=>by
  obtain⟨h1,b⟩:=yn.mp hn;obtain⟨m1,c⟩:=h x yC
  have pl:zb ss (.str x)=true:=by
   unfold zb;rw[yH (show qan (.str x)=true from nm x m1)];show yv m1
  show(if zb ss (.str x)=true then(if x∈seen then false else unl ss (seen++[x]) (r.map V.str)) else false)=true;rw[yH pl,yB c];show qdV nm b λs a=>⟨(h s (yw _ a)).1,λz=>?_⟩;rcases yK.mp z with z | z
  .show(h s (yw _ a)).2 z
  .rw [yr.mp z] at a;show h1 a
inductive spUlG(cw:Addr)(vs:List V)(H:Hp)(Q:VK)(E:XK):Prop|mk (p x:Addr) (ss:LS) (ns:LN) (v:V) (_:vs=[.ref x,v]) (_:WebAt cw H x ss ns) (_:Th p H 3 v) (_:∀ H',L2.Same H H'->Q (.bl (ulV H ss v)) H')
inductive spHasT(cw:Addr)(vs:List V)(H:Hp)(Q:VK)(E:XK):Prop|mk (p:Addr) (k:Nat) (x:Addr) (ss:LS) (ns:LN) (v:V) (_:vs=[.ref x,v]) (_:WebAt cw H x ss ns) (_:Th p H k v) (_:∀ H',L2.Same H H'->Q (.bl (zb ss v)) H')
theorem ok_hasT(F:Fun K "has_place" "Web.has_place" jB f fd)(T:Txt K mg cc cw)(a:wqqe 2 "is_place" wqq spPlaceG):wqqg 3 f fd wqH (spHasT cw):=by
 show F.ok K4 λ_ _ _ _ H vs Q E c h=>?_
 .obtain⟨p,k,x,ss,ns,v,rfl,⟨dx,d,ol,n,e,b,g,hn,hw⟩,hv,q⟩:=h;show⟨_,(qe (qm (qi a (hmR c) qr (qa (jA (K:=K) rfl (pv 0) rfl) (qa (pv 1) qc))))),?_⟩;apply .inl ⟨x,cw,dx,_,.ref d,rfl,e,T.wcl,T.wn,zD,?_⟩;apply⟨p,k,d,ss,v,rfl,b,hv,q⟩
theorem ok_ulG(F:Fun K "are_unlike_places" "are_unlike_places" jo f fd)(T:Txt K mg cc cw)(Kn:wqqf 3 cw "has_place" wqH (spHasT cw)):wqqg 4 f fd ["web","thing"] (spUlG cw):=by
 show F.ok KA λ_ _ _ _ H vs Q E hr h=>?_
 .obtain⟨p,x,ss,ns,v,rfl,Z,hv,q0⟩:=h;have hu:=jJ hr;show⟨_,(qd (qJ (qS (qN (qj (jY (K:=K) rfl) rfl T.b_isinstance yV (qa (pv 1) (qa (qY (v:=.ty "list") rfl T.b_list xr rfl) qc))))) (qe (qm jW)) qt)
 (qd (qq (i:=2) KA.nd rfl (yF rfl) qbV)
 (qd (jy yW rfl (qF (K:=K) rfl (pv 1)) (qo (i:=3) KA.nd rfl (yF rfl))
 (qd (qJ (PW.pt (zU (qS (qN (qZ Kn (hmR hr) (pv 0) (qa (pv 3) qc)))) (zu (qp (qaC (K:=K) rfl hu) (pv 3) (pv 2) (by with_unfolding_all rfl))))) (qe (qm jW)) qt)
 (qe (qa2 jW (qbL (pv 2) (pv 3) (qbO hu))))))
 (qe (qm jW))))),?_⟩
  ext;by_cases g:∃ a xs,v=.ref a/\H a=some (.lst xs)
  .obtain⟨a,xs,rfl,r⟩:=g
   obtain⟨O,aa⟩:(∀ y∈xs,Th p H 2 y)/\xs.length<=1000:=by
    cases hv with
    | lst e ne h l=>rw[r] at e;cases e;show⟨h,l⟩
    | tup e ne h l=>rw[r] at e;cases e
    | dct e ne=>rw[r] at e;cases e
    | flat f l=>cases f
   have q:∀ H',L2.Same H H'->Q (.bl (unl ss [] xs)) H':=by rw[<- qf0 r];show q0
   show zy (.inl (.lst r)) rfl (je K "list" (by simp) "list" (by simp)) ?_;apply yp ?_;ext;intro d hd;have R:=qu (Sr H) (o:=.dK []) hd;have X:upd H d (.dK []) d=some (.dK (qgb [])):=qb;generalize upd H d (.dK [])=H1 at R X;obtain⟨wx,dd,ol,nn,hb,_⟩:=id Z;apply .inl ⟨⟨_,.of (R _ _ r)⟩,ju (xs:=xs) (λi σ J=>L2.Same H J/\∃ U,σ=[some (.ref x),some (.ref a),some (.ref d),U]/\J d=some (.dK (qgb ((xs.take i).map qbK)))/\unl ss [] xs=unl ss ((xs.take i).map qbK) (xs.drop i)) ⟨R,_,rfl,X,rfl⟩ (λi σ J _ C=>.of (C.1 _ _ r)) (λi y σ J D C=>?_) fun σ J C=>?_⟩
   .obtain⟨u,U,rfl,n,c⟩:=C;have I:i<xs.length:=(yc.mp D).1
    have G:xs.drop i=y::xs.drop (i+1):=by
     rw[List.drop_eq_getElem_cons I];have:=(yc.mp D).2;rw[this]
    have M:xs.take (i+1)=xs.take i++[y]:=by rw[yL,D];rfl
    rw[G] at c;have N:=(O y (ye D)).same u;apply⟨x,wx,_,rfl,u _ _ hb,zH (by room),?_⟩;apply⟨p,2,x,ss,ns,y,rfl,Z.same u,N,λW S=>?_⟩;ext;have s:=u.trans S
    cases j:zb ss y with
    | false =>
     show jp ?_;ext;rw[show unl ss ((xs.take i).map qbK) (y::xs.drop (i+1))=false by show(if zb ss y=true then _ else _)=_;rw[yB (by rw[j];decide)]] at c;have:=q W s
     rwa[c] at this
    | true =>
     show yp ?_
     have L:qan y=true:=by
      unfold zb at j;split at j
      .assumption
      .cases j
     obtain⟨Y,_,_⟩:=qbx L;rw[show unl ss ((xs.take i).map qbK) (y::xs.drop (i+1))=(if qbK y∈(xs.take i).map qbK then false else unl ss ((xs.take i).map qbK++[qbK y]) (xs.drop (i+1))) by show(if zb ss y=true then _ else _)=_;rw[yH j]] at c;have m:(xs.take (i+1)).map qbK=(xs.take i).map qbK++[qbK y]:=by rw[M,yt];rfl
     rw[<- m] at c;generalize hz:qbK y=z at c m Y;subst Y;apply .inr (.inl ⟨d,_,rfl,DGet.k (k:=Sum.inr z) (S _ _ n),?_⟩);rw[yB (by decide),qcx];apply qI (λhm=>?_) λhm=>?_
     .ext;rw[yH (yj hm)] at c;have:=q W s
      rwa[c] at this
     .have A:z∉(xs.take i).map qbK:=λe=>hm (yv e);rw[yB A] at c;apply .inr ⟨d,_,rfl,DPut.k (k:=Sum.inr z) (S _ _ n) (qg (by unfold qgb;rw[ya,ya,yN];lk)),?_⟩;show⟨qhk s hd,_,rfl,?_,c⟩;rw[qb,yesK_put A,m]
   .obtain⟨u,U,rfl,n,c⟩:=C;rw[kS] at c;ext;have:=q J u
    rwa[c] at this
  .have B:∀(a:Addr) (xs:List V),v=.ref a->H a≠some (.lst xs):=λa xs e e'=>g ⟨a,xs,e,e'⟩;have q:∀ H',L2.Same H H'->Q (.bl false) H':=by rw[<- ulV_no (H:=H) (ss:=ss) B];show q0
   obtain⟨t,ht,he,ty⟩:∃ t:String,t∈wqa/\qbN t "list"=false/\TyOf K H v (.type t):=by
    cases hv with
    | flat f l =>
     cases v with
     | non=>show⟨_,by simp,rfl,.non⟩
     | bl b=>show⟨"bool",by simp,rfl,.bl b⟩
     | int i=>show⟨"int",by simp,rfl,.int i⟩
     | str z=>show⟨"str",by simp,rfl,.str z⟩
     | _=>cases f
    | lst e ne h l=>show absurd e (B _ _ rfl)
    | tup e ne h l=>show⟨"tuple",by simp,rfl,.tup e⟩
    | dct e ne=>show⟨"dict",by simp,rfl,.dK e⟩
   show zy (.inl ty) rfl (je K t ht "list" (by simp)) ?_;rw[he];apply jp ?_;apply q H (Sr H)
theorem ub:FnScope ["numbers","total","number"] wq5 (qf qb8):=fS
theorem qf1(b:Nat):∀ l:LN,(xsm l).testBit b=par l λv=>v.testBit b
 | []=>by rw[show xsm []=0 from rfl,YE];rfl
 | a::l=>by
  rw[show xsm (a::l)=l.foldl (· ^^^ ·) (0 ^^^ a) from rfl,qb1,xC,Yg,qf1 b l,jm]
theorem qf2(g:α->β)(p:β->Bool):∀ l:List α,par (l.map g) p=par l λi=>p (g i)
 | []=>rfl
 | a::l=>by rw[Ys,jm,jm,qf2 g p l]
theorem xsm_lt:∀{M:LN},(∀ m∈M,m<2 ^ 30)->xsm M<2 ^ 30:=by
 intro M
 induction M with
 | nil=>intro _;decide
 | cons x r ih =>
  intro h;rw[show xsm (x::r)=r.foldl (· ^^^ ·) (0 ^^^ x) from rfl,qb1,xC];show kt (h x yC) (ih λm hm=>h m (yw _ hm))
section
variable{n:Nat}{TI:List (Nat×Nat)}
theorem oft_par(a:TIok n TI)(nd:ps.Nodup)(e:∀ v∈ps,v<n)(f:Nat):par ps (λv=>(qaE TI v).testBit f)=decide (oft TI f ps % 2=1):=by
 have b:par (bsN TI f) (λv=>decide (v∈ps))=decide (oft TI f ps % 2=1):=qeh _ _
 have c:par (bsN TI f) (λv=>decide (v∈ps))=par (List.range n) λv=>decide (v∈ps)&&(qaE TI f).testBit v:=by
  rw[<- qei (qfP a f) (λv hv=>(a.adj ((qaN a).mp hv)).2.1) λv _ h=>?_]
  .show zK λv hv=>?_;rw[(qbc a).mpr ((qaN a).mp hv),Bool.and_true]
  .rw [Yn] at h;show(qaN a).mpr ((qbc a).mp h.2)
 have d:par ps (λv=>(qaE TI v).testBit f)=par (List.range n) λv=>decide (v∈ps)&&(qaE TI f).testBit v:=by
  rw[<- qei nd e λv _ h=>?_]
  .show zK λv hv=>?_;rw[yv hv,kM,qfV a]
  .rw [Yn,yJ] at h;show h.1
 rw[d,<- c,b]
theorem qdg(a:TIok n TI)(nd:ps.Nodup)(b:∀ v∈ps,v<n)(f:Nat):(xsm (ps.map (qaE TI))).testBit f=decide (oft TI f ps % 2=1):=by
 rw[qf1,qf2];show oft_par a nd b f
theorem qeX(a:TIok n TI){f:Nat}(h:∀ v∈ps,¬ adjI TI v f):oft TI f ps=0:=by
 unfold oft;rw[List.length_eq_zero_iff,Xk];intro v hv;rw[yJ];show λz=>h v z ((qaN a).mp hv).symm
variable{cl:Nat->Bool}{s:Nat}
def EvS(TI:List (Nat×Nat))(cl:Nat->Bool)(n s:Nat)(gs:LN):Prop:=gs.Nodup/\(∀ v∈gs,v∈nr TI cl n s (cl s))/\(∀ f∈nr TI cl n s (!cl s),oft TI f gs % 2=0)/\s∈gs
def OdS(TI:List (Nat×Nat))(cl:Nat->Bool)(n s:Nat)(gs:LN):Prop:=gs.Nodup/\(∀ v∈gs,v∈nr TI cl n s (!cl s))/\∀ u∈nr TI cl n s (cl s),oft TI u gs % 2=1↔u=s
theorem qg2(i:TIok n TI)(g:∀ a b,adjI TI a b->cl b=!cl a){v f:Nat}(h:v∈nr TI cl n s c)(a:adjI TI v f):f∈nr TI cl n s (!c):=by
 obtain⟨h1,d,e⟩:=nr_mem.mp h;show nr_mem.mpr ⟨(i.adj a).2.1,d.on a,by rw[g _ _ a,e]⟩
theorem ev_iff(c:TIok n TI)(i:∀ a b,adjI TI a b->cl b=!cl a)(nd:gs.Nodup)(e:∀ v∈gs,v∈nr TI cl n s (cl s)):xsm (gs.map (qaE TI))=0↔∀ f∈nr TI cl n s (!cl s),oft TI f gs % 2=0:=by
 have g:∀ v∈gs,v<n:=λv hv=>(nr_mem.mp (e v hv)).1;constructor
 .intro h f _;have:=qdg c nd g f;rw[h,YE] at this;have:=of_decide_eq_false this.symm;lk
 .intro h;show YQ λf=>?_;rw[YE,qdg c nd g f];show yk λz=>?_;by_cases d:f∈nr TI cl n s (!cl s)
  .have:=h f d;lk
  .rw [qeX c λv hv a=>d (qg2 c i (e v hv) a)] at z;lk
theorem od_iff(c:TIok n TI)(i:∀ a b,adjI TI a b->cl b=!cl a)(j:s<n)(nd:gs.Nodup)(f:∀ v∈gs,v∈nr TI cl n s (!cl s)):xsm (gs.map (qaE TI))=1 <<< s↔∀ u∈nr TI cl n s (cl s),oft TI u gs % 2=1↔u=s:=by
 have g:∀ v∈gs,v<n:=λv hv=>(nr_mem.mp (f v hv)).1;have d:s∈nr TI cl n s (cl s):=nr_mem.mpr ⟨j,.refl,rfl⟩;rw[kI];constructor
 .intro h u _;have:=qdg c nd g u;rw[h,Y9] at this;rw[Yc] at this;rw[<- this];show⟨Kg,Kg⟩
 .intro h;show YQ λu=>?_;rw[Y9,qdg c nd g u,Yc];by_cases e:u∈nr TI cl n s (cl s)
  .rw [h u e];show⟨Kg,Kg⟩
  .rw [qeX c λv hv a=>e (by have:=qg2 c i (f v hv) a;rwa[Bool.not_not] at this)];show⟨λz=>by lk,λz=>absurd (z ▸ d) e⟩
end
def UpL(H:Hp)(ss:LS)(v:V)(gs:LN):Prop:=∃ a,v=.ref a/\H a=some (.lst (qH ss gs))/\gs.Nodup/\∀ u∈gs,u<ss.length
theorem UpL.same(h:UpL H ss v gs)(s:L2.Same H H'):UpL H' ss v gs:=by
 obtain⟨a,e,h1,b⟩:=h;show⟨a,e,s _ _ h1,b⟩
theorem qej(hn:ss.Nodup):∀{gs c:LN},(∀ u∈gs,u<ss.length)->(∀ u∈c,u<ss.length)->qH ss gs=qH ss c->gs=c
 | [],[],_,_,_=>rfl
 | [],_::_,_,_,e=>by cases e
 | _::_,[],_,_,e=>by cases e
 | g::gs,h::c,a,b,e=>by
  have f:V.str (tn ss g)=V.str (tn ss h):=(XY e).1;have i:qH ss gs=qH ss c:=(XY e).2;rw[jZ hn (a g yC) (b h yC) (V.str.inj f),qej hn (λu d=>a u (yw _ d)) (λu d=>b u (yw _ d)) i]
theorem UpL.uniq{d:LN}(hn:ss.Nodup)(h:UpL H ss v gs)(h':UpL H ss v d):gs=d:=by
 obtain⟨a,rfl,e,_,h1⟩:=h;obtain⟨b,f,c,_,g⟩:=h';cases f;rw[e] at c;show qej hn h1 g (HO.lst.inj (yl c))
theorem place_at{x:V}(h:zb ss x=true):∃ u,u<ss.length/\x=.str (tn ss u):=by
 unfold zb at h;split at h
 .rename_i hx
  obtain⟨e,_,_⟩:=qbx hx;have hm:=yj h;have hl:=Yj hm;show⟨_,hl,?_⟩;rw[e]
  congr 1
  have:=qaD hl;rw[yb hl,Yy] at this;show yl this
 .cases h
theorem qg3(hn:ss.Nodup):∀{xs:List V} {seen:LS},unl ss seen xs=true->∃ gs:LN,xs=qH ss gs/\gs.Nodup/\(∀ u∈gs,u<ss.length)/\∀ u∈gs,tn ss u∉seen
 | [],_,_=>⟨[],rfl,.nil,nofun,nofun⟩
 | x::r,seen,h=>by
  have h:(if zb ss x=true then(if qbK x∈seen then false else unl ss (seen++[qbK x]) r) else false)=true:=h;by_cases b:zb ss x=true
  .rw [yH b] at h;obtain⟨u,d,rfl⟩:=place_at b;by_cases c:qbK (.str (tn ss u))∈seen
   .rw [yH c] at h;cases h
   .rw [yB c] at h;obtain⟨gs,rfl,nd,hl,a⟩:=qg3 hn h;show⟨u::gs,rfl,yn.mpr ⟨λz=>a u z (yQ _ (yr.mpr rfl)),nd⟩,λw hw=>?_,λw hw=>?_⟩
    .rcases yy.mp hw with rfl | hw
     .show d
     .show hl w hw
    .rcases yy.mp hw with rfl | hw
     .show c
     .show λz=>a w hw (Yz _ z)
  .rw [yB b] at h;cases h
theorem ul_up(hn:ss.Nodup)(h:ulV H ss v=true):∃ gs,UpL H ss v gs:=by
 unfold ulV at h;split at h
 .split at h
  .rename_i a _ xs e
   obtain⟨gs,rfl,nd,hl,_⟩:=qg3 hn h;show⟨gs,a,rfl,e,nd,hl⟩
  .cases h
 .cases h
theorem up_ul(hn:ss.Nodup)(nm:∀ s∈ss,jx s=true)(h:UpL H ss v gs):ulV H ss v=true:=by
 obtain⟨a,rfl,e,nd,hl⟩:=h;rw[qf0 e];show qdV nm (bar:=gs.map (tn ss)) ?_ λs f=>?_
 .show Y7.mpr (nd.imp_of_mem λ{a b} d hb c e=>c (jZ hn (hl a d) (hl b hb) e))
 .obtain⟨u,g,rfl⟩:=yE.mp f;show⟨jP (hl u g),by simp⟩
inductive spSu(vs:List V)(H:Hp)(Q:VK)(E:XK):Prop|mk (p:Addr) (L:LN) (_:vs=[.ref p]) (_:H p=some (.lst (ivs L))) (_:(∀ v∈L,v<2 ^ 30)) (_:Q (iv (xsm L)) H)
theorem ok_su(F:Fun K "sum_of" "sum_of" qb8 f fd):wqqg 1 f fd wq5 spSu:=by
 show F.ok ub λ_ _ _ _ H vs Q E c h=>?_
 .obtain⟨p,L,rfl,e,hl,q⟩:=h;have g:=jJ c;show⟨_,(qd (qq (i:=1) ub.nd rfl (yF rfl) qh)
 (qd (jy yW rfl (qF (K:=K) rfl (pv 0)) (qo (i:=2) ub.nd rfl (yF rfl))
 (qe (qq (i:=1) ub.nd rfl (yF rfl) (qz qep (pv 1) (pv 2)))))
 (qe (qm (pv 1))))),?_⟩
  apply .inl ⟨⟨_,.of e⟩,ju (xs:=ivs L) (λi σ J=>J=H/\∃ y,σ=[some (.ref p),some (iv (xsm (L.take i))),y]) ⟨rfl,_,rfl⟩ (λi σ J _ a=>by rw[a.1];show .of e) (λi x σ J b a=>?_) fun σ J a=>?_⟩
  .obtain⟨rfl,y,rfl⟩:=a;rw[yd] at b;obtain⟨v,hv,rfl⟩:=ym.mp b;have h1:xsm (L.take i)<2 ^ 30:=xsm_lt λm hm=>hl m (X6 hm);have d:=hl v (ye hv);apply⟨rfl,some (iv v),?_⟩;rw[yL,hv,show(some v).toList=[v] from rfl,xsm_snoc];show [some (V.ref p),some (V.int (Builtin.bitXor (xsm (L.take i):Int) (v:Int))),some (iv v)]=_;rw[qeL]
  .obtain⟨rfl,y,rfl⟩:=a;rw[jf,yD];apply q
theorem Uq:FnScope wqF wqF (qf zt):=fS
def WTh(cw:Addr)(H:Hp)(x:Addr)(ss:LS)(ns:LN)(TI:List (Nat×Nat))(v:V):Prop:=Wt cw H x ss ns (TI.map (nmP ss))/\TIok ss.length TI/\(∀ s∈ss,jx s=true)/\Th x H 3 v
theorem WTh.same{TI:List (Nat×Nat)}(h:WTh cw H x ss ns TI v)(s:L2.Same H H'):WTh cw H' x ss ns TI v:=⟨h.1.same s,h.2.1,h.2.2.1,h.2.2.2.same s⟩
inductive spSb(cw:Addr)(vs:List V)(H:Hp)(Q:VK)(E:XK):Prop|mk (x l:Addr) (ss:LS) (ns:LN) (TI:List (Nat×Nat)) (L:LN) (v:V) (_:vs=[.ref x,.ref l,v]) (_:WTh cw H x ss ns TI v) (_:H l=some (.lst (qH ss L))) (_:(∀ u∈L,u<ss.length)) (_:(∀ gs,UpL H ss v gs->(∀ u∈gs,u∈L)->∀ H',L2.Same H H'->Q (iv (xsm (gs.map (qaE TI)))) H')) (_:((∀ gs,UpL H ss v gs->¬ ∀ u∈gs,u∈L)->∀ H',L2.Same H H'->Q .non H'))
theorem ok_sb(F:Fun K "sum_beside" "sum_beside" zt f fd)(T:Txt K mg cc cw)(uE:wqqe 4 "are_unlike_places" ["web","thing"] (spUlG cw))(S:wqqe 1 "sum_of" wq5 spSu)(R:wqqe 6 "bits_beside_each" wqy (spBe cw)):wqqg 7 f fd wqF (spSb cw):=by
 show F.ok Uq λ_ _ _ _ H vs Q E t h=>?_
 .obtain⟨x,l,ss,ns,TI,L,v,rfl,Y,hl,X,q1,N⟩:=h;have q:=jJ t;obtain⟨W,M,nm,hv⟩:=id Y;have hn:=W.wok.nd;have few:=W.wok.few;show⟨_,(qd (qJ (PW.pt (zU (qS (qN (qi uE (hmR t) qr (qa (pv 0) (qa (pv 2) qc))))) (zu (qS (qN (qj (qdI (K:=K) rfl rfl) rfl T.b_all kx (qa (qG (sc:=qf zt) (XN:=wqF) ["place","side"] 1 [1] rfl rfl rfl (by room) rfl (by room)
  (qF (K:=K) rfl (pv 2)) (λ_ _ _ _=>(qo (i:=0) (show(["place","side"]:LS).Nodup by room) rfl (yF rfl))) qE
  (λ_ _ _ _=>jh)
  (λ_ _ _ _=>(jk (qaC (K:=K) rfl q) (pv 0) (pv 1) (by with_unfolding_all rfl)))) qc))))))) (qe (qm jI)) qt)
 (qe (qm (qi S (hmR t) qr (qa (qi R (hmR t) qr (qa (pv 0) (qa (pv 2) qc))) qc))))),?_⟩
  apply⟨x,x,ss,ns,v,rfl,W.web,hv,λH1 s=>?_⟩;ext
  cases m:ulV H ss v with
  | false =>
   show jp ?_;apply N (λgs hg=>by rw[up_ul hn nm hg] at m;cases m) _ s
  | true =>
   show yp ?_;obtain⟨gs,C⟩:=ul_up hn m;obtain⟨a,rfl,B,nd,j⟩:=id C;have G:gs.length<=14:=yh (qeV nd j) few;apply .inl ⟨⟨_,.of (s _ _ B)⟩,qx (xs:=qH ss gs) (λi ys J=>J=H1/\ys=((gs.take i).map λu=>V.bl (decide (u∈L)))) ⟨rfl,by simp⟩ (λi ys J _ p=>by rw[p.1];show .of (s _ _ B)) (λi y ys J hy p=>?_) λys J p=>?_⟩
   .obtain⟨rfl,rfl⟩:=p;obtain⟨u,r,rfl⟩:=zl hy;apply jp ?_;apply qbw (s _ _ hl) ?_
    have e:decide (tn ss u∈L.map (tn ss))=decide (u∈L):=Yc.mpr (by
     rw[yE];show⟨λ⟨z,A,e⟩=>by rw[<- jZ hn (X z A) (j u (ye r)) e];show A,λz=>⟨u,z,rfl⟩⟩)
    rw[e];show⟨by rw[ya,yN];show qg (by lk),rfl,?_⟩;rw[yL,r,yt];rfl
   .obtain⟨rfl,rfl⟩:=p;rw[qw ss gs,yD];show⟨by rw[ya];show yI (qg (by lk)),λb hb=>?_⟩;have O:=qu (Sr J) (o:=.lst (gs.map λu=>V.bl (decide (u∈L)))) hb;have I:upd J b (.lst (gs.map λu=>V.bl (decide (u∈L)))) b=some (.lst (gs.map λu=>V.bl (decide (u∈L)))):=qb;generalize upd J b (.lst (gs.map λu=>V.bl (decide (u∈L))))=J2 at O I;have g:=s.trans O;apply⟨b,gs.map λu=>decide (u∈L),rfl,SqL.of (by rw[YL];show I),?_⟩;ext
    have n:((gs.map λu=>decide (u∈L)).all id)=true↔∀ u∈gs,u∈L:=by
     rw[xA,Yp];show⟨λh u q=>yj (h u q),λh u q=>yv (h u q)⟩
    cases d:((gs.map λu=>decide (u∈L)).all id) with
    | false =>
     show jp ?_;apply N (λU D=>?_) _ g;rw[<- C.uniq hn D];show λz=>by rw[n.mpr z] at d;cases d
    | true =>
     show yp ?_;apply⟨x,a,ss,ns,TI,gs,rfl,W.same g,M,g _ _ B,G,j,λc H3 s3 Z hc=>?_⟩;show⟨c,_,rfl,hc,λz A=>?_,?_⟩
     .obtain⟨u,_,rfl⟩:=yE.mp A;show qgq M few u
     .show q1 gs C (n.mp d) _ (g.trans s3)
theorem Ub:FnScope ["web","start","thing","near"] wqA (qf qby):=fS
theorem Uk:FnScope ["web","start","thing","far"] wqA (qf qb9):=fS
def EvV(H:Hp)(ss:LS)(TI:List (Nat×Nat))(cl:Nat->Bool)(s:Nat)(v:V):Prop:=∃ gs,UpL H ss v gs/\EvS TI cl ss.length s gs
def OdV(H:Hp)(ss:LS)(TI:List (Nat×Nat))(cl:Nat->Bool)(s:Nat)(v:V):Prop:=∃ gs,UpL H ss v gs/\OdS TI cl ss.length s gs
theorem UpL.back(h:UpL H1 ss v gs)(t:Th p H n v)(s:L2.Same H H1):UpL H ss v gs:=by
 obtain⟨a,rfl,e,r⟩:=h
 cases t with
 | flat f l=>cases f
 | lst e' ne h l=>rw[s _ _ e'] at e;show⟨a,rfl,e'.trans e,r⟩
 | tup e' ne h l=>rw[s _ _ e'] at e;cases e
 | dct e' ne=>rw[s _ _ e'] at e;cases e
inductive spIe(cw:Addr)(odd:Bool)(vs:List V)(H:Hp)(Q:VK)(E:XK):Prop|mk (x:Addr) (ss:LS) (ns:LN) (TI:List (Nat×Nat)) (s:Nat) (cl:Nat->Bool) (v:V) (_:vs=[.ref x,.str (tn ss s),v]) (_:WTh cw H x ss ns TI v) (_:s<ss.length) (_:(∀ a b,adjI TI a b->cl b=!cl a)) (_:∀(b:Bool) (H':Hp),L2.Same H H'->(b=true↔if odd=true then OdV H ss TI cl s v else EvV H ss TI cl s v)->Q (.bl b) H')
theorem in_up{s:Nat}{Q:VK}(hn:ss.Nodup)(h:UpL H ss v gs)(c:s<ss.length)(q:Q (.bl (decide (s∈gs))) H):qgl K false (.str (tn ss s)) v H Q:=by
 obtain⟨a,rfl,e,_,hl⟩:=h;show qbw e ?_
 have e:decide (tn ss s∈gs.map (tn ss))=decide (s∈gs):=Yc.mpr (by
  rw[yE];show⟨λ⟨z,b,e⟩=>by rw[<- jZ hn (hl z b) c e];show b,λz=>⟨s,z,rfl⟩⟩)
 rw[e];show q
theorem qhL{j:Int}{Q:VK}(q:Q (.bl false) H):qgG K .non (.int j) H Q:=.inl (.inl (.inl ⟨rfl,rfl,by
 rw[yB (by decide),show eqV .non (.int j)=false by simp[eqV]];show q⟩))
theorem ok_ie(F:Fun K "is_even" "is_even" qby f fd)(T:Txt K mg cc cw)(G:wqqe 10 "near_side" wqf (spNS cw false))(D:wqqe 7 "sum_beside" wqF (spSb cw)):wqqg 11 f fd wqA (spIe cw false):=by
 show F.ok Ub λ_ _ _ _ H vs Q E r h=>?_
 .obtain⟨x,ss,ns,TI,st,cl,v,rfl,A,B,t,q⟩:=h;have m:=jJ r;obtain⟨W,y,nm,hv⟩:=id A;have hn:=W.wok.nd;show⟨_,(qd (qq (i:=3) Ub.nd rfl (yF rfl) (qi G (hmR r) qr (qa (pv 0) (qa (pv 1) qc))))
 (qe (qm (zv (jk (zA (K:=K) rfl m) (qi D (hmR r) qr (qa (pv 0) (qa (pv 3) (qa (pv 2) qc)))) qh (qv _)) (j4 (jk (qaC (K:=K) rfl m) (pv 1) (pv 2) (by with_unfolding_all rfl))))))),?_⟩
  apply⟨x,ss,ns,TI,st,cl,rfl,W,y,B,t,λl H1 j I hl=>?_⟩;rw[YS] at hl;apply⟨x,l,ss,ns,TI,_,v,rfl,A.same j,hl,λu m=>(nr_mem.mp m).1,λgs o b H2 s=>?_,λg H2 s=>?_⟩
  .have e:=j.trans s;have c:=o.back hv j;apply qfa ⟨_,rfl,?_⟩;obtain⟨a,L,M,nd,J⟩:=id c;have h0:=ev_iff y t nd b;by_cases C:xsm (gs.map (qaE TI))=0
   .rw [yv (show((xsm (gs.map (qaE TI)):Nat):Int)=0 by lk)];show jp ?_;apply in_up hn (c.same e) B ?_;show q _ _ e ?_;rw[yJ,yB (by decide)];show⟨λz=>⟨gs,c,nd,b,h0.mp C,z⟩,λ⟨n,d,z⟩=>by rw[c.uniq hn d];show z.2.2.2⟩
   .rw [yk (show ¬ ((xsm (gs.map (qaE TI)):Nat):Int)=0 by lk)];show yp ?_;show q _ _ e ?_;rw[yB (by decide)];show⟨λz=>(by cases z),λ⟨n,d,z⟩=>absurd (h0.mpr ?_) C⟩;rw[c.uniq hn d];show z.2.2.1
  .have p:∀ gs,UpL H ss v gs->_:=λgs h=>g gs (h.same j);apply qhL ⟨_,rfl,?_⟩;show yp ?_;show q _ _ (j.trans s) ?_;rw[yB (by decide)];show⟨λz=>(by cases z),λ⟨gs,c,z⟩=>absurd z.2.1 (p gs c)⟩
theorem ok_io(F:Fun K "is_odd" "is_odd" qb9 f fd)(T:Txt K mg cc cw)(I:wqqe 11 "far_side" wqf (spNS cw true))(G:wqqe 7 "sum_beside" wqF (spSb cw))(D:wqqe 5 "bit_of" wqp (spBi cw)):wqqg 12 f fd wqA (spIe cw true):=by
 show F.ok Uk λ_ _ _ _ H vs Q E j h=>?_
 .obtain⟨x,ss,ns,TI,st,cl,v,rfl,B,m,y,q⟩:=h;have r:=jJ j;obtain⟨W,A,nm,hv⟩:=id B;have hn:=W.wok.nd;show⟨_,(qd (qq (i:=3) Uk.nd rfl (yF rfl) (qi I (hmR j) qr (qa (pv 0) (qa (pv 1) qc))))
 (qe (qm (jk (zA (K:=K) rfl r) (qi G (hmR j) qr (qa (pv 0) (qa (pv 3) (qa (pv 2) qc)))) (qi D (hmR j) qr (qa (pv 0) (qa (pv 1) qc))) (qv _))))),?_⟩
  apply⟨x,ss,ns,TI,st,cl,rfl,W,A,m,y,λl H1 g L hl=>?_⟩;rw[Xz] at hl;apply⟨x,l,ss,ns,TI,_,v,rfl,B.same g,hl,λu r=>(nr_mem.mp r).1,λgs o c H2 s=>?_,λe H2 s=>?_⟩
  .have b:=g.trans s;have d:=o.back hv g;apply⟨x,ss,ns,st,rfl,(W.same b).web,m,W.wok.few,λC t=>?_⟩;show qfa ?_;obtain⟨a,N,O,nd,M⟩:=id d;have h0:=od_iff A y m nd c;show q _ _ (b.trans t) ?_;rw[yJ,yH rfl,show(((xsm (gs.map (qaE TI)):Nat):Int)=((1 <<< st:Nat):Int))↔xsm (gs.map (qaE TI))=1 <<< st by lk,h0];show⟨λz=>⟨gs,d,nd,c,z⟩,λ⟨J,n,z⟩=>by rw[d.uniq hn n];show z.2.2⟩
  .have p:∀ gs,UpL H ss v gs->_:=λgs h=>e gs (h.same g);have b:=g.trans s;apply⟨x,ss,ns,st,rfl,(W.same b).web,m,W.wok.few,λC t=>?_⟩;show qhL ?_;show q _ _ (b.trans t) ?_;rw[yH rfl];show⟨λz=>(by cases z),λ⟨gs,d,z⟩=>absurd z.2.1 (p gs d)⟩
theorem K9:FnScope wa wqd (qf jD):=fS
theorem uf:FnScope wh wqd (qf j0):=fS
def zc(ss:LS):V->Bool
 | .str z=>decide (z∈ss)
 | _=>false
theorem qdh:∀{xs:List V},xs.all (zc ss)=true->∃ L:LN,xs=qH ss L/\∀ u∈L,u<ss.length
 | [],_=>⟨[],rfl,nofun⟩
 | x::xs,h=>by
  rw[xU,Yn] at h;obtain⟨L,rfl,a⟩:=qdh h.2
  cases x with
  | str z =>
   have b:=yj h.1;have hl:=Yj b;show⟨ss.idxOf z::L,?_,λu hu=>?_⟩
   .have:=qaD hl;rw[yb hl,Yy] at this;show V.str z::_=V.str (tn ss (ss.idxOf z))::_;rw[<- yl this];rfl
   .rcases yy.mp hu with rfl | hu
    .show hl
    .show a u hu
  | _=>cases h.1
theorem nms_all(h:∀ u∈L,u<ss.length):(qH ss L).all (zc ss)=true:=by
 rw[Yp];intro x b;obtain⟨z,c,rfl⟩:=yE.mp b;obtain⟨u,a,rfl⟩:=yE.mp c;show yv (jP (h u a))
section
variable{H:Hp}{ss:LS}{TI:List (Nat×Nat)}{cl:Nat->Bool}{s:Nat}{a:Addr}
theorem qdi(hn:ss.Nodup)(e:H a=some (.lst (qH ss L)))(hl:∀ u∈L,u<ss.length):UpL H ss (.ref a) gs↔gs=L/\L.Nodup:=by
 constructor
 .rintro ⟨b,d,c,nd,h⟩;cases d;rw[e] at c;have:=qej hn hl h (HO.lst.inj (yl c));subst this;show⟨rfl,nd⟩
 .rintro ⟨rfl,nd⟩;show⟨a,rfl,e,nd,hl⟩
theorem evV_iff(hn:ss.Nodup)(e:H a=some (.lst (qH ss L)))(hl:∀ u∈L,u<ss.length):EvV H ss TI cl s (.ref a)↔EvS TI cl ss.length s L:=by
 constructor
 .rintro ⟨gs,h,z⟩;obtain⟨rfl,_⟩:=(qdi hn e hl).mp h;show z
 .show λz=>⟨L,(qdi hn e hl).mpr ⟨rfl,z.1⟩,z⟩
theorem odV_iff(hn:ss.Nodup)(e:H a=some (.lst (qH ss L)))(hl:∀ u∈L,u<ss.length):OdV H ss TI cl s (.ref a)↔OdS TI cl ss.length s L:=by
 constructor
 .rintro ⟨gs,h,z⟩;obtain⟨rfl,_⟩:=(qdi hn e hl).mp h;show z
 .show λz=>⟨L,(qdi hn e hl).mpr ⟨rfl,z.1⟩,z⟩
theorem qf3(h:∀ b xs,v=.ref b->H b=some (.lst xs)->xs.all (zc ss)=false):¬ UpL H ss v gs:=by
 rintro⟨b,rfl,e,_,hl⟩;have:=h b _ rfl e;rw[nms_all hl] at this;cases this
end
theorem qg4:(L.map λ(v:Nat)=>(v:Int)).Nodup↔L.Nodup:=by
 constructor
 .intro h;show(Y7.mp h).imp λh e=>h (by rw[e])
 .show λh=>Y7.mpr (h.imp λh e=>h (Int.ofNat.inj e))
theorem qhi{i j:Int}{Q:VK}(q:Q (.bl (!decide (i=j))) H):qhd K true (.int i) (.int j) H Q:=.inl ⟨rfl,rfl,by
 have e:=zJ i j;rw[yB (by decide)] at e;rw[yH rfl,e];show q⟩
theorem qf4{Q:VK}(c:H a=some (.lst xs))(hb:H b=some (.lst []))(q:Q (.bl xs.isEmpty) H):qgG K (.ref a) (.ref b) H Q:=
 .inl (.inl (.inr (.inl ⟨a,b,_,1,rfl,rfl,by decide,qfW c hb,q⟩)))
theorem eqT_ivs(f:H a=some (.lst (ivs L)))(hb:H b=some (.lst (ivs M))):EqT K H 1 a b (decide (L=M)):=by
 by_cases hl:L.length=M.length
 .have z:=EqT.lst (K:=K) (H:=H) (n:=0) (e:=λj=>decide (L[j]?=M[j]?)) (SqL.of f) (SqL.of hb) (by rw[jf,jf,hl]) λj x y h1 d=>by
   rw[yd] at h1 d;obtain⟨u,g,rfl⟩:=ym.mp h1;obtain⟨v,i,rfl⟩:=ym.mp d;have:=EqD.flat (K:=K) (H:=H) (n:=0) (x:=iv u) (y:=iv v) rfl rfl;have c:=zJ (u:Int) (v:Int);rw[yB (by decide)] at c;rw[c] at this;rw[g,i,show decide (some u=some v)=decide ((u:Int)=(v:Int)) from Yc.mpr ⟨λh=>by rw[yl h],λh=>by rw[Int.ofNat.inj h]⟩];show this
  have e:((List.range (ivs L).length).all λj=>decide (L[j]?=M[j]?))=decide (L=M):=by
   rw[Ye,Yp,yJ];constructor
   .intro h;show List.ext_getElem? λj=>?_;by_cases l:j<L.length
    .show yj (h j (Yu.mpr (by rw[jf];show l)))
    .rw [xl (by lk),xl (by lk)]
   .rintro rfl j _;show yv rfl
  rwa[e] at z
 .rw [yk (λz=>hl (by rw[z]))];show EqT.lstL (SqL.of f) (SqL.of hb) (by rw[jf,jf];show hl)
theorem vEqIs{Q:VK}(c:H a=some (.lst (ivs L)))(hb:H b=some (.lst (ivs M)))(q:Q (.bl (decide (L=M))) H):qgG K (.ref a) (.ref b) H Q:=
 .inl (.inl (.inr (.inl ⟨a,b,_,1,rfl,rfl,by decide,eqT_ivs c hb,q⟩)))
inductive spLe(odd:Bool)(vs:List V)(H:Hp)(Q:VK)(E:XK):Prop|mk (p n l:Addr) (ss:LS) (ts:LI) (TI:List (Nat×Nat)) (s:Nat) (cl:Nat->Bool) (v:V) (_:vs=[.ref n,.ref l,iv s,v]) (_:H n=some (.lst (ss.map V.str))) (_:ss.Nodup) (_:IPL H l ts TI) (_:TIok ss.length TI) (_:ss.length<=14) (_:s<ss.length) (_:(∀ a b,adjI TI a b->cl b=!cl a)) (_:Th p H 3 v) (_:(∀ a xs,v=.ref a->H a=some (.lst xs)->xs.length<=100)) (_:∀(b:Bool) (H':Hp),L2.Same H H'->(b=true↔if odd=true then OdV H ss TI cl s v else EvV H ss TI cl s v)->Q (.bl b) H')
theorem ok_lev(F:Fun K "_law_is_even" "_law_is_even" jD f fd)(T:Txt K mg cc cw)(ua:wqqe 3 "_law_near" wqc (spNrI false))(uo:wqqe 3 "_law_far" wqc (spNrI true))(uI:wqqe 2 "_law_often" wqk spOf):wqqg 4 f fd wqd (spLe false):=by
 show F.ok K9 λ_ _ _ s H vs Q E hr h=>?_
 .obtain⟨p,n,l,ss,ts,TI,st,cl,v,rfl,hN,hn,hI,hT,af,hs,hC,hv,ae,q⟩:=h;rw[yB (by decide)] at q;have R:=jJ hr;show⟨_,(qd (qJ (PW.pt (zU (qS (qN (qj (jY (K:=K) rfl) rfl T.b_isinstance yV (qa (pv 3) (qa (qY (v:=.ty "list") rfl T.b_list xr rfl) qc))))) (zu (qS (qN (qj (qdI (K:=K) rfl rfl) rfl T.b_all kx (qa (qG (sc:=qf jD) (XN:=wa) wqj 1 [0] rfl rfl rfl (by room) rfl (by room)
  (qF (K:=K) rfl (pv 3)) (λ_ _ _ _=>(qo (i:=0) (show(wqj:LS).Nodup by room) rfl (yF rfl))) qE
  (λ_ _ _ _=>jh)
  (λ_ _ _ _=>(zv (qj (jY (K:=K) rfl) rfl T.b_isinstance yV (qa (pv 0) (qa (qY (v:=.ty "str") rfl T.b_str boot_str rfl) qc))) (j4 (jk (qaC (K:=K) rfl R) (pv 0) (pv 1) (by with_unfolding_all rfl)))))) qc))))))) (qe (qm jW)) qt)
 (qd (qq (i:=4) K9.nd rfl (Xl rfl) (qG (sc:=qf jD) (XN:=wa) wqj 1 [0] rfl rfl rfl (by room) rfl (by room)
  (qF (K:=K) rfl (pv 3)) (λ_ _ _ _=>(qo (i:=0) (show(wqj:LS).Nodup by room) rfl (yF rfl))) qE
  (λ_ _ _ _=>jh)
  (λ_ _ _ _=>(qcN (K:=K) rfl yO XF PySem.F.type_list_index (qfy (K:=K) rfl) (pv 1) (qa (pv 0) qc)))))
 (qd (qq (i:=5) K9.nd rfl (Xl rfl) (qi ua (hmR hr) qr (qa (pv 1) (qa (pv 2) qc))))
 (qd (qJ (PW.pt (zU (qp (zO (K:=K) rfl R) (pv 2) (pv 4) (by with_unfolding_all rfl)) (zU (qp (qaK (K:=K) rfl R) (qj (qgN) rfl T.b_len YM (qa (jz (qgM (K:=K) rfl rfl) rfl T.b_set boot_set (qa (pv 4) qc)) qc)) (qj (zx (K:=K) rfl) rfl T.b_len YM (qa (pv 4) qc)) (qv _)) (zu (qp (qaK (K:=K) rfl R) (qG (sc:=qf jD) (XN:=wa) ["_law_one","_law_near_here"] 1 [5] rfl rfl rfl (by room) rfl (by room)
  (qF (K:=K) rfl (pv 4)) (λ_ _ _ _=>(qo (i:=0) (show(["_law_one","_law_near_here"]:LS).Nodup by room) rfl (yF rfl))) qE
  (λ_ _ _ _=>(qP (qp (zO (K:=K) rfl R) (pv 0) (pv 1) (by with_unfolding_all rfl))))
  (λ_ _ _ _=>(pv 0))) (qA qc) (qv _)))))) (qe (qm jW)) qt)
 (qe (qm (jk (zA (K:=K) rfl R) (qG (sc:=qf jD) (XN:=wa) wqZ 1 [1,4] rfl rfl rfl (by room) rfl (by room)
  (qF (K:=K) rfl (qi uo (hmR hr) qr (qa (pv 1) (qa (pv 2) qc)))) (λ_ _ _ _=>(qo (i:=0) (show(wqZ:LS).Nodup by room) rfl (yF rfl))) qE
  (λ_ _ _ _=>(qP (qp (zA (K:=K) rfl R) (qz zh (qi uI (hmR hr) qr (qa (pv 1) (qa (pv 0) (qa (pv 2) qc)))) qh) qh (qv _))))
  (λ_ _ _ _=>(pv 0))) (qA qc) (qv _)))))))),?_⟩
  ext;by_cases B:∃ a xs,v=.ref a/\H a=some (.lst xs)
  .obtain⟨a,xs,rfl,A⟩:=B
   obtain⟨as,ay⟩:(∀ y∈xs,Th p H 2 y)/\xs.length<=1000:=by
    cases hv with
    | lst e ne h l=>rw[A] at e;cases e;show⟨h,l⟩
    | tup e ne h l=>rw[A] at e;cases e
    | dct e ne=>rw[A] at e;cases e
    | flat f l=>cases f
   have am:=ae a xs rfl A;show zy (.inl (.lst A)) rfl (je K "list" (by simp) "list" (by simp)) ?_;apply yp ?_;apply .inl ⟨⟨_,.of A⟩,qx (xs:=xs) (λi ys J=>J=H/\ys=((xs.take i).map λy=>V.bl (zc ss y))) ⟨rfl,by simp⟩ (λi ys J _ C=>by rw[C.1];show .of A) (λi y ys J hy C=>?_) λys J C=>?_⟩
   .obtain⟨rfl,rfl⟩:=C;have an:i<xs.length:=(yc.mp hy).1;have ar:=as y (ye hy);obtain⟨t,ht,ty,aq,aw,_,_,_⟩:=ar.ty (K:=K);apply jp ?_;apply zy (.inl ty) rfl (je K t ht "str" (by simp)) ?_;ext
    have key:∀ b,b=zc ss y->(List.map (λy=>V.bl (zc ss y)) (List.take i xs)).length<sizeLine/\J=J/\List.map (λy=>V.bl (zc ss y)) (List.take i xs)++[V.bl b]=List.map (λy=>V.bl (zc ss y)) (List.take (i+1) xs):=λb hb=>by
     show⟨by rw[ya,yN];show qg (by lk),rfl,?_⟩;rw[hb,yL,hy,yt];rfl
    show qI (λh=>?_) λh=>?_
    .obtain⟨z,rfl,_⟩:=aq h;apply qbw hN (key _ rfl)
    .show key false ?_
     cases y with
     | str z=>show absurd (by cases ty;rfl) h
     | _=>rfl
   .obtain⟨rfl,rfl⟩:=C;rw[yD];show⟨by rw[ya];show yI (qg (by lk)),λb hb=>?_⟩;have W:=qu (Sr J) (o:=.lst (xs.map λy=>V.bl (zc ss y))) hb;have eb:upd J b (.lst (xs.map λy=>V.bl (zc ss y))) b=some (.lst (xs.map λy=>V.bl (zc ss y))):=qb;generalize upd J b (.lst (xs.map λy=>V.bl (zc ss y)))=J2 at W eb;apply⟨b,xs.map (zc ss),rfl,SqL.of (by rw[YL];show eb),?_⟩;rw[xA];ext
    cases g:xs.all (zc ss) with
    | false =>
     rw[show xs.all (id ∘ zc ss)=false from g];show jp ?_;apply q false _ W ⟨λz=>(by cases z),λ⟨gs,hg,_⟩=>absurd hg (qf3 λc ys e1 e2=>?_)⟩;cases e1;rw[A] at e2;rw[<- HO.lst.inj (yl e2)];show g
    | true =>
     rw[show xs.all (id ∘ zc ss)=true from g];show yp ?_;obtain⟨L,rfl,hL⟩:=qdh g;rw[qw] at am;have qL:=λ(b:Bool) H' s h=>q b H' s ((h:b=true↔EvS TI cl ss.length st L).trans (evV_iff hn A hL).symm);apply .inl ⟨⟨_,.of (W _ _ A)⟩,qx (xs:=qH ss L) (λi ys J=>J=J2/\ys=ivs (L.take i)) ⟨rfl,by simp⟩ (λi ys J _ C=>by rw[C.1];show .of (W _ _ A)) (λi y ys J hy C=>?_) λys J C=>?_⟩
     .obtain⟨rfl,rfl⟩:=C;obtain⟨u,U,rfl⟩:=zl hy;have ai:=hL u (ye U);have an:i<L.length:=(yc.mp U).1;apply jp ?_;apply⟨.inl ⟨rfl,_,.of (W _ _ hN)⟩,?_⟩;apply⟨n,ss,tn ss u,rfl,rfl,SqL.of (W _ _ hN),jP ai,?_⟩;rw[qaL hn ai];show⟨by rw[jf,yN];show qg (by lk),rfl,?_⟩;rw[yL,U];show _=List.map iv _;rw[yt];rfl
     .obtain⟨rfl,rfl⟩:=C;rw[qw,yD];show⟨by rw[jf];show yI (qg (by lk)),λpl ap=>?_⟩;have s3:=qu W (o:=.lst (ivs L)) ap;have ep:upd J pl (.lst (ivs L)) pl=some (.lst (ivs L)):=qb;generalize upd J pl (.lst (ivs L))=J3 at s3 ep;apply⟨l,ts,TI,st,ss.length,cl,rfl,hI.same s3,hT,af,hs,hC,λaz J4 s4 D er=>?_⟩;have ak:=s3.trans s4;rw[YS] at er;have M:=s4 _ _ ep;apply qhh M ?_;ext;by_cases I:st∈L
      .rw [yv I];show yp ?_;apply⟨pl,L.map λ(v:Nat)=>(v:Int),rfl,SqL.of (by rw[YL];show M),by rw[ya];lk,λsl S m O ao G=>?_⟩;rw[ya] at ao G;rw[qg4] at G;have s5:=qu ak (o:=.set S m) O;have j:=qu (Sr J4) (o:=.set S m) O _ _ M;have ac:=qu (Sr J4) (o:=.set S m) O _ _ er;apply⟨sl,S,m,rfl,qb,?_⟩;generalize upd J4 sl (.set S m)=J5 at s5 j ac;apply qaJ j ?_;rw[jf];show qhi ?_;ext;by_cases nd:L.Nodup
       .rw [yv (show(m:Int)=(L.length:Int) by rw[G.mpr nd])];show yp ?_;apply .inl ⟨⟨_,.of j⟩,qx (xs:=ivs L) (λi ys J=>J=J5/\ys=ivs ((L.take i).filter λv=>!decide (v∈nr TI cl ss.length st (cl st)))) ⟨rfl,by simp⟩ (λi ys J _ d=>by rw[d.1];show .of j) (λi x ys J hx d=>?_) λys J d=>?_⟩
        .obtain⟨rfl,rfl⟩:=d;rw[yd] at hx;obtain⟨v,hv,rfl⟩:=ym.mp hx;apply qhh ac ?_;ext;rw[qaX hv];show qI (λh=>?_) (λh=>?_)
         .ext;show⟨by rw[ya];show qg (qaO (by lk)),rfl,?_⟩;rw[yH h];show _=List.map iv _;rw[yt];rfl
         .show⟨rfl,?_⟩;rw[yB h,y6]
        .obtain⟨rfl,rfl⟩:=d;rw[jf L,yD];have fl:=yG (λv=>!decide (v∈nr TI cl ss.length st (cl st))) L;show⟨by rw[ya];show yI (qg (by lk)),λr D=>?_⟩;have s6:=qu s5 (o:=.lst (ivs (L.filter λv=>!decide (v∈nr TI cl ss.length st (cl st))))) D;have e6:upd J r (.lst (ivs (L.filter λv=>!decide (v∈nr TI cl ss.length st (cl st))))) r=some (.lst (ivs (L.filter λv=>!decide (v∈nr TI cl ss.length st (cl st))))):=qb;have aa:=qu (Sr J) (o:=.lst (ivs (L.filter λv=>!decide (v∈nr TI cl ss.length st (cl st))))) D _ _ j;generalize upd J r (.lst (ivs (L.filter λv=>!decide (v∈nr TI cl ss.length st (cl st)))))=J6 at s6 e6 aa;apply⟨wqqi,λz hz=>?_⟩;have s7:=qu s6 (o:=.lst []) hz;have Y:=qu (Sr J6) (o:=.lst []) hz _ _ e6;have ab:=qu (Sr J6) (o:=.lst []) hz _ _ aa;have ez:upd J6 z (.lst []) z=some (.lst []):=qb;generalize upd J6 z (.lst [])=J7 at s7 Y ab ez;show qfX Y ez ?_;ext
         have em:(ivs (L.filter λv=>!decide (v∈nr TI cl ss.length st (cl st)))).isEmpty=true↔∀ v∈L,v∈nr TI cl ss.length st (cl st):=by
          rw[kW,kl,Xk];show⟨λh v hv=>xL λz=>h v hv (by rw[yk z];rfl),λh v hv=>by rw[yv (h v hv)];decide⟩
         cases N:(ivs (L.filter λv=>!decide (v∈nr TI cl ss.length st (cl st)))).isEmpty with
         | false =>
          show jp ?_;apply qL false _ s7 ⟨λz=>(by cases z),λz=>by rw[em.mpr z.2.1] at N;cases N⟩
         | true =>
          have ah:=em.mp N;show yp ?_;apply⟨l,ts,TI,st,ss.length,cl,rfl,hI.same s7,hT,af,hs,hC,λfr J8 s8 av ef=>?_⟩;rw[Xz] at ef;have al:=s7.trans s8;show .inl ⟨⟨_,.of ef⟩,qx (xs:=ivs (nr TI cl ss.length st (!cl st))) (λi ys J=>L2.Same J8 J/\ys=ivs (((nr TI cl ss.length st (!cl st)).take i).filter λv=>decide (oft TI v L % 2=1))) ⟨L2.Same.refl J8,by simp⟩ (λi ys J _ d=>.of (d.1 _ _ ef)) (λi x ys J hx d=>?_) λys J d=>?_⟩
          .obtain⟨X,rfl⟩:=d;rw[yd] at hx;obtain⟨v,hv,rfl⟩:=ym.mp hx;have ax:=nr_mem.mp (ye hv);have au:=al.trans X;apply⟨l,pl,ts,TI,v,ss.length,L,rfl,hI.same au,hT,X _ _ (s8 _ _ ab),λJ9 s9=>?_⟩;apply vI (by decide) ?_;show qfa ?_;ext;rw[show decide (((oft TI v L:Nat):Int) % 2=1)=decide (oft TI v L % 2=1) from Yc.mpr (by lk),qaX hv];have nl:=qa3 (n:=ss.length) (TI:=TI) (cl:=cl) (s:=st) (c:=!cl st);show qI (λh=>?_) (λh=>?_)
           .ext;show⟨by rw[ya];show qg (qaO (by lk)),X.trans s9,?_⟩;rw[yH h];show _=List.map iv _;rw[yt];rfl
           .show⟨X.trans s9,?_⟩;rw[yB h,y6]
          .obtain⟨X,rfl⟩:=d;rw[jf (nr TI cl ss.length st (!cl st)),yD];have nl:=qa3 (n:=ss.length) (TI:=TI) (cl:=cl) (s:=st) (c:=!cl st);have fl:=yG (λv=>decide (oft TI v L % 2=1)) (nr TI cl ss.length st (!cl st));show⟨by rw[ya];show yI (qg (by lk)),λr D=>?_⟩;have s9:=qu (al.trans X) (o:=.lst (ivs ((nr TI cl ss.length st (!cl st)).filter λv=>decide (oft TI v L % 2=1)))) D;have e9:upd J r (.lst (ivs ((nr TI cl ss.length st (!cl st)).filter λv=>decide (oft TI v L % 2=1)))) r=some (.lst (ivs ((nr TI cl ss.length st (!cl st)).filter λv=>decide (oft TI v L % 2=1)))):=qb;generalize upd J r (.lst (ivs ((nr TI cl ss.length st (!cl st)).filter λv=>decide (oft TI v L % 2=1))))=J9 at s9 e9;apply⟨wqqi,λz2 aj=>?_⟩;have sA:=qu s9 (o:=.lst []) aj;have Z:=qu (Sr J9) (o:=.lst []) aj _ _ e9;have ad:upd J9 z2 (.lst []) z2=some (.lst []):=qb;generalize upd J9 z2 (.lst [])=JA at sA Z ad;show qf4 Z ad (qL _ _ sA ?_);rw[kW,kl,Xk];show⟨λh=>⟨nd,ah,λf hf=>?_,I⟩,λh v hv=>?_⟩
           .have:=h f hf;rw[yJ] at this;lk
           .rw [yJ];have:=h.2.2.1 v hv;lk
       .rw [yk (show ¬ (m:Int)=(L.length:Int) from λz=>nd (G.mp (by lk)))];show jp ?_;apply qL false _ s5 ⟨λz=>(by cases z),λz=>absurd z.1 nd⟩
      .rw [yk I];show jp ?_;apply qL false _ ak ⟨λz=>(by cases z),λz=>absurd z.2.2.2 I⟩
  .have ag:∀(a:Addr) (xs:List V),v=.ref a->H a≠some (.lst xs):=λa xs e e'=>B ⟨a,xs,e,e'⟩
   obtain⟨t,ht,he,ty⟩:∃ t:String,t∈wqa/\qbN t "list"=false/\TyOf K H v (.type t):=by
    cases hv with
    | flat f l =>
     cases v with
     | non=>show⟨_,by simp,rfl,.non⟩
     | bl b=>show⟨"bool",by simp,rfl,.bl b⟩
     | int i=>show⟨"int",by simp,rfl,.int i⟩
     | str z=>show⟨"str",by simp,rfl,.str z⟩
     | _=>cases f
    | lst e ne h l=>show absurd e (ag _ _ rfl)
    | tup e ne h l=>show⟨"tuple",by simp,rfl,.tup e⟩
    | dct e ne=>show⟨"dict",by simp,rfl,.dK e⟩
   show zy (.inl ty) rfl (je K t ht "list" (by simp)) ?_;rw[he];apply jp ?_;apply q false _ (Sr H) ⟨λz=>(by cases z),λ⟨gs,⟨a,e1,e2,_⟩,_⟩=>absurd e2 (ag a _ e1)⟩
theorem ok_lod(F:Fun K "_law_is_odd" "_law_is_odd" j0 f fd)(T:Txt K mg cc cw)(ua:wqqe 3 "_law_near" wqc (spNrI false))(uo:wqqe 3 "_law_far" wqc (spNrI true))(uI:wqqe 2 "_law_often" wqk spOf):wqqg 4 f fd wqd (spLe true):=by
 show F.ok uf λ_ _ _ s H vs Q E hr h=>?_
 .obtain⟨p,n,l,ss,ts,TI,st,cl,v,rfl,hN,hn,hI,hT,ac,hs,hC,hv,ab,q⟩:=h;rw[yH rfl] at q;have I:=jJ hr;show⟨_,(qd (qJ (PW.pt (zU (qS (qN (qj (jY (K:=K) rfl) rfl T.b_isinstance yV (qa (pv 3) (qa (qY (v:=.ty "list") rfl T.b_list xr rfl) qc))))) (zu (qS (qN (qj (qdI (K:=K) rfl rfl) rfl T.b_all kx (qa (qG (sc:=qf j0) (XN:=wh) wqj 1 [0] rfl rfl rfl (by room) rfl (by room)
  (qF (K:=K) rfl (pv 3)) (λ_ _ _ _=>(qo (i:=0) (show(wqj:LS).Nodup by room) rfl (yF rfl))) qE
  (λ_ _ _ _=>jh)
  (λ_ _ _ _=>(zv (qj (jY (K:=K) rfl) rfl T.b_isinstance yV (qa (pv 0) (qa (qY (v:=.ty "str") rfl T.b_str boot_str rfl) qc))) (j4 (jk (qaC (K:=K) rfl I) (pv 0) (pv 1) (by with_unfolding_all rfl)))))) qc))))))) (qe (qm jW)) qt)
 (qd (qq (i:=4) uf.nd rfl (Xl rfl) (qG (sc:=qf j0) (XN:=wh) wqj 1 [0] rfl rfl rfl (by room) rfl (by room)
  (qF (K:=K) rfl (pv 3)) (λ_ _ _ _=>(qo (i:=0) (show(wqj:LS).Nodup by room) rfl (yF rfl))) qE
  (λ_ _ _ _=>jh)
  (λ_ _ _ _=>(qcN (K:=K) rfl yO XF PySem.F.type_list_index (qfy (K:=K) rfl) (pv 1) (qa (pv 0) qc)))))
 (qd (qq (i:=5) uf.nd rfl (Xl rfl) (qi uo (hmR hr) qr (qa (pv 1) (qa (pv 2) qc))))
 (qd (qJ (PW.pt (zU (qp (qaK (K:=K) rfl I) (qj (qgN) rfl T.b_len YM (qa (jz (qgM (K:=K) rfl rfl) rfl T.b_set boot_set (qa (pv 4) qc)) qc)) (qj (zx (K:=K) rfl) rfl T.b_len YM (qa (pv 4) qc)) (qv _)) (zu (qp (qaK (K:=K) rfl I) (qG (sc:=qf j0) (XN:=wh) ["_law_one","_law_others"] 1 [5] rfl rfl rfl (by room) rfl (by room)
  (qF (K:=K) rfl (pv 4)) (λ_ _ _ _=>(qo (i:=0) (show(["_law_one","_law_others"]:LS).Nodup by room) rfl (yF rfl))) qE
  (λ_ _ _ _=>(qP (qp (zO (K:=K) rfl I) (pv 0) (pv 1) (by with_unfolding_all rfl))))
  (λ_ _ _ _=>(pv 0))) (qA qc) (qv _))))) (qe (qm jW)) qt)
 (qe (qm (jk (zA (K:=K) rfl I) (qG (sc:=qf j0) (XN:=wh) wqX 1 [1,4] rfl rfl rfl (by room) rfl (by room)
  (qF (K:=K) rfl (qi ua (hmR hr) qr (qa (pv 1) (qa (pv 2) qc)))) (λ_ _ _ _=>(qo (i:=0) (show(wqX:LS).Nodup by room) rfl (yF rfl))) qE
  (λ_ _ _ _=>(qP (qp (zA (K:=K) rfl I) (qz zh (qi uI (hmR hr) qr (qa (pv 1) (qa (pv 0) (qa (pv 2) qc)))) qh) qh (qv _))))
  (λ_ _ _ _=>(pv 0))) (qA (qa (pv 2) qc)) (qv _)))))))),?_⟩
  ext;by_cases B:∃ a xs,v=.ref a/\H a=some (.lst xs)
  .obtain⟨a,xs,rfl,A⟩:=B
   obtain⟨ar,ay⟩:(∀ y∈xs,Th p H 2 y)/\xs.length<=1000:=by
    cases hv with
    | lst e ne h l=>rw[A] at e;cases e;show⟨h,l⟩
    | tup e ne h l=>rw[A] at e;cases e
    | dct e ne=>rw[A] at e;cases e
    | flat f l=>cases f
   have aj:=ab a xs rfl A;show zy (.inl (.lst A)) rfl (je K "list" (by simp) "list" (by simp)) ?_;apply yp ?_;apply .inl ⟨⟨_,.of A⟩,qx (xs:=xs) (λi ys J=>J=H/\ys=((xs.take i).map λy=>V.bl (zc ss y))) ⟨rfl,by simp⟩ (λi ys J _ C=>by rw[C.1];show .of A) (λi y ys J hy C=>?_) λys J C=>?_⟩
   .obtain⟨rfl,rfl⟩:=C;have am:i<xs.length:=(yc.mp hy).1;have aq:=ar y (ye hy);obtain⟨t,ht,ty,ap,aw,_,_,_⟩:=aq.ty (K:=K);apply jp ?_;apply zy (.inl ty) rfl (je K t ht "str" (by simp)) ?_;ext
    have key:∀ b,b=zc ss y->(List.map (λy=>V.bl (zc ss y)) (List.take i xs)).length<sizeLine/\J=J/\List.map (λy=>V.bl (zc ss y)) (List.take i xs)++[V.bl b]=List.map (λy=>V.bl (zc ss y)) (List.take (i+1) xs):=λb hb=>by
     show⟨by rw[ya,yN];show qg (by lk),rfl,?_⟩;rw[hb,yL,hy,yt];rfl
    show qI (λh=>?_) λh=>?_
    .obtain⟨z,rfl,_⟩:=ap h;apply qbw hN (key _ rfl)
    .show key false ?_
     cases y with
     | str z=>show absurd (by cases ty;rfl) h
     | _=>rfl
   .obtain⟨rfl,rfl⟩:=C;rw[yD];show⟨by rw[ya];show yI (qg (by lk)),λb hb=>?_⟩;have R:=qu (Sr J) (o:=.lst (xs.map λy=>V.bl (zc ss y))) hb;have eb:upd J b (.lst (xs.map λy=>V.bl (zc ss y))) b=some (.lst (xs.map λy=>V.bl (zc ss y))):=qb;generalize upd J b (.lst (xs.map λy=>V.bl (zc ss y)))=J2 at R eb;apply⟨b,xs.map (zc ss),rfl,SqL.of (by rw[YL];show eb),?_⟩;rw[xA];ext
    cases g:xs.all (zc ss) with
    | false =>
     rw[show xs.all (id ∘ zc ss)=false from g];show jp ?_;apply q false _ R ⟨λz=>(by cases z),λ⟨gs,hg,_⟩=>absurd hg (qf3 λc ys e1 e2=>?_)⟩;cases e1;rw[A] at e2;rw[<- HO.lst.inj (yl e2)];show g
    | true =>
     rw[show xs.all (id ∘ zc ss)=true from g];show yp ?_;obtain⟨L,rfl,hL⟩:=qdh g;rw[qw] at aj;have qL:=λ(b:Bool) H' s h=>q b H' s ((h:b=true↔OdS TI cl ss.length st L).trans (odV_iff hn A hL).symm);apply .inl ⟨⟨_,.of (R _ _ A)⟩,qx (xs:=qH ss L) (λi ys J=>J=J2/\ys=ivs (L.take i)) ⟨rfl,by simp⟩ (λi ys J _ C=>by rw[C.1];show .of (R _ _ A)) (λi y ys J hy C=>?_) λys J C=>?_⟩
     .obtain⟨rfl,rfl⟩:=C;obtain⟨u,O,rfl⟩:=zl hy;have ag:=hL u (ye O);have am:i<L.length:=(yc.mp O).1;apply jp ?_;apply⟨.inl ⟨rfl,_,.of (R _ _ hN)⟩,?_⟩;apply⟨n,ss,tn ss u,rfl,rfl,SqL.of (R _ _ hN),jP ag,?_⟩;rw[qaL hn ag];show⟨by rw[jf,yN];show qg (by lk),rfl,?_⟩;rw[yL,O];show _=List.map iv _;rw[yt];rfl
     .obtain⟨rfl,rfl⟩:=C;rw[qw,yD];show⟨by rw[jf];show yI (qg (by lk)),λpl ao=>?_⟩;have s3:=qu R (o:=.lst (ivs L)) ao;have ep:upd J pl (.lst (ivs L)) pl=some (.lst (ivs L)):=qb;generalize upd J pl (.lst (ivs L))=J3 at s3 ep;apply⟨l,ts,TI,st,ss.length,cl,rfl,hI.same s3,hT,ac,hs,hC,λaz J4 s4 D er=>?_⟩;have as:=s3.trans s4;rw[Xz] at er;have X:=s4 _ _ ep;apply⟨pl,L.map λ(v:Nat)=>(v:Int),rfl,SqL.of (by rw[YL];show X),by rw[ya];lk,λsl S m N an G=>?_⟩;rw[ya] at an G;rw[qg4] at G;have s5:=qu as (o:=.set S m) N;have j:=qu (Sr J4) (o:=.set S m) N _ _ X;have aa:=qu (Sr J4) (o:=.set S m) N _ _ er;apply⟨sl,S,m,rfl,qb,?_⟩;generalize upd J4 sl (.set S m)=J5 at s5 j aa;apply qaJ j ?_;rw[jf];show qhi ?_;ext;by_cases nd:L.Nodup
      .rw [yv (show(m:Int)=(L.length:Int) by rw[G.mpr nd])];show yp ?_;apply .inl ⟨⟨_,.of j⟩,qx (xs:=ivs L) (λi ys J=>J=J5/\ys=ivs ((L.take i).filter λv=>!decide (v∈nr TI cl ss.length st (!cl st)))) ⟨rfl,by simp⟩ (λi ys J _ d=>by rw[d.1];show .of j) (λi x ys J hx d=>?_) λys J d=>?_⟩
       .obtain⟨rfl,rfl⟩:=d;rw[yd] at hx;obtain⟨v,hv,rfl⟩:=ym.mp hx;apply qhh aa ?_;ext;rw[qaX hv];show qI (λh=>?_) (λh=>?_)
        .ext;show⟨by rw[ya];show qg (qaO (by lk)),rfl,?_⟩;rw[yH h];show _=List.map iv _;rw[yt];rfl
        .show⟨rfl,?_⟩;rw[yB h,y6]
       .obtain⟨rfl,rfl⟩:=d;rw[jf L,yD];have fl:=yG (λv=>!decide (v∈nr TI cl ss.length st (!cl st))) L;show⟨by rw[ya];show yI (qg (by lk)),λr D=>?_⟩;have s6:=qu s5 (o:=.lst (ivs (L.filter λv=>!decide (v∈nr TI cl ss.length st (!cl st))))) D;have e6:upd J r (.lst (ivs (L.filter λv=>!decide (v∈nr TI cl ss.length st (!cl st))))) r=some (.lst (ivs (L.filter λv=>!decide (v∈nr TI cl ss.length st (!cl st))))):=qb;have Y:=qu (Sr J) (o:=.lst (ivs (L.filter λv=>!decide (v∈nr TI cl ss.length st (!cl st))))) D _ _ j;generalize upd J r (.lst (ivs (L.filter λv=>!decide (v∈nr TI cl ss.length st (!cl st)))))=J6 at s6 e6 Y;apply⟨wqqi,λz hz=>?_⟩;have s7:=qu s6 (o:=.lst []) hz;have W:=qu (Sr J6) (o:=.lst []) hz _ _ e6;have Z:=qu (Sr J6) (o:=.lst []) hz _ _ Y;have ez:upd J6 z (.lst []) z=some (.lst []):=qb;generalize upd J6 z (.lst [])=J7 at s7 W Z ez;show qfX W ez ?_;ext
        have em:(ivs (L.filter λv=>!decide (v∈nr TI cl ss.length st (!cl st)))).isEmpty=true↔∀ v∈L,v∈nr TI cl ss.length st (!cl st):=by
         rw[kW,kl,Xk];show⟨λh v hv=>xL λz=>h v hv (by rw[yk z];rfl),λh v hv=>by rw[yv (h v hv)];decide⟩
        cases M:(ivs (L.filter λv=>!decide (v∈nr TI cl ss.length st (!cl st)))).isEmpty with
        | false =>
         show jp ?_;apply qL false _ s7 ⟨λz=>(by cases z),λz=>by rw[em.mpr z.2.1] at M;cases M⟩
        | true =>
         have af:=em.mp M;show yp ?_;apply⟨l,ts,TI,st,ss.length,cl,rfl,hI.same s7,hT,ac,hs,hC,λfr J8 s8 av ef=>?_⟩;rw[YS] at ef;have ai:=s7.trans s8;show .inl ⟨⟨_,.of ef⟩,qx (xs:=ivs (nr TI cl ss.length st (cl st))) (λi ys J=>L2.Same J8 J/\ys=ivs (((nr TI cl ss.length st (cl st)).take i).filter λv=>decide (oft TI v L % 2=1))) ⟨L2.Same.refl J8,by simp⟩ (λi ys J _ d=>.of (d.1 _ _ ef)) (λi x ys J hx d=>?_) λys J d=>?_⟩
         .obtain⟨U,rfl⟩:=d;rw[yd] at hx;obtain⟨v,hv,rfl⟩:=ym.mp hx;have ax:=nr_mem.mp (ye hv);have au:=ai.trans U;apply⟨l,pl,ts,TI,v,ss.length,L,rfl,hI.same au,hT,U _ _ (s8 _ _ Z),λJ9 s9=>?_⟩;apply vI (by decide) ?_;show qfa ?_;ext;rw[show decide (((oft TI v L:Nat):Int) % 2=1)=decide (oft TI v L % 2=1) from Yc.mpr (by lk),qaX hv];have nl:=qa3 (n:=ss.length) (TI:=TI) (cl:=cl) (s:=st) (c:=cl st);show qI (λh=>?_) (λh=>?_)
          .ext;show⟨by rw[ya];show qg (qaO (by lk)),U.trans s9,?_⟩;rw[yH h];show _=List.map iv _;rw[yt];rfl
          .show⟨U.trans s9,?_⟩;rw[yB h,y6]
         .obtain⟨U,rfl⟩:=d;rw[jf (nr TI cl ss.length st (cl st)),yD];have nl:=qa3 (n:=ss.length) (TI:=TI) (cl:=cl) (s:=st) (c:=cl st);have fl:=yG (λv=>decide (oft TI v L % 2=1)) (nr TI cl ss.length st (cl st));show⟨by rw[ya];show yI (qg (by lk)),λr D=>?_⟩;have s9:=qu (ai.trans U) (o:=.lst (ivs ((nr TI cl ss.length st (cl st)).filter λv=>decide (oft TI v L % 2=1)))) D;have e9:upd J r (.lst (ivs ((nr TI cl ss.length st (cl st)).filter λv=>decide (oft TI v L % 2=1)))) r=some (.lst (ivs ((nr TI cl ss.length st (cl st)).filter λv=>decide (oft TI v L % 2=1)))):=qb;generalize upd J r (.lst (ivs ((nr TI cl ss.length st (cl st)).filter λv=>decide (oft TI v L % 2=1))))=J9 at s9 e9;apply⟨wqqj,λz2 ah=>?_⟩;have sA:=qu s9 (o:=.lst (ivs [st])) ah;have ak:=qu (Sr J9) (o:=.lst (ivs [st])) ah _ _ e9;have al:upd J9 z2 (.lst (ivs [st])) z2=some (.lst (ivs [st])):=qb
          have key:Q (.bl (decide (((nr TI cl ss.length st (cl st)).filter λv=>decide (oft TI v L % 2=1))=[st]))) (upd J9 z2 (.lst (ivs [st]))):=by
           show qL _ _ sA ?_;rw[yJ];have ae:st∈nr TI cl ss.length st (cl st):=nr_mem.mpr ⟨hs,.refl,rfl⟩;constructor
           .intro h;show⟨nd,af,λu I=>?_⟩;have:u∈((nr TI cl ss.length st (cl st)).filter λv=>decide (oft TI v L % 2=1))↔u=st:=by rw[h,yr]
            rw[<- this,yo,yJ];show⟨λz=>⟨I,z⟩,λz=>z.2⟩
           .intro h;show qdd (· < ·) (λa=>Yw a) (λa b h k=>Nat.lt_asymm h k) _ _ (nr_inc.filter _) (by simp) λu=>?_;rw[yo,yJ,yr];constructor
            .rintro ⟨h1,h2⟩;show(h.2.2 u h1).mp h2
            .rintro rfl;show⟨ae,(h.2.2 u ae).mpr rfl⟩
          show vEqIs ak al key
      .rw [yk (show ¬ (m:Int)=(L.length:Int) from λz=>nd (G.mp (by lk)))];show jp ?_;apply qL false _ s5 ⟨λz=>(by cases z),λz=>absurd z.1 nd⟩
  .have ad:∀(a:Addr) (xs:List V),v=.ref a->H a≠some (.lst xs):=λa xs e e'=>B ⟨a,xs,e,e'⟩
   obtain⟨t,ht,he,ty⟩:∃ t:String,t∈wqa/\qbN t "list"=false/\TyOf K H v (.type t):=by
    cases hv with
    | flat f l =>
     cases v with
     | non=>show⟨_,by simp,rfl,.non⟩
     | bl b=>show⟨"bool",by simp,rfl,.bl b⟩
     | int i=>show⟨"int",by simp,rfl,.int i⟩
     | str z=>show⟨"str",by simp,rfl,.str z⟩
     | _=>cases f
    | lst e ne h l=>show absurd e (ad _ _ rfl)
    | tup e ne h l=>show⟨"tuple",by simp,rfl,.tup e⟩
    | dct e ne=>show⟨"dict",by simp,rfl,.dK e⟩
   show zy (.inl ty) rfl (je K t ht "list" (by simp)) ?_;rw[he];apply jp ?_;apply q false _ (Sr H) ⟨λz=>(by cases z),λ⟨gs,⟨a,e1,e2,_⟩,_⟩=>absurd e2 (ad a _ e1)⟩
theorem ug:FnScope ["_law_web_here","_law_names_here","_law_ties","_law_start","_law_thing","_law_kept","_law_found"] wqn (qf qaY):=fS
def ReS(J:Hp)(v:V)(txt:Str):Prop:=(∃ d,Dat J v d/\Shw d (2 ^ 20) 60/\txt=d.shown)\/∃(a:Addr) (ks:LS),v=.ref a/\J a=some (.dK (ks.map ktP))/\(∀ k∈ks,k.length<=6/\∀ c∈k.cps.toList,c<16 ^ 8)/\ks.length<=100/\txt=(ktD ks).shown
theorem ReS.same(h:ReS J v txt)(s:L2.Same J J'):ReS J' v txt:=by
 rcases h with⟨d,h1,b⟩ | ⟨a,ks,e,h1,b⟩
 .show .inl ⟨d,h1.same s,b⟩
 .show .inr ⟨a,ks,e,s _ _ h1,b⟩
theorem ReS.rep{Q:VK}(h:ReS J v txt)(q:Q (.str txt) J):qfF [v] J Q:=by
 rcases h with⟨d,h1,b,rfl⟩ | ⟨a,ks,rfl,h1,b,c,rfl⟩
 .show .inl ⟨v,d,rfl,h1,b,q⟩
 .show .inr ⟨a,ks,rfl,h1,b,c,q⟩
def ThJ(x:Addr)(H:Hp)(v:V):Prop:=Th x H 3 v/\(∀ a xs,v=.ref a->H a=some (.lst xs)->xs.length<=100)/\∃ txt,ReS H v txt
theorem Th.l100(t:Th p H n v)(h:∀ a xs,v=.ref a->H a=some (.lst xs)->xs.length<=100)(s:L2.Same H H'):∀ a xs,v=.ref a->H' a=some (.lst xs)->xs.length<=100:=λa xs e b=>by
 cases t with
 | flat f l=>rw[e] at f;cases f
 | lst e1 ne h' l=>cases e;rw[s _ _ e1] at b;show h _ _ rfl (e1.trans b)
 | tup e1 ne h' l=>cases e;rw[s _ _ e1] at b;cases b
 | dct e1 ne=>cases e;rw[s _ _ e1] at b;cases b
theorem ThJ.same(h:ThJ x H v)(s:L2.Same H H'):ThJ x H' v:=⟨h.1.same s,h.1.l100 h.2.1 s,h.2.2.imp λ_ h=>h.same s⟩
structure GwJ(cw:Addr)(H:Hp)(x n l:Addr)(ss:LS)(ns:LN)(ts:LI)(TI:List (Nat×Nat))(cl:Nat->Bool):Prop where
 w:Wt cw H x ss ns (TI.map (nmP ss))
 n:H n=some (.lst (ss.map V.str))
 i:IPL H l ts TI
 t:TIok ss.length TI
 nm:∀ s∈ss,jx s=true
 c:∀ a b,adjI TI a b->cl b=!cl a
theorem GwJ.same{n:Addr}{TI:List (Nat×Nat)}(h:GwJ cw H x n l ss ns ts TI cl)(s:L2.Same H H'):GwJ cw H' x n l ss ns ts TI cl:=⟨h.w.same s,s _ _ h.n,h.i.same s,h.t,h.nm,h.c⟩
theorem vEqBB{p q:Bool}{Q:VK}(g:H a=some (.lst [.bl p,.bl q]))(hb:H b=some (.lst [.bl p,.bl q]))(r:Q (.bl true) H):qgG K (.ref a) (.ref b) H Q:=by
 have z:=EqT.lst (K:=K) (H:=H) (n:=0) (e:=λ_=>true) (SqL.of g) (SqL.of hb) rfl λj x y h1 d=>by
  rw[h1] at d;cases d;have f:=ye h1;simp only[yy,yR,YJ] at f
  have k:∀ c:Bool,EqD K H 0 (.bl c) (.bl c) true:=λc=>by
   have:=EqD.flat (K:=K) (H:=H) (n:=0) (x:=V.bl c) (y:=V.bl c) rfl rfl
   rwa[show eqV (V.bl c) (V.bl c)=true by cases c<;>rfl] at this
  rcases f with rfl | rfl<;>show k _
 show .inl (.inl (.inr (.inl ⟨a,b,_,1,rfl,rfl,by decide,z,r⟩)))
inductive spJu(cw:Addr)(vs:List V)(H:Hp)(Q:VK)(E:XK):Prop|mk (x n l:Addr) (ss:LS) (ns:LN) (ts:LI) (TI:List (Nat×Nat)) (cl:Nat->Bool) (s:Nat) (v:V) (_:vs=[.ref x,.ref n,.ref l,iv s,v]) (_:GwJ cw H x n l ss ns ts TI cl) (_:s<ss.length) (_:ThJ x H v) (_:∀ H',L2.Same H H'->Q (.bl true) H')
theorem ok_ju(F:Fun K "_law_judged" "_law_judged" qaY f fd)(T:Txt K mg cc cw)(UU:wqqe 11 "is_even" wqA (spIe cw false))(U1:wqqe 12 "is_odd" wqA (spIe cw true))(UE:wqqe 4 "_law_is_even" wqd (spLe false))(UL:wqqe 4 "_law_is_odd" wqd (spLe true)):wqqg 13 f fd wqn (spJu cw):=by
 show F.ok ug λ_ _ _ _ H vs Q E p h=>?_
 .obtain⟨x,n,l,ss,ns,ts,TI,cl,st,v,rfl,G,s,hv,q⟩:=h;have m:=jJ p;obtain⟨txt,S⟩:=hv.2.2;have hn:=G.w.wok.nd;have few:=G.w.wok.few;show⟨_,(qd (qq (i:=5) ug.nd rfl (yF rfl) (qj (qc6 (K:=K) rfl m p.gd T.smod) rfl T.b_repr boot_repr (qa (pv 4) qc)))
 (qd (qq (i:=6) ug.nd rfl (yF rfl) (qA (qa (qi UU (hmR p) qr (qa (pv 0) (qa (qB (qC (K:=K) rfl m) (pv 1) (pv 3) (λ_ _=>rfl)) (qa (pv 4) qc)))) (qa (qi U1 (hmR p) qr (qa (pv 0) (qa (qB (qC (K:=K) rfl m) (pv 1) (pv 3) (λ_ _=>rfl)) (qa (pv 4) qc)))) qc))))
 (qd (qJ (PW.pt (zU (qS (qN (qj (jY (K:=K) rfl) rfl T.b_isinstance yV (qa (qB (qC (K:=K) rfl m) (pv 6) qh (λ_ _=>rfl)) (qa (qY (v:=.ty "bool") rfl T.b_bool boot_bool rfl) qc))))) (zU (qS (qN (qj (jY (K:=K) rfl) rfl T.b_isinstance yV (qa (qB (qC (K:=K) rfl m) (pv 6) qh (λ_ _=>rfl)) (qa (qY (v:=.ty "bool") rfl T.b_bool boot_bool rfl) qc))))) (zu (qp (qaK (K:=K) rfl m) (qj (qc6 (K:=K) rfl m p.gd T.smod) rfl T.b_repr boot_repr (qa (pv 4) qc)) (pv 5) (qv _)))))) (qe (qm jW)) qt)
 (qe (qm (jk (zA (K:=K) rfl m) (pv 6) (qA (qa (qi UE (hmR p) qr (qa (pv 1) (qa (pv 2) (qa (pv 3) (qa (pv 4) qc))))) (qa (qi UL (hmR p) qr (qa (pv 1) (qa (pv 2) (qa (pv 3) (qa (pv 4) qc))))) qc))) (qv _))))))),?_⟩
  apply S.rep ?_;apply qbQ G.n s ?_;apply⟨x,ss,ns,TI,st,cl,v,rfl,⟨G.w,G.t,G.nm,hv.1⟩,s,G.c,λe H1 u h1=>?_⟩;rw[yB (by decide)] at h1;have J:=G.same u;have v1:=hv.same u;apply qbQ J.n s ?_;apply⟨x,ss,ns,TI,st,cl,v,rfl,⟨J.w,G.t,G.nm,v1.1⟩,s,G.c,λj H2 s2 N=>?_⟩;rw[yH rfl] at N;have I:=u.trans s2;apply⟨wqqk,λC D=>?_⟩;have r:=qu I (o:=.lst [.bl e,.bl j]) D;have y:upd H2 C (.lst [.bl e,.bl j]) C=some (.lst [.bl e,.bl j]):=qb;generalize upd H2 C (.lst [.bl e,.bl j])=H3 at r y;apply .inl (qbW y (v:=.bl e) rfl ?_);apply zy (.inl (.bl e)) rfl (je K "bool" (by simp) "bool" (by simp)) ?_;apply yp ?_;apply .inl (qbW y (v:=.bl j) rfl ?_);apply zy (.inl (.bl j)) rfl (je K "bool" (by simp) "bool" (by simp)) ?_;apply yp ?_;apply(S.same r).rep ?_;apply qhU ?_;rw[yv rfl];apply yp ?_;ext;have L:=G.same r;have Y:=hv.same r;show⟨x,n,l,ss,ts,TI,st,cl,v,rfl,L.n,hn,L.i,G.t,few,s,G.c,Y.1,Y.2.1,λb3 H4 W O=>?_⟩;rw[yB (by decide)] at O;have d:=r.trans W;have M:=G.same d;have Z:=hv.same d;apply⟨x,n,l,ss,ts,TI,st,cl,v,rfl,M.n,hn,M.i,G.t,few,s,G.c,Z.1,Z.2.1,λb4 H5 X R=>?_⟩;rw[yH rfl] at R
  have z:b3=e:=by
   rw[Ye,O,h1];show⟨λ⟨gs,a,b⟩=>⟨gs,a.back hv.1 r,b⟩,λ⟨gs,a,b⟩=>⟨gs,a.same r,b⟩⟩
  have A:b4=j:=by
   rw[Ye,R,N];have aa:L2.Same H H1:=u;show⟨λ⟨gs,a,b⟩=>⟨gs,(a.back hv.1 d).same u,b⟩,λ⟨gs,a,b⟩=>⟨gs,(a.back hv.1 u).same d,b⟩⟩
  rw[z,A];show⟨wqqk,λg U=>?_⟩;have s6:=qu (d.trans X) (o:=.lst [.bl e,.bl j]) U;have B:=qu (Sr H5) (o:=.lst [.bl e,.bl j]) U _ _ (X _ _ (W _ _ y));show vEqBB B qb (q _ s6)
theorem KD:FnScope ["_law_names_here","_law_ties","_law_start","_law_cell","_law_some","_law_bits","_law_found","_law_place"] wqt (qf qaZ):=fS
inductive spCs(vs:List V)(H:Hp)(Q:VK)(E:XK):Prop|mk (n l:Addr) (ss:LS) (ts:LI) (TI:List (Nat×Nat)) (s:Nat) (cl:Nat->Bool) (c:Int) (_:vs=[.ref n,.ref l,iv s,.int c]) (_:H n=some (.lst (ss.map V.str))) (_:IPL H l ts TI) (_:TIok ss.length TI) (_:ss.length<=14) (_:s<ss.length) (_:(∀ a b,adjI TI a b->cl b=!cl a)) (_:∀(r:Addr) (L:LN) (H':Hp),L2.Same H H'->H r=none->H' r=some (.lst (qH ss L))->L.length<=14->(∀ u∈L,u<ss.length)->Q (.ref r) H')
theorem ok_cs(F:Fun K "_law_chosen" "_law_chosen" qaZ f fd)(T:Txt K mg cc cw)(ua:wqqe 3 "_law_near" wqc (spNrI false))(uo:wqqe 3 "_law_far" wqc (spNrI true)):wqqg 4 f fd wqt spCs:=by
 show F.ok KD λ_ _ _ _ H vs Q E Z h=>?_
 .obtain⟨n,l,ss,ts,TI,st,cl,c,rfl,hN,hI,hT,s,hs,hC,q⟩:=h;have m:=jJ Z;show⟨_,(qd (qq (i:=4) KD.nd rfl (yF rfl) (qB (qC (K:=K) rfl m) (qA (qa (pe_lrng rfl rfl rfl T.b_list T.b_range (qa (qj (zx (K:=K) rfl) rfl T.b_len YM (qa (pv 0) qc)) qc)) (qa (qi ua (hmR Z) qr (qa (pv 1) (qa (pv 2) qc))) (qa (qi uo (hmR Z) qr (qa (pv 1) (qa (pv 2) qc))) qc)))) (qz zh (pv 3) qh) (λ_ _=>rfl)))
 (qd (qq (i:=5) KD.nd rfl (yF rfl) (qz qcc (pv 3) qh))
 (qd (qq (i:=6) KD.nd rfl (yF rfl) (qA qc))
 (qd (jy yW rfl (qF (K:=K) rfl (pv 4)) (qo (i:=7) KD.nd rfl (yF rfl))
 (qd (qJ (qp (zA (K:=K) rfl m) (qz zh (pv 5) qh) qh (qv _)) (qe (qK (qcN (K:=K) rfl yO yT yU qR (pv 6) (qa (qB (qC (K:=K) rfl m) (pv 0) (pv 7) (λ_ _=>rfl)) qc)))) qt)
 (qe (qq (i:=5) KD.nd rfl (yF rfl) (qz qcc (pv 5) qh)))))
 (qd (qJ (qp (zA (K:=K) rfl m) (qz zh (qz qcc (pv 3) qh) qh) qh (qv _)) (qe (qm (qgH (K:=K) rfl (pv 6) (qa5 (qdu qbM qh))))) qt)
 (qe (qm (pv 6)))))))),?_⟩
  apply vLR ?_;apply qaJ hN ?_;rw[ya];show⟨ss.length,rfl,by lk,λa ha=>?_⟩;have ea:(List.range ss.length).map (λi=>V.int ((i:Nat):Int))=ivs (List.range ss.length):=rfl;rw[ea];have s1:=qu (Sr H) (o:=.lst (ivs (List.range ss.length))) ha;have A:upd H a (.lst (ivs (List.range ss.length))) a=some (.lst (ivs (List.range ss.length))):=qb;generalize upd H a (.lst (ivs (List.range ss.length)))=H1 at s1 A;apply⟨l,ts,TI,st,ss.length,cl,rfl,hI.same s1,hT,s,hs,hC,λb H2 s2 ad hb=>?_⟩;have O:=s1.trans s2;apply⟨l,ts,TI,st,ss.length,cl,rfl,hI.same O,hT,s,hs,hC,λd W s3 ae U=>?_⟩;have ab:=O.trans s3;show⟨wqql,λo ho=>?_⟩;have s4:=qu ab (o:=.lst [.ref a,.ref b,.ref d]) ho;have sN:=qu (Sr W) (o:=.lst [.ref a,.ref b,.ref d]) ho;have eo:upd W o (.lst [.ref a,.ref b,.ref d]) o=some (.lst [.ref a,.ref b,.ref d]):=qb;replace A:=sN _ _ (s3 _ _ (s2 _ _ A));replace hb:=sN _ _ (s3 _ _ hb);replace U:=sN _ _ U;generalize upd W o (.lst [.ref a,.ref b,.ref d])=R at s4 eo A hb U;apply vI (by decide) ?_
  obtain⟨e,S,X,he,ac,hS⟩:∃(e:Addr) (S:LN),atI [V.ref a,.ref b,.ref d] (c % 3)=some (.ref e)/\R e=some (.lst (ivs S))/\S.length<=14/\∀ u∈S,u<ss.length:=by
   have hl:∀ z,(nr TI cl ss.length st z).length<=14:=λz=>yh qa3 s;have:c % 3=0\/c % 3=1\/c % 3=2:=by lk
   rcases this with z | z | z<;>rw[z]
   .show⟨a,_,rfl,A,by rw[Yh];show s,λu m=>Yu.mp m⟩
   .show⟨b,_,rfl,hb,hl _,λu m=>(nr_mem.mp m).1⟩
   .show⟨d,_,rfl,U,hl _,λu m=>(nr_mem.mp m).1⟩
  show .inl (qbW eo X ?_);apply vI ⟨by decide,by decide⟩ ?_;show⟨wqqi,λg D=>?_⟩;have s5:=qu s4 (o:=.lst []) D;have t:=qu (Sr R) (o:=.lst []) D _ _ he;have eg:upd R g (.lst []) g=some (.lst (qH ss [])):=qb;have G:=s4.free D;have ge:g≠e:=λz=>by rw[z,he] at D;cases D
  generalize upd R g (.lst [])=H5 at s5 t eg;apply .inl ⟨⟨_,.of t⟩,ju (xs:=ivs S) (λi σ J=>L2.Same H J/\J e=some (.lst (ivs S))/\∃(B:Int) (L:LN) (y:Option V),σ=[some (.ref n),some (.ref l),some (iv st),some (.int c),some (.ref e),some (.int B),some (.ref g),y]/\J g=some (.lst (qH ss L))/\L.length<=i/\∀ u∈L,u<ss.length) ⟨s5,t,_,[],_,rfl,eg,yg _,nofun⟩ (λi σ J _ I=>.of I.2.1) (λi y σ J hy I=>?_) fun σ J I=>?_⟩
  .obtain⟨x,v,B,L,y7,rfl,j,C,p⟩:=I;have Y:=(yc.mp hy).1;rw[jf] at Y;rw[yd] at hy;obtain⟨u,aa,rfl⟩:=ym.mp hy;have N:=hS u (ye aa);apply vI (by decide) ?_;show qfa ?_;apply qI (λh=>?_) λh=>?_
   .ext;show⟨.inl ⟨rfl,_,.of j⟩,?_⟩;apply qbQ (x _ _ hN) N ?_;show⟨g,_,_,rfl,rfl,j,by rw[qw];show qg (by lk),?_⟩;apply vI ⟨by decide,by decide⟩ ?_;show⟨qgo x G,by rw[qk (Yv ge)];show v,_,L++[u],_,rfl,?_,by rw[yx];show L.length+1<=_;lk,λw hw=>?_⟩
    .rw [qb];unfold qH;rw[yt,yt];rfl
    .rcases yK.mp hw with z | z
     .show p w z
     .rw [yr.mp z];show N
   .ext;show vI ⟨by decide,by decide⟩ ?_;show⟨x,v,_,L,_,rfl,j,by lk,p⟩
  .obtain⟨x,v,B,L,y7,rfl,j,C,p⟩:=I;rw[jf] at C;apply vI ⟨by decide,by decide⟩ ?_;apply vI (by decide) ?_;show qfa ?_;apply qI (λh=>?_) λh=>?_
   .ext;show qin ?_;apply vU ?_;apply⟨rfl,g,_,rfl,.of j,λr M=>?_⟩;show q r L.reverse _ (qu x M) (x.free M) ?_ (by rw[xz];lk) λu m=>p u (List.mem_reverse.mp m);rw[qb];unfold qH;rw[kU,kU]
   .ext;show q g L _ x G j (by lk) p
theorem j3{x:Str}(h:jx x=true):∀ c∈x.cps.toList,c<16 ^ 8:=by
 intro c hc;unfold jx at h;split at h
 .have a:=Yp.mp h c hc;by_cases b:c<16 ^ 8
  .show b
  .exfalso;unfold sg at a;split at a
   .have d:("z":Str).cps.toList=[122]:=rfl;rw[d] at a;have:([122]:LN) < [c]:=List.Lex.rel (by lk);simp[this] at a
   .cases a
 .cases h
theorem zd{x:Str}(h:jx x=true):x.length<=6:=(qbx (x:=.str x) h).2.2
def OkD(p:Addr)(J:Hp)(k n m:Nat)(v:V):Prop:=Th p J k v/\∃ d,Dat J v d/\Shw d n m
theorem OkD.mono{k n' m a:Nat}(h:OkD p J k n m v)(hn:n<=n')(hm:m<=a):OkD p J k n' a v:=⟨h.1,h.2.imp λ_ z=>⟨z.1,z.2.mono hn hm⟩⟩
section
variable{p:Addr}{J:Hp}
theorem OkD.str{k m:Nat}(h:∀ c∈s.cps.toList,c<16 ^ 8)(l:s.length<=100):OkD p J k 100 m (.str s):=⟨.flat rfl λz e=>by cases e;lk,_,.str s,(Shw.str h).mono l (yg _)⟩
theorem OkD.non{k m:Nat}:OkD p J k 100 m .non:=⟨.flat rfl (λz e=>by cases e),_,.non,Shw.non.mono (Yi _) (yg _)⟩
theorem OkD.bl{k m:Nat}{b:Bool}:OkD p J k 100 m (.bl b):=⟨.flat rfl (λz e=>by cases e),_,.bl b,Shw.bl.mono (Yi _) (yg _)⟩
theorem OkD.int{k m:Nat}{i:Int}(h1:-999999999999<=i)(a:i<=999999999999):OkD p J k 100 m (.int i):=⟨.flat rfl (λz e=>by cases e),_,.int i,(Shw.int h1 a).mono (Yi _) (yg _)⟩
theorem qcy{k m:Nat}:∀{xs:List V},(∀ y∈xs,OkD p J k n m y)->∃ a,DatS J xs a/\ShwS a ((n+1)*xs.length) m
 | [],_=>⟨[],.nil,ShwS.nil⟩
 | x::xs,h=>by
  obtain⟨d,b,c⟩:=(h x yC).2;obtain⟨a,e,f⟩:=qcy λy g=>h y (yw _ g);show⟨d::a,.cons b e,(ShwS.cons c f).mono ?_ (yg _)⟩;rw[Yb,Nat.mul_succ];lk
theorem OkD.lst{k m:Nat}(e:J a=some (.lst xs))(ne:a≠p)(l:xs.length<=30)(h:∀ y∈xs,OkD p J k n m y):OkD p J (k+1) ((n+1)*30) (m+1) (.ref a):=by
 obtain⟨f,b,c⟩:=qcy h;show⟨.lst e ne (λy d=>(h y d).1) (by lk),_,.lst e b,c.list.mono (Nat.mul_le_mul_left _ l) (yg _)⟩
theorem OkD.tup{k m:Nat}(e:J a=some (.tup xs))(ne:a≠p)(l:xs.length<=30)(h:∀ y∈xs,OkD p J k n m y):OkD p J (k+1) ((n+1)*30) (m+1) (.ref a):=by
 obtain⟨f,b,c⟩:=qcy h;show⟨.tup e ne (λy d=>(h y d).1) (by lk),_,.tup e b,c.tuple.mono (Nat.mul_le_mul_left _ l) (yg _)⟩
theorem OkD.dnil{k m:Nat}(e:J a=some (.dK []))(ne:a≠p):OkD p J k 100 (m+1) (.ref a):=⟨.dct e ne,_,.dnil e,(Shw.dnil (m:=m)).mono (Yi _) (yg _)⟩
theorem OkD.thj{k m:Nat}(c:k<=3)(h:OkD p J k n m v)(hn:n<=2 ^ 20)(hm:m<=60)(l:∀ a xs,v=.ref a->J a=some (.lst xs)->xs.length<=100):ThJ p J v:=by
 have t:∀{j:Nat},k+j<=3->Th p J (k+j) v:=λ{j} _=>by
  induction j with
  | zero=>show h.1
  | succ j ih=>show(ih (by lk)).mono
 have:=t (j:=3-k) (by lk);rw[show k+(3-k)=3 by lk] at this;obtain⟨d,h1,b⟩:=h.2;show⟨this,l,_,.inl ⟨d,h1,b.mono hn hm,rfl⟩⟩
end
theorem Kw:FnScope wql wqU (qf qT):=fS
theorem qcU{P:Nat->Prop}(a:∀ c∈z.cps.toList,P c):∀{xs:LS},(∀ x∈xs,∀ c∈x.cps.toList,P c)->∀ c∈(Str.join z xs).cps.toList,P c
 | [],_,c,h=>by cases h
 | [x],hx,c,h=>hx x yC c h
 | x::y::r,hx,c,h=>by
  have e:(Str.join z (x::y::r)).cps.toList=x.cps.toList++z.cps.toList++(Str.join z (y::r)).cps.toList:=by
   show((x.cps++z.cps)++(Str.join z (y::r)).cps).toList=_;rw[kj,kj]
  rw[e] at h;rcases yK.mp h with h | h
  .rcases yK.mp h with h | h
   .show hx x yC c h
   .show a c h
  .show qcU a (λw hw=>hx w (yw _ hw)) c h
structure PoS(p n m:Addr)(ss:LS)(L:LN)(H J:Hp):Prop where
 s:L2.Same H J
 p:∃ C dx fs,J p=some (.ins C dx fs)
 n:J n=some (.lst (ss.map V.str))
 m:J m=some (.lst (qH ss L))
 nm:∀ s∈ss,jx s=true
 lt:∀ u∈L,u<ss.length
 len:L.length<=14
 few:ss.length<=14
section
variable{p n m:Addr}{ss:LS}{L:LN}{H J J':Hp}
theorem PoS.same(h:PoS p n m ss L H J)(t:L2.Same J J'):PoS p n m ss L H J':=⟨h.s.trans t,by obtain⟨C,dx,fs,e⟩:=h.p;show⟨C,dx,fs,t _ _ e⟩,t _ _ h.n,t _ _ h.m,h.nm,h.lt,h.len,h.few⟩
theorem PoS.ne(h:PoS p n m ss L H J)(e:J a=none):a≠p:=λz=>by
 obtain⟨C,dx,fs,q⟩:=h.p;rw[z,q] at e;cases e
theorem PoS.mp(h:PoS p n m ss L H J):m≠p:=λz=>by
 obtain⟨C,dx,fs,q⟩:=h.p;rw[<- z,h.m] at q;cases q
theorem PoS.nms(h:PoS p n m ss L H J){k q:Nat}:∀ y∈qH ss L,OkD p J k 4000 q y:=λy b=>by
 obtain⟨z,c,rfl⟩:=yE.mp b;obtain⟨u,a,rfl⟩:=yE.mp c;have nm:=h.nm _ (jP (h.lt u a));show(OkD.str (j3 nm) (yh (zd nm) (by decide))).mono (by decide) (yg _)
theorem PoS.smV(h:PoS p n m ss L H J):OkD p J 1 4000 5 (.ref m):=by
 have l:=h.len;show(OkD.lst (k:=0) (n:=100) (m:=4) h.m h.mp (by rw[qw];lk) λy b=>?_).mono (by decide) (yg _);obtain⟨z,c,rfl⟩:=yE.mp b;obtain⟨u,a,rfl⟩:=yE.mp c;have nm:=h.nm _ (jP (h.lt u a));show OkD.str (j3 nm) (yh (zd nm) (by decide))
theorem PoS.lsV(h:PoS p n m ss L H J)(e:J a=some (.lst xs))(ne:a≠p)(l:xs.length<=30)(k:∀ y∈xs,OkD p J 1 4000 5 y):ThJ p J (.ref a):=
 (OkD.lst e ne l k).thj (by decide) (by decide) (by decide) λb ys d c=>by cases d;rw[e] at c;cases c;lk
theorem PoS.ls1(h:PoS p n m ss L H J){y:V}(e:J a=some (.lst (qH ss L++[y])))(ne:a≠p)(k:OkD p J 1 4000 5 y):ThJ p J (.ref a):=by
 have l:=h.len;show h.lsV e ne (by rw[yx,qw];show _+1<=30;lk) λz hz=>?_;rcases yK.mp hz with hz | hz
 .show h.nms z hz
 .rw [yr.mp hz];show k
theorem PoS.ls2(h:PoS p n m ss L H J){y:V}(e:J a=some (.lst ([y]++qH ss L)))(ne:a≠p)(k:OkD p J 1 4000 5 y):ThJ p J (.ref a):=by
 have l:=h.len;show h.lsV e ne (by rw[yx,qw];show 1+_<=30;lk) λz hz=>?_;rcases yK.mp hz with hz | hz
 .rw [yr.mp hz];show k
 .show h.nms z hz
theorem qdj:∀{xs:LS},(∀ x∈xs,x.length<=6)->(xs.map (·.length)).sum<=6*xs.length
 | [],_=>yg _
 | x::r,h=>by
  have h1:=h x yC;have b:=qdj λy a=>h y (yw _ a);rw[Ys,List.sum_cons,Yb];lk
theorem PoS.six(h:PoS p n m ss L H J):∀ x∈L.map (tn ss),x.length<=6/\∀ c∈x.cps.toList,c<16 ^ 8:=λx b=>by
 obtain⟨u,a,rfl⟩:=yE.mp b;have nm:=h.nm _ (jP (h.lt u a));show⟨zd nm,j3 nm⟩
theorem PoS.jsum(h:PoS p n m ss L H J):((L.map (tn ss)).map (·.length)).sum+(L.map (tn ss)).length*("":Str).length<=16777216:=by
 have:=qdj λx a=>(h.six x a).1;have e:("":Str).length=0:=rfl;have l:=h.len;rw[e,ya] at *;lk
theorem PoS.jok(h:PoS p n m ss L H J):OkD p J 1 4000 5 (.str (Txt.join "" (L.map (tn ss)))):=by
 have a:=qdj λx d=>(h.six x d).1;have b:=join_len_le "" (L.map (tn ss));have l:=h.len;have e:("":Str).length=0:=rfl;rw[e] at b;rw[ya] at a b;show(OkD.str (λc hc=>?_) (by lk)).mono (by decide) (yg _);rw[qfx] at hc;show qcU (P:=λc=>c<16 ^ 8) (show ∀ c∈([]:LN),c<16 ^ 8 from nofun) (λx d=>(h.six x d).2) c hc
theorem qbz(h:OkD p J 1 4000 5 v)(f:∀ a,v≠.ref a):ThJ p J v:=h.thj (by decide) (by decide) (by decide) λa xs e=>absurd e (f a)
end
def qdo(g:Addr)(H:Hp):Hp:=λb=>if b=g then none else H b
theorem zY(h:b≠g):qdo g H b=H b:=yB h
theorem qca(g:Addr)(H:Hp):L2.Same (qdo g H) H:=λb o e=>by
 unfold qdo at e;split at e
 .cases e
 .show e
theorem qdW(s:L2.Same H H'):L2.Same (qdo g H) (qdo g H'):=λc o e=>by
 by_cases h:c=g
 .unfold qdo at e;rw[yH h] at e;cases e
 .rw [zY h] at e ⊢;show s c o e
theorem qcb:qdo g (upd H g o)=qdo g H:=funext λc=>by
 by_cases h:c=g
 .unfold qdo;rw[yH h,yH h]
 .rw [zY h,zY h,qk h]
theorem sub_out(s:L2.Same H H')(h:H g=none):L2.Same H (qdo g H'):=λc o e=>by
 rw[zY (λz=>by rw[z,h] at e;cases e)];show s c o e
def XsJ(p:Addr)(J:Hp)(ys:List V):Prop:=∀ y∈ys,ThJ p J y
theorem XsJ.same(h:XsJ p J ys)(s:L2.Same J J'):XsJ p J' ys:=λy a=>(h y a).same s
theorem XsJ.cons{y:V}(a:ThJ p J y)(h:XsJ p J ys):XsJ p J (y::ys):=λz hz=>by
 rcases yy.mp hz with rfl | hz
 .show a
 .show h z hz
theorem XsJ.app(a:XsJ p J xs)(h:XsJ p J ys):XsJ p J (xs++ys):=λz b=>(yK.mp b).elim (a z) (h z)
theorem XsJ.nil:XsJ p J []:=nofun
structure LoP(p n m gl:Addr)(ss:LS)(L:LN)(H J:Hp)(xs:List V)(N:Nat):Prop where
 r:PoS p n m ss L H (qdo gl J)
 gg:J gl=some (.lst xs)
 x:XsJ p (qdo gl J) xs
 le:xs.length<=N
section
variable{p n m g:Addr}{ss:LS}{L:LN}{H J:Hp}{xs:List V}{N:Nat}
theorem LoP.hn(h:LoP p n m g ss L H J xs N):J n=some (.lst (ss.map V.str)):=qca _ _ _ _ h.r.n
theorem LoP.hm(h:LoP p n m g ss L H J xs N):J m=some (.lst (qH ss L)):=qca _ _ _ _ h.r.m
theorem LoP.neg(h:LoP p n m g ss L H J xs N)(e:J a=none):a≠g:=λz=>by
 rw[z,h.gg] at e;cases e
theorem LoP.nep(h:LoP p n m g ss L H J xs N)(e:J a=none):a≠p:=h.r.ne ((zY (h.neg e)).trans e)
theorem LoP.new(h:LoP p n m g ss L H J xs N)(e:J a=none):LoP p n m g ss L H (upd J a o) xs N:=
 have s:=qdW (g:=g) (qu (Sr J) (o:=o) e)
 ⟨h.r.same s,qu (Sr J) e _ _ h.gg,h.x.same s,h.le⟩
theorem LoP.add(h:LoP p n m g ss L H J xs N){y:V}(t:ThJ p (qdo g J) y):LoP p n m g ss L H (upd J g (.lst (xs++[y]))) (xs++[y]) (N+1):=
 ⟨by rw[qcb];show h.r,qb,by rw[qcb];show h.x.app (XsJ.cons t XsJ.nil),by rw[yx];show kO h.le⟩
theorem LoP.small(h:LoP p n m g ss L H J xs N)(l:N<100):xs.length<sizeLine:=qg (by have:=h.le;lk)
end
inductive spPo(vs:List V)(H:Hp)(Q:VK)(E:XK):Prop|mk (p n m:Addr) (ss:LS) (L:LN) (_:vs=[.ref n,.ref m]) (_:PoS p n m ss L H H) (_:∀(r:Addr) (xs:List V) (H':Hp),L2.Same H H'->H' r=some (.lst xs)->xs.length<=100->XsJ p H' xs->Q (.ref r) H')
theorem ok_po(F:Fun K "_law_put_otherwise" "_law_put_otherwise" qT f fd)(T:Txt K mg cc cw):wqqg 1 f fd wqU spPo:=by
 show F.ok Kw λ_ _ _ _ H vs Q E hr h=>?_
 .obtain⟨p,n,m,ss,L,rfl,R0,q⟩:=h;have hu:=jJ hr;have dd:=R0.len;have few:=R0.few;show⟨_,(qd (qq (i:=2) Kw.nd rfl (yF rfl) (qA (qa (jz (qc1 (K:=K) rfl) rfl T.b_tuple XV (qa (pv 1) qc)) (qa (qz (zg (K:=K) rfl) (pv 1) (qA (qa jg qc))) (qa (qz (zg (K:=K) rfl) (pv 1) (qA (qa jI qc))) (qa (qz (zg (K:=K) rfl) (pv 1) (qA (qa qh qc))) (qa (qz (zg (K:=K) rfl) (qA (qa jI qc)) (pv 1)) (qa (qz (zg (K:=K) rfl) (pv 1) (qA (qa (pv 1) qc))) (qa jg (qa jI (qa qh qc)))))))))))
 (qd (qq (i:=2) Kw.nd rfl (yF rfl) (qz (zg (K:=K) rfl) (pv 2) (qA (qa jW (qa qbV (qa (qz (zg (K:=K) rfl) (pv 1) (pv 1)) (qa (qG (sc:=qf qT) (XN:=wql) wqqd 1 [] rfl rfl rfl (by room) rfl (by room)
  (qF (K:=K) rfl (pv 1)) (λ_ _ _ _=>(qo (i:=0) (show(wqqd:LS).Nodup by room) rfl (yF rfl))) qE
  (λ_ _ _ _=>jh)
  (λ_ _ _ _=>(qA (qa (pv 0) qc)))) (qa (qcN (K:=K) rfl PySem.F.plainAttrs_str PySem.F.slot_str_join PySem.F.type_str_join (k_join (K:=K) rfl) jg (qa (pv 1) qc)) (qa (qA qc) qc)))))))))
 (qd (qK (qcN (K:=K) rfl yO yT yU qR (pv 2) (qa (jz (k_dictP (K:=K) rfl rfl) rfl T.b_dict boot_dict (qa (qG (sc:=qf qT) (XN:=wql) wqqd 1 [] rfl rfl rfl (by room) rfl (by room)
  (qF (K:=K) rfl (pv 1)) (λ_ _ _ _=>(qo (i:=0) (show(wqqd:LS).Nodup by room) rfl (yF rfl))) qE
  (λ_ _ _ _=>jh)
  (λ_ _ _ _=>(q8 (qa (pv 0) (qa jW qc))))) qc)) qc)))
 (qd (jy yW rfl (qF (K:=K) rfl (pv 0)) (qo (i:=3) Kw.nd rfl (Xl rfl))
 (qe (qJ (qp (qaC (K:=K) rfl hu) (pv 3) (pv 1) (by with_unfolding_all rfl)) (qd (qK (qcN (K:=K) rfl yO yT yU qR (pv 2) (qa (qG (sc:=qf qT) (XN:=wql) ["_law_one","_law_name"] 1 [3] rfl rfl rfl (by room) rfl (by room)
  (qF (K:=K) rfl (pv 1)) (λ_ _ _ _=>(qo (i:=0) (show(["_law_one","_law_name"]:LS).Nodup by room) rfl (yF rfl))) qE
  (λ_ _ _ _=>(qP (qp (qaK (K:=K) rfl hu) (pv 0) (pv 1) (qv _))))
  (λ_ _ _ _=>(pv 0))) qc)))
 (qe (qK (qcN (K:=K) rfl yO yT yU qR (pv 2) (qa (qz (zg (K:=K) rfl) (pv 1) (qA (qa (pv 3) qc))) qc))))) (qd (qK (qcN (K:=K) rfl yO yT yU qR (pv 2) (qa (qz (zg (K:=K) rfl) (pv 1) (qA (qa (pv 3) qc))) qc)))
 (qe (qK (qcN (K:=K) rfl yO yT yU qR (pv 2) (qa (qz (zg (K:=K) rfl) (qA (qa (pv 3) qc)) (pv 1)) qc))))))))
 (qe (qm (pv 2))))))),?_⟩
  apply⟨m,_,rfl,.inl ⟨.of R0.m,λa1 bp=>?_⟩⟩;have t1:=qu (Sr H) (o:=.tup (qH ss L)) bp;have ct:=R0.ne bp;have l:upd H a1 (.tup (qH ss L)) a1=some (.tup (qH ss L)):=qb;generalize upd H a1 (.tup (qH ss L))=J1 at t1 l;have R1:=R0.same t1;have X0:ThJ p J1 (.ref a1):=(OkD.tup l ct (by rw[qw];lk) (R1.nms (k:=1) (q:=5))).thj (by decide) (by decide) (by decide) λb ys e1 e2=>by cases e1;rw[l] at e2;cases e2
  apply⟨wqqj,λa2 bq=>?_⟩;have t2:=qu (Sr J1) (o:=.lst [.str "zzzzzzz"]) bq;have de:=R1.ne bq;have ah:upd J1 a2 (.lst [.str "zzzzzzz"]) a2=some (.lst [.str "zzzzzzz"]):=qb;replace l:=t2 _ _ l;generalize upd J1 a2 (.lst [.str "zzzzzzz"])=J2 at t2 l ah;have R2:=R1.same t2;apply .inl ⟨m,a2,_,_,rfl,rfl,R2.m,ah,by rw[qw];show yI (qg (by show _+1<=_;lk)),λa3 br=>?_⟩;have t3:=qu (Sr J2) (o:=.lst (qH ss L++[.str "zzzzzzz"])) br;have cu:=R2.ne br;have A:upd J2 a3 (.lst (qH ss L++[.str "zzzzzzz"])) a3=some (.lst (qH ss L++[.str "zzzzzzz"])):=qb;replace l:=t3 _ _ l;replace ah:=t3 _ _ ah;generalize upd J2 a3 (.lst (qH ss L++[.str "zzzzzzz"]))=J3 at t3 l ah A;have R3:=R2.same t3;have X1:ThJ p J3 (.ref a3):=R3.ls1 A cu ((OkD.str (by room) (by room)).mono (by decide) (yg _));apply⟨wqqj,λa4 bt=>?_⟩;have t4:=qu (Sr J3) (o:=.lst [.non]) bt;have df:=R3.ne bt;have ai:upd J3 a4 (.lst [.non]) a4=some (.lst [.non]):=qb;replace l:=t4 _ _ l;replace A:=t4 _ _ A;generalize upd J3 a4 (.lst [.non])=J4 at t4 l A ai;have R4:=R3.same t4;apply .inl ⟨m,a4,_,_,rfl,rfl,R4.m,ai,by rw[qw];show yI (qg (by show _+1<=_;lk)),λa5 bu=>?_⟩;have t5:=qu (Sr J4) (o:=.lst (qH ss L++[.non])) bu;have cv:=R4.ne bu;have B:upd J4 a5 (.lst (qH ss L++[.non])) a5=some (.lst (qH ss L++[.non])):=qb;replace l:=t5 _ _ l;replace A:=t5 _ _ A;replace ai:=t5 _ _ ai;generalize upd J4 a5 (.lst (qH ss L++[.non]))=J5 at t5 l A ai B;have R5:=R4.same t5;have X2:ThJ p J5 (.ref a5):=R5.ls1 B cv (OkD.non.mono (by decide) (yg _));apply⟨wqqj,λa6 bv=>?_⟩;have t6:=qu (Sr J5) (o:=.lst [.int 0]) bv;have dh:=R5.ne bv;have aj:upd J5 a6 (.lst [.int 0]) a6=some (.lst [.int 0]):=qb;replace l:=t6 _ _ l;replace A:=t6 _ _ A;replace B:=t6 _ _ B;generalize upd J5 a6 (.lst [.int 0])=J6 at t6 l A B aj;have R6:=R5.same t6;apply .inl ⟨m,a6,_,_,rfl,rfl,R6.m,aj,by rw[qw];show yI (qg (by show _+1<=_;lk)),λa7 bw=>?_⟩;have t7:=qu (Sr J6) (o:=.lst (qH ss L++[.int 0])) bw;have cx:=R6.ne bw;have G:upd J6 a7 (.lst (qH ss L++[.int 0])) a7=some (.lst (qH ss L++[.int 0])):=qb;replace l:=t7 _ _ l;replace A:=t7 _ _ A;replace B:=t7 _ _ B;replace aj:=t7 _ _ aj;generalize upd J6 a7 (.lst (qH ss L++[.int 0]))=J7 at t7 l A B aj G;have R7:=R6.same t7;have X3:ThJ p J7 (.ref a7):=R7.ls1 G cx ((OkD.int (by decide) (by decide)).mono (by decide) (yg _));apply⟨wqqj,λa8 bz=>?_⟩;have t8:=qu (Sr J7) (o:=.lst [.non]) bz;have di:=R7.ne bz;have ak:upd J7 a8 (.lst [.non]) a8=some (.lst [.non]):=qb;replace l:=t8 _ _ l;replace A:=t8 _ _ A;replace B:=t8 _ _ B;replace G:=t8 _ _ G;generalize upd J7 a8 (.lst [.non])=J8 at t8 l A B G ak;have R8:=R7.same t8;apply .inl ⟨a8,m,_,_,rfl,rfl,ak,R8.m,by rw[qw];show yI (qg (by show 1+_<=_;lk)),λa9 ca=>?_⟩;have t9:=qu (Sr J8) (o:=.lst ([.non]++qH ss L)) ca;have cy:=R8.ne ca;have Y:upd J8 a9 (.lst ([.non]++qH ss L)) a9=some (.lst ([.non]++qH ss L)):=qb;replace l:=t9 _ _ l;replace A:=t9 _ _ A;replace B:=t9 _ _ B;replace G:=t9 _ _ G;replace ak:=t9 _ _ ak;generalize upd J8 a9 (.lst ([.non]++qH ss L))=J9 at t9 l A B G ak Y;have R9:=R8.same t9;have X4:ThJ p J9 (.ref a9):=R9.ls2 Y cy (OkD.non.mono (by decide) (yg _));apply⟨wqqj,λar bb=>?_⟩;have N:=qu (Sr J9) (o:=.lst [.ref m]) bb;have db:=R9.ne bb;have X:upd J9 ar (.lst [.ref m]) ar=some (.lst [.ref m]):=qb;replace l:=N _ _ l;replace A:=N _ _ A;replace B:=N _ _ B;replace G:=N _ _ G;replace Y:=N _ _ Y;generalize upd J9 ar (.lst [.ref m])=J10 at N l A B G Y X;have R10:=R9.same N;apply .inl ⟨m,ar,_,_,rfl,rfl,R10.m,X,by rw[qw];show yI (qg (by show _+1<=_;lk)),λae bc=>?_⟩;have I:=qu (Sr J10) (o:=.lst (qH ss L++[.ref m])) bc;have cg:=R10.ne bc;have ax:upd J10 ae (.lst (qH ss L++[.ref m])) ae=some (.lst (qH ss L++[.ref m])):=qb;replace l:=I _ _ l;replace A:=I _ _ A;replace B:=I _ _ B;replace G:=I _ _ G;replace Y:=I _ _ Y;replace X:=I _ _ X;generalize upd J10 ae (.lst (qH ss L++[.ref m]))=J11 at I l A B G Y X ax;have R11:=R10.same I;have X5:ThJ p J11 (.ref ae):=R11.ls1 ax cg R11.smV;apply⟨by show 9<=sizeLine;decide,λg1 cd=>?_⟩;obtain⟨S,au⟩:∃ S:List V,S=[V.ref a1,.ref a3,.ref a5,.ref a7,.ref a9,.ref ae,.str "",.non,.int 7]:=⟨_,rfl⟩;have l1:S.length=9:=by rw[au];rfl
  have Y1:XsJ p J11 S:=by rw[au];show(XsJ.cons ((((((((((X0.same t2).same t3).same t4).same t5).same t6).same t7).same t8).same t9).same N).same I) (XsJ.cons ((((((((X1.same t4).same t5).same t6).same t7).same t8).same t9).same N).same I) (XsJ.cons ((((((X2.same t6).same t7).same t8).same t9).same N).same I) (XsJ.cons ((((X3.same t8).same t9).same N).same I) (XsJ.cons ((X4.same N).same I) (XsJ.cons X5 (XsJ.cons (qbz ((OkD.str (by room) (by room)).mono (by decide) (yg _)) λa e=>by cases e) (XsJ.cons (qbz (OkD.non.mono (by decide) (yg _)) λa e=>by cases e) (XsJ.cons (qbz ((OkD.int (by decide) (by decide)).mono (by decide) (yg _)) λa e=>by cases e) XsJ.nil)))))))))
  rw[<- au];clear au X0 X1 X2 X3 X4 X5;have bj:=qu (Sr J11) (o:=.lst S) cd;have dj:=R11.ne cd;have D:upd J11 g1 (.lst S) g1=some (.lst S):=qb;generalize upd J11 g1 (.lst S)=J12 at bj D;have R12:=R11.same bj;replace Y1:=Y1.same bj;ext;intro d1 cb;have aw:=qu (Sr J12) (o:=.dK []) cb;have cz:=R12.ne cb;have bf:upd J12 d1 (.dK []) d1=some (.dK []):=qb;replace D:=aw _ _ D;generalize upd J12 d1 (.dK [])=J13 at aw D bf;have R13:=R12.same aw;have Z0:ThJ p J13 (.ref d1):=((OkD.dnil (k:=1) (m:=4) bf cz).mono (n':=4000) (by decide) (yg _)).thj (by decide) (by decide) (by decide) λb ys e1 e2=>by cases e1;rw[bf] at e2;cases e2
  apply .inl ⟨m,m,_,_,rfl,rfl,R13.m,R13.m,by rw[qw];show yI (qg (by lk)),λaf bd=>?_⟩;have ap:=qu (Sr J13) (o:=.lst (qH ss L++qH ss L)) bd;have ch:=R13.ne bd;have ay:upd J13 af (.lst (qH ss L++qH ss L)) af=some (.lst (qH ss L++qH ss L)):=qb;replace D:=ap _ _ D;generalize upd J13 af (.lst (qH ss L++qH ss L))=J14 at ap D ay;have R14:=R13.same ap;have Z1:ThJ p J14 (.ref af):=R14.lsV ay ch (by rw[yx,qw];lk) λy Z=>(yK.mp Z).elim (R14.nms y) (R14.nms y);apply .inl ⟨⟨_,.of R14.m⟩,qx (xs:=qH ss L) (λi ys J=>L2.Same J14 J/\∃ us:LI,ys=us.map V.ref/\us.length<=i/\∀ t∈us,t≠p/\∃ u,u<ss.length/\J t=some (.lst [.str (tn ss u)])) ⟨L2.Same.refl J14,[],rfl,yg _,nofun⟩ (λi ys J _ O=>.of (O.1 _ _ R14.m)) (λi y ys J Z O=>?_) λys J O=>?_⟩
  .obtain⟨sJ,us,rfl,ul,ab⟩:=O;obtain⟨u,ao,rfl⟩:=zl Z;have cm:=(yc.mp ao).1;have RJ:=R14.same sJ;apply jp ?_;apply⟨wqqj,λt ht=>?_⟩;have nt:=RJ.ne ht;have s1:=qu (Sr J) (o:=.lst [.str (tn ss u)]) ht;show⟨by rw[ya];show qg (by lk),sJ.trans s1,us++[t],by rw[yt];rfl,by rw[yx];show us.length+1<=_;lk,λw hw=>?_⟩;rcases yK.mp hw with z | z
   .obtain⟨h1,u',h2,h3⟩:=ab w z;show⟨h1,u',h2,s1 _ _ h3⟩
   .rw [yr.mp z];show⟨nt,u,R0.lt u (ye ao),qb⟩
  .obtain⟨sJ,us,rfl,ul,ab⟩:=O;rw[qw] at ul;have RJ:=R14.same sJ;show⟨by rw[ya];show yI (qg (by lk)),λac an=>?_⟩;have nJ:=RJ.ne an;have ad:=qu sJ (o:=.lst (us.map V.ref)) an;have az:upd J ac (.lst (us.map V.ref)) ac=some (.lst (us.map V.ref)):=qb
   have W:∀ t∈us,t≠p/\∃ u,u<ss.length/\upd J ac (.lst (us.map V.ref)) t=some (.lst [.str (tn ss u)]):=λt ht=>by
    obtain⟨h1,u,h2,h3⟩:=ab t ht;show⟨h1,u,h2,qu (Sr J) an _ _ h3⟩
   generalize upd J ac (.lst (us.map V.ref))=J15 at ad az W;have R15:=R14.same ad
   have Z2:ThJ p J15 (.ref ac):=R15.lsV az nJ (by rw[ya];lk) λy Z=>by
    obtain⟨t,ht,rfl⟩:=yE.mp Z;obtain⟨h1,u,h2,h3⟩:=W t ht;show(OkD.lst (k:=0) (n:=100) (m:=4) h3 h1 (by show 1<=30;decide) λz hz=>?_).mono (by decide) (yg _);rw[yr.mp hz];have nm:=R0.nm _ (jP h2);show OkD.str (j3 nm) (yh (zd nm) (by decide))
   apply⟨rfl,?_⟩;apply⟨"",m,L.map (tn ss),rfl,rfl,.of R15.m,R15.jsum,?_⟩;have Z3:ThJ p J15 (.str (Txt.join "" (L.map (tn ss)))):=qbz R15.jok λa e=>by cases e
   replace D:=ad _ _ D;apply⟨wqqi,λag be=>?_⟩;have aa:=qu (Sr J15) (o:=.lst []) be;have ci:=R15.ne be;have ba:upd J15 ag (.lst []) ag=some (.lst []):=qb;replace D:=aa _ _ D;generalize upd J15 ag (.lst [])=J16 at aa D ba;have R16:=R15.same aa;have Z4:ThJ p J16 (.ref ag):=R16.lsV ba ci (by show 0<=30;decide) nofun;apply⟨by show 6<=sizeLine;decide,λg2 ce=>?_⟩;obtain⟨U,av⟩:∃ U:List V,U=[V.bl true,.ref d1,.ref af,.ref ac,.str (Txt.join "" (L.map (tn ss))),.ref ag]:=⟨_,rfl⟩;have l2:U.length=6:=by rw[av];rfl
   have Y2:XsJ p J16 U:=by rw[av];show(XsJ.cons (qbz (OkD.bl.mono (by decide) (yg _)) λa e=>by cases e) (XsJ.cons (((Z0.same ap).same ad).same aa) (XsJ.cons ((Z1.same ad).same aa) (XsJ.cons (Z2.same aa) (XsJ.cons (Z3.same aa) (XsJ.cons Z4 XsJ.nil))))))
   rw[<- av];clear av Z0 Z1 Z2 Z3 Z4;replace Y1:=((((Y1.same aw).same ap).same ad).same aa);have aq:=qu (Sr J16) (o:=.lst U) ce;have dk:=R16.ne ce;have bo:upd J16 g2 (.lst U) g2=some (.lst U):=qb;replace D:=aq _ _ D;generalize upd J16 g2 (.lst U)=J17 at aq D bo;have R17:=R16.same aq;replace Y1:=Y1.same aq;replace Y2:=Y2.same aq;show .inl ⟨g1,g2,_,_,rfl,rfl,D,bo,by rw[l1,l2];decide,λM as=>?_⟩;have l3:(S++U).length=15:=by rw[yx,l1,l2]
   have Y3:=Y1.app Y2;generalize S++U=R at l3 Y3;have bm:=qu (Sr J17) (o:=.lst R) as;have dl:=R17.ne as;have bg:upd J17 M (.lst R) M=some (.lst R):=qb;generalize upd J17 M (.lst R)=J18 at bm bg;have R18:=R17.same bm;have ck:L2.Same J17 (qdo M J18):=sub_out bm as;have Ro:=R17.same ck;have Yo:=Y3.same ck;have dc:=R17.s.free as;apply⟨.inl ⟨rfl,_,.of bg⟩,?_⟩;apply .inl ⟨⟨_,.of R18.m⟩,qx (xs:=qH ss L) (λi ys J=>L2.Same J18 J/\∃ us:LI,ys=us.map V.ref/\us.length=min i L.length/\∀(j:Nat) t u,us[j]?=some t->L[j]?=some u->J t=some (.tup [.str (tn ss u),.bl true])) ⟨L2.Same.refl J18,[],rfl,by simp,λj t u h=>by simp at h⟩ (λi ys J _ O=>.of (O.1 _ _ R18.m)) (λi y ys J Z O=>?_) λys J O=>?_⟩
   .obtain⟨sJ,us,rfl,ul,ab⟩:=O;obtain⟨u,ao,rfl⟩:=zl Z;have cm:=(yc.mp ao).1;apply jp ?_;apply⟨wqqk,λt ht=>?_⟩;have s1:=qu (Sr J) (o:=.tup [.str (tn ss u),.bl true]) ht;show⟨by rw[ya];show qg (by lk),sJ.trans s1,us++[t],by rw[yt];rfl,by rw[yx];show us.length+1=_;lk,λj t' u' h1 h2=>?_⟩;by_cases hj:j<us.length
    .rw [yP hj] at h1;show s1 _ _ (ab j t' u' h1 h2)
    .rw [yX (by lk)] at h1
     have cn:j-us.length=0:=by
      have:=(yc.mp h1).1;rw[xk] at this;lk
     rw[cn] at h1;cases h1;have:j=i:=by lk
     subst this;rw[ao] at h2;cases h2;show qb
   .obtain⟨sJ,us,rfl,ul,ab⟩:=O;rw[qw,Nat.min_self] at ul;show⟨by rw[ya];show yI (qg (by lk)),λb hb=>?_⟩;have s1:=qu sJ (o:=.lst (us.map V.ref)) hb;have W:∀(j:Nat) t u,us[j]?=some t->L[j]?=some u->upd J b (.lst (us.map V.ref)) t=some (.tup [.str (tn ss u),.bl true]):=λj t u h1 h2=>qu (Sr J) hb _ _ (ab j t u h1 h2);have eb:upd J b (.lst (us.map V.ref)) b=some (.lst (us.map V.ref)):=qb;generalize upd J b (.lst (us.map V.ref))=J19 at s1 W eb;apply⟨b,us,(L.map (tn ss)).map ktP,rfl,.of eb,by rw[ya,ya,ul],λj t q h1 h2=>?_,by rw[ya,ya];lk,λd hd=>?_⟩
    .rw [yd] at h2;obtain⟨z,h3,rfl⟩:=ym.mp h2;rw[yd] at h3;obtain⟨u,h4,rfl⟩:=ym.mp h3;show W j t u h1 h4
    .obtain⟨ks,ek,co,cp⟩:=qeP (more:=L.map (tn ss)) (ks:=[]);rw[show j5 [] ((L.map (tn ss)).map ktP)=ks.map ktP from ek];rw[YT,ya] at cp;have s2:=qu s1 (o:=.dK (ks.map ktP)) hd;have ed:upd J19 d (.dK (ks.map ktP)) d=some (.dK (ks.map ktP)):=qb;generalize upd J19 d (.dK (ks.map ktP))=J20 at s2 ed;have so:=qdW (g:=M) s2;have R20:=Ro.same so;have Y20:=Yo.same so;have am:=s2 _ _ bg;have dg:d≠M:=λz=>by rw[z,am] at ed;cases ed
     have Zd:ThJ p (qdo M J20) (.ref d):=by
      have al:qdo M J20 d=some (.dK (ks.map ktP)):=(zY dg).trans ed;show⟨.dct al λz=>?_,λa xs e1 e2=>(by cases e1;rw[al] at e2;cases e2),_,.inr ⟨d,ks,rfl,al,λx hx=>?_,by lk,rfl⟩⟩
      .obtain⟨C,dx,fs,e⟩:=R20.p;rw[z,e] at al;cases al
      .rcases co x hx with z | z
       .show Ro.six x z
       .cases z
     show⟨M,_,_,rfl,rfl,am,by rw[l3];show qg (by decide),?_⟩;have Rl:PoS p n m ss L H (qdo M (upd J20 M (.lst (R++[.ref d])))):=by rw[qcb];show R20
     have Yl:XsJ p (qdo M (upd J20 M (.lst (R++[.ref d])))) (R++[.ref d]):=by rw[qcb];show Y20.app (XsJ.cons Zd XsJ.nil)
     have el:upd J20 M (.lst (R++[.ref d])) M=some (.lst (R++[.ref d])):=qb;have ll:(R++[V.ref d]).length=16:=by rw[yx,l3];rfl
     generalize R++[V.ref d]=bn at Rl Yl el ll;generalize upd J20 M (.lst bn)=J21 at Rl Yl el;clear R20 Y20 Zd ed am so s2 W eb;have P0:LoP p n m M ss L H J21 bn 16:=⟨Rl,el,Yl,by lk⟩;clear Rl el Yl;apply .inl ⟨⟨_,.of P0.hn⟩,ju (xs:=ss.map V.str) (λi σ J=>∃(xs:List V) (y3:Option V),σ=[some (.ref n),some (.ref m),some (.ref M),y3]/\LoP p n m M ss L H J xs (16+2*i)) ⟨bn,_,rfl,P0⟩ (λi σ J _ O=>by obtain⟨xs,y3,_,P⟩:=O;show .of P.hn) (λi y σ J Z O=>?_) fun σ J O=>?_⟩
     .obtain⟨xs,y3,rfl,P⟩:=O;have hi:i<ss.length:=by have:=(yc.mp Z).1;rwa[ya] at this
      have da:i<14:=by lk
      rw[yd] at Z;obtain⟨z,hz,rfl⟩:=ym.mp Z;have cs:=ye hz;have cj:=R0.nm z cs;have bh:∀{J:Hp} {k q:Nat},OkD p J k 4000 q (.str z):=(OkD.str (j3 cj) (yh (zd cj) (by decide))).mono (by decide) (yg _);apply qbw P.hm ?_;apply qI (λh=>?_) λh=>?_
      .ext;show⟨.inl ⟨rfl,_,.of P.gg⟩,?_⟩;apply .inl ⟨⟨_,.of P.hm⟩,qx (xs:=qH ss L) (λi ys J'=>J'=J/\∃ L':LN,ys=qH ss L'/\L'.Sublist (L.take i)) ⟨rfl,[],rfl,.slnil⟩ (λi ys J' _ O=>by rw[O.1];show .of P.hm) (λi y ys J' Z O=>?_) λys J' O=>?_⟩
       .obtain⟨rfl,L',rfl,hL⟩:=O;obtain⟨v,hv,rfl⟩:=zl Z;have cf:=hL.length_le;rw[yN] at cf;apply qhU ?_;apply qI (λh=>?_) (λh=>?_)
        .ext;show⟨by rw[qw];show qg (by lk),rfl,L'++[v],by unfold qH;rw[yt,yt];rfl,by rw[yL,hv];show hL.append (.refl _)⟩
        .show⟨rfl,L',rfl,hL.trans (List.take_sublist_take_left (YO _))⟩
       .obtain⟨rfl,L',rfl,hL⟩:=O;rw[qw,yD] at hL;have cf:=hL.length_le;show⟨by rw[qw];show yI (qg (by lk)),λb hb=>?_⟩;have P1:=P.new (o:=.lst (qH ss L')) hb;have eb:upd J' b (.lst (qH ss L')) b=some (.lst (qH ss L')):=qb;have nb:=P.neg hb;generalize upd J' b (.lst (qH ss L'))=J22 at P1 eb
        have tb:=P1.add (P1.r.lsV ((zY nb).trans eb) (P.nep hb) (by rw[qw];lk) λy Z=>by
         obtain⟨z',cr,rfl⟩:=yE.mp Z;obtain⟨u,hu,rfl⟩:=yE.mp cr;show P1.r.nms _ (yE.mpr ⟨_,yE.mpr ⟨u,hL.subset hu,rfl⟩,rfl⟩))
        show⟨M,_,_,rfl,rfl,P1.gg,P1.small (by lk),?_⟩;generalize upd J22 M (.lst (xs++[.ref b]))=J23 at tb;generalize xs++[V.ref b]=ys at tb;apply⟨.inl ⟨rfl,_,.of tb.gg⟩,?_⟩;apply⟨wqqj,λc hc=>?_⟩;have P2:=tb.new (o:=.lst [.str z]) hc;have ec:upd J23 c (.lst [.str z]) c=some (.lst [.str z]):=qb;generalize upd J23 c (.lst [.str z])=J24 at P2 ec;apply .inl ⟨m,c,_,_,rfl,rfl,P2.hm,ec,by rw[qw];show yI (qg (by show _+1<=_;lk)),λd hd=>?_⟩;have P3:=P2.new (o:=.lst (qH ss L++[.str z])) hd;have ed:upd J24 d (.lst (qH ss L++[.str z])) d=some (.lst (qH ss L++[.str z])):=qb;have nd:=P2.neg hd;have pd:=P2.nep hd;generalize upd J24 d (.lst (qH ss L++[.str z]))=J25 at P3 ed;have tc:=P3.add (P3.r.ls1 ((zY nd).trans ed) pd bh);show⟨M,_,_,rfl,rfl,P3.gg,P3.small (by lk),?_⟩;show⟨_,_,rfl,tc⟩
      .ext;show⟨.inl ⟨rfl,_,.of P.gg⟩,?_⟩;apply⟨wqqj,λc hc=>?_⟩;have P2:=P.new (o:=.lst [.str z]) hc;have ec:upd J c (.lst [.str z]) c=some (.lst [.str z]):=qb;generalize upd J c (.lst [.str z])=J24 at P2 ec;apply .inl ⟨m,c,_,_,rfl,rfl,P2.hm,ec,by rw[qw];show yI (qg (by show _+1<=_;lk)),λd hd=>?_⟩;have P3:=P2.new (o:=.lst (qH ss L++[.str z])) hd;have ed:upd J24 d (.lst (qH ss L++[.str z])) d=some (.lst (qH ss L++[.str z])):=qb;have nd:=P2.neg hd;have pd:=P2.nep hd;generalize upd J24 d (.lst (qH ss L++[.str z]))=J25 at P3 ed;have tc:=P3.add (P3.r.ls1 ((zY nd).trans ed) pd bh);show⟨M,_,_,rfl,rfl,P3.gg,P3.small (by lk),?_⟩;generalize upd J25 M (.lst (xs++[.ref d]))=J26 at tc;generalize xs++[V.ref d]=ys at tc;apply⟨.inl ⟨rfl,_,.of tc.gg⟩,?_⟩;apply⟨wqqj,λc hc=>?_⟩;have P4:=tc.new (o:=.lst [.str z]) hc;have ec:upd J26 c (.lst [.str z]) c=some (.lst [.str z]):=qb;generalize upd J26 c (.lst [.str z])=J27 at P4 ec;apply .inl ⟨c,m,_,_,rfl,rfl,ec,P4.hm,by rw[qw];show yI (qg (by show 1+_<=_;lk)),λd hd=>?_⟩;have P5:=P4.new (o:=.lst ([.str z]++qH ss L)) hd;have ed:upd J27 d (.lst ([.str z]++qH ss L)) d=some (.lst ([.str z]++qH ss L)):=qb;have nd:=P4.neg hd;have pd:=P4.nep hd;generalize upd J27 d (.lst ([.str z]++qH ss L))=J28 at P5 ed;have td:=P5.add (P5.r.ls2 ((zY nd).trans ed) pd bh);show⟨M,_,_,rfl,rfl,P5.gg,P5.small (by lk),?_⟩;show⟨_,_,rfl,td⟩
     .obtain⟨xs,y3,rfl,P⟩:=O;rw[ya] at P;have cq:=P.le;apply q M xs J (P.r.s.trans (qca _ _)) P.gg (by lk) (λy Z=>(P.x y Z).same (qca _ _))
theorem nm_go{TI:List (Nat×Nat)}(hn:ss.Nodup)(h:TIok ss.length TI):TGo ss (TI.map (nmP ss)):=by
 show⟨by rw[ya];show h.few,h.go hn,Y7.mpr (h.nd.imp_of_mem λ{a b} g hb c=>?_)⟩;have l:=h.ok a g;have m:=h.ok b hb;show⟨λe=>c ?_,λe=>?_⟩
 .have d:=jZ hn (by lk) (by lk) (congrArg Prod.fst e);have f:=jZ hn (by lk) (by lk) (congrArg Prod.snd e);show XZ d f
 .have d:=jZ hn (i:=a.1) (j:=b.2) (by lk) (by lk) (congrArg Prod.fst e);have f:=jZ hn (i:=a.2) (j:=b.1) (by lk) (by lk) (congrArg Prod.snd e);lk
theorem qdX{TI:List (Nat×Nat)}(W:Wt cw H x ss ns (TI.map (nmP ss)))(c:TIok ss.length TI):(qaA ss ns ss.length).Perm (TI.map (nmP ss)):=by
 have hn:=W.wok.nd;show(Xp (dps_nd W.wok) (((nm_go hn c).un).imp λ{a b} h=>h.1)).mpr λm=>?_;obtain⟨a,b⟩:=m;rw[qfL W.wok W.adj];constructor
 .rintro ⟨h,i,j,n,d,f⟩;have g:=(yc.mp d).1;have l:=(yc.mp f).1;rw[qaD g] at d;rw[qaD l] at f;cases d;cases f;have k:=qg1 hn c h;rw[qaL hn g,qaL hn l] at k;rcases k with k | k
  .show yE.mpr ⟨_,k,rfl⟩
  .have:=c.ok _ k;simp only at this;lk
 .intro h;show⟨.inl h,?_⟩;obtain⟨p,o,e⟩:=yE.mp h;have k:=c.ok p o;cases e;show⟨p.1,p.2,k.1,qaD (by lk),qaD k.2⟩
theorem Uy:FnScope wqG wqG (qf qax):=fS
theorem uN:FnScope wqs wqs (qf js):=fS
theorem KS:FnScope ["self","one","other","rising"] wq6 (qf jw):=fS
def PlayAt(a cw:Addr)(H:Hp)(x b p:Addr)(ss:LS)(ns:LN)(tr:LN):Prop:=∃ dx,H x=some (.ins a dx (jK "path" (.ref p) (jK "board" (.ref b) [])))/\H p=some (.lst (qH ss tr))/\WebAt cw H b ss ns
theorem PlayAt.same{a:Addr}(h:PlayAt a cw H x b p ss ns tr)(s:L2.Same H H'):PlayAt a cw H' x b p ss ns tr:=by
 obtain⟨dx,h1,c,d⟩:=h;show⟨dx,s _ _ h1,s _ _ c,d.same s⟩
theorem qf5:List.lookup ("path":Str) (jK "path" (V.ref p) (jK "board" (V.ref b) []))=some (V.ref p):=by rw[qD,yH rfl]
theorem qdk:List.lookup ("board":Str) (jK "path" (V.ref p) (jK "board" (V.ref b) []))=some (V.ref b):=by rw[qD,yB (by room),qD,yH rfl]
theorem qf6{f:Str}{p b:V}(h:(f=="path"||f=="board")=false:=by room):List.lookup f (jK "path" p (jK "board" b []))=none:=by
 simp only[Bool.or_eq_false_iff,Yr] at h;rw[qD,yB h.1,qD,yB h.2];rfl
theorem WebAt.but{c:Addr}{fs:List (Str×V)}(h:WebAt cw H b ss ns)(a:H x=some (.ins c dx fs))(ne:b≠x)(k:But x H H'):WebAt cw H' b ss ns:=by
 obtain⟨j,d,ol,n,h1,e,f,g,i⟩:=h;show⟨j,d,ol,n,k _ _ ne h1,k _ _ (qbB e a (by intro z;cases z)) e,k _ _ (qbB f a (by intro z;cases z)) f,k _ _ (qbB g a (by intro z;cases z)) g,i⟩
def gnI:LN->List (Nat×Nat)
 | a::b::r=>(min b a,max b a)::gnI (b::r)
 | _=>[]
theorem qeY:∀(tr:LN) (i:Nat) (a b:Nat),tr[i]?=some a->(tr.tail)[i]?=some b->(gnI tr).take (i+1)=(gnI tr).take i++[(min b a,max b a)]
 | [],i,a,b,h,_=>by simp at h
 | [x],i,a,b,_,h=>by simp at h
 | x::y::r,0,a,b,h1,h2=>by
  simp at h1 h2;subst h1 h2;rfl
 | x::y::r,i+1,a,b,h1,h2=>by
  have:=qeY (y::r) i a b (by simpa using h1) (by simpa using h2);show(min y x,max y x)::(gnI (y::r)).take (i+1)=(min y x,max y x)::((gnI (y::r)).take i++[_]);rw[this]
theorem qdl:∀ tr:LN,(gnI tr).length=tr.length-1
 | []=>rfl
 | [x]=>rfl
 | x::y::r=>by
  show(gnI (y::r)).length+1=_;rw[qdl (y::r)];simp
theorem qf7:∀(tr:LN) (n:Nat),(∀ v∈tr,v<n)->∀ q∈gnI tr,q.1<n/\q.2<n
 | [],n,_,q,h=>by cases h
 | [x],n,_,q,h=>by cases h
 | x::y::r,n,hn,q,h=>by
  rcases yy.mp h with z | z
  .have h1:=hn x (by simp);have a:=hn y (by simp);rw[z];show min y x<n/\max y x<n;lk
  .show qf7 (y::r) n (λv hv=>hn v (yw _ hv)) q z
def lfI(TI:List (Nat×Nat))(tr:LN):List (Nat×Nat):=TI.filter λq=>!decide (q∈gnI tr)
theorem pl_nin{t:Str}{Q:VK}(h:PL H l ts tps)(f:H a=some (.tup [.str s,.str t]))(q:Q (.bl (!decide ((s,t)∈tps))) H):qgl K true (.ref a) (.ref l) H Q:=by
 show .inr (.inr ⟨l,ts.map V.ref,λz=>decide (qe9 H z=some (s,t)),1,rfl,SqL.of h.1,by decide,λz g=>?_,?_⟩)
 .obtain⟨b,hb,rfl⟩:=yE.mp g;obtain⟨c,_,r⟩:=h.2.mem hb;have e:=pair_eqD (K:=K) r f
  have d:decide (qe9 H (.ref b)=some (s,t))=decide ((c.1,c.2)=(s,t)):=by
   rw[qc9 r];apply Yc.mpr;rw[Option.some.injEq]
  show EqD K H 1 (.ref b) (.ref a) (decide (qe9 H (.ref b)=some (s,t)));rw[d];show e
 .rw [yH rfl,any_in h.2];show q
theorem nmP_mem(hn:ss.Nodup){L:List (Nat×Nat)}(g:∀ q∈L,q.1<ss.length/\q.2<ss.length){a b:Nat}(i:a<ss.length)(hb:b<ss.length):decide ((tn ss a,tn ss b)∈L.map (nmP ss))=decide ((a,b)∈L):=by
 show Yc.mpr ⟨λh=>?_,λh=>yE.mpr ⟨_,h,rfl⟩⟩;obtain⟨q,c,e⟩:=yE.mp h;have k:=g q c;have d:=jZ hn k.1 i (congrArg Prod.fst e);have f:=jZ hn k.2 hb (congrArg Prod.snd e);rw[<- d,<- f];show c
inductive spWkI(cc:Nat->Addr)(cw:Addr)(vs:List V)(H:Hp)(Q:VK)(E:XK):Prop|mk (x dx b:Addr) (s:Nat) (ss:LS) (ns:LN) (_:vs=[.ref x,.ref b,.str (tn ss s)]) (_:H x=some (.ins (cc 8) dx [])) (_:WebAt cw H b ss ns) (_:s<ss.length) (_:∀(p:Addr) (H':Hp),But x H H'->H p=none->PlayAt (cc 8) cw H' x b p ss ns [s]->Q .non H')
inductive spTB(cc:Nat->Addr)(cw:Addr)(vs:List V)(H:Hp)(Q:VK)(E:XK):Prop|mk (x b p:Addr) (ss:LS) (ns tr:LN) (u v:Nat) (_:vs=[.ref x,.str (tn ss u),.str (tn ss v)]) (_:PlayAt (cc 8) cw H x b p ss ns tr) (_:u<ss.length) (_:v<ss.length) (_:∀(t:Addr) (H':Hp),L2.Same H H'->H t=none->H' t=some (.tup [.str (tn ss (min v u)),.str (tn ss (max v u))])->Q (.ref t) H')
inductive spTG(cc:Nat->Addr)(cw:Addr)(vs:List V)(H:Hp)(Q:VK)(E:XK):Prop|mk (x b p:Addr) (ss:LS) (ns tr:LN) (_:vs=[.ref x]) (_:PlayAt (cc 8) cw H x b p ss ns tr) (_:tr.length<=100) (_:(∀ v∈tr,v<ss.length)) (_:∀(l:Addr) (ts:LI) (H':Hp),L2.Same H H'->PL H' l ts ((gnI tr).map (nmP ss))->Q (.ref l) H')
theorem ok_wkI(F:Fun K "__init__" "Walk.__init__" qax f fd)(T:Txt K mg cc cw)(A:wqqf 3 cw "has_place" wqH (spHas cw)):wqqg 5 f fd wqG (spWkI cc cw):=by
 show F.ok Uy λ_ _ _ _ H vs Q E y h=>?_
 .obtain⟨x,dx,b,st,ss,ns,rfl,s,l,r,q⟩:=h;have D:=jJ y;show⟨_,(qd (qJ (qS (qN (qZ A (hmR y) (pv 1) (qa (pv 2) qc)))) (qe jF) qt)
 (qd (zX (K:=K) rfl (pv 0) (pv 1) rfl)
 (qe (zX (K:=K) rfl (pv 0) (qA (qa (pv 2) qc)) rfl)))),?_⟩
  obtain⟨B,d,ol,n,hb,_,_,_,hw⟩:=id l;have t:b≠x:=λe=>by subst e;rw[s] at hb;injection hb with hb;injection hb with _ _ hb;cases hb
  apply⟨b,B,_,rfl,hb,zH (by room),?_⟩;apply⟨b,ss,ns,tn ss st,rfl,l,jP r,λH1 z=>?_⟩;apply yp ?_;apply .inl ⟨x,cc 8,dx,[],rfl,z _ _ s,T.pcl,T.pb,by decide,?_⟩;have j:=((But.refl x H).same z).put (o:=.ins (cc 8) dx (jK "board" (.ref b) []));have a:upd H1 x (.ins (cc 8) dx (jK "board" (.ref b) [])) x=some (.ins (cc 8) dx (jK "board" (.ref b) [])):=qb;generalize upd H1 x (.ins (cc 8) dx (jK "board" (.ref b) []))=H2 at j a ⊢;apply⟨wqqj,λp g=>?_⟩;have c:p≠x:=λe=>by rw[e,a] at g;cases g
  have m:H p=none:=by
   cases e:H p with
   | none=>rfl
   | some o=>rw[j p o c e] at g;cases g
  have u:=j.new (o:=.lst [.str (tn ss st)]) g;have i:upd H2 p (.lst [.str (tn ss st)]) x=some (.ins (cc 8) dx (jK "board" (.ref b) [])):=by rw[qk c.symm];show a
  have ep:upd H2 p (.lst [.str (tn ss st)]) p=some (.lst [.str (tn ss st)]):=qb;generalize upd H2 p (.lst [.str (tn ss st)])=C at u i ep ⊢;apply .inl ⟨x,cc 8,dx,_,rfl,i,T.pcl,T.pp,Xh (zj _ _ _) (by decide),?_⟩;have v:=u.put (o:=.ins (cc 8) dx (jK "path" (.ref p) (jK "board" (.ref b) [])));show q p _ v m ⟨dx,qb,by rw[qk c];show ep,l.but s t v⟩
theorem ok_tb(F:Fun K "tie_between" "Road.tie_between" jw f fd)(T:Txt K mg cc cw)(m:wqqf 4 cw "number_of" wqe (spNum cw)):wqqg 5 f fd wq6 (spTB cc cw):=by
 show F.ok KS λ_ _ _ _ H vs Q E o h=>?_
 .obtain⟨x,b,p,ss,ns,tr,u,v,rfl,z,j,l,q⟩:=h;obtain⟨dx,r,B,g⟩:=id z;obtain⟨s,d,ol,n,hb,_,_,_,hw⟩:=id g;show⟨_,(qd (qq (i:=3) KS.nd rfl (yF rfl) (jk qaB (qZ m (hmR o) (jA (K:=K) rfl (pv 0) rfl) (qa (pv 1) qc)) (qZ m (hmR o) (jA (K:=K) rfl (pv 0) rfl) (qa (pv 2) qc)) (qv _)))
 (qe (qm (qbS (qN (pv 3)) (q8 (qa (pv 1) (qa (pv 2) qc))) (q8 (qa (pv 2) (qa (pv 1) qc))))))),?_⟩
  apply .inl ⟨x,cc 8,dx,_,.ref b,rfl,r,T.pcl,T.pb,qdk,?_⟩;apply⟨b,s,_,rfl,hb,zH (by room),?_⟩;apply⟨b,ss,ns,tn ss u,u,rfl,g,qaD j,λH1 e=>?_⟩;apply .inl ⟨x,cc 8,dx,_,.ref b,rfl,e _ _ r,T.pcl,T.pb,qdk,?_⟩;apply⟨b,s,_,rfl,e _ _ hb,zH (by room),?_⟩;apply⟨b,ss,ns,tn ss v,v,rfl,g.same e,qaD l,λH2 A=>?_⟩;ext;have a:=e.trans A
  have y:decide ((u:Int)<(v:Int))=decide (u<v):=by
   congr 1
   apply propext;lk
  rw[y];by_cases h:u<v
  .rw [show min v u=u by lk,show max v u=v by lk] at q;rw[yv h];show jp ?_;apply⟨wqqk,λt c=>q t _ (qu a c) (a.free c) qb⟩
  .rw [show min v u=v by lk,show max v u=u by lk] at q;rw[yk h];show yp ?_;apply⟨wqqk,λt c=>q t _ (qu a c) (a.free c) qb⟩
theorem ok_tg(F:Fun K "ties_gone" "Road.ties_gone" js f fd)(T:Txt K mg cc cw)(uJ:wqqf 5 (cc 8) "tie_between" wq6 (spTB cc cw)):wqqg 6 f fd wqs (spTG cc cw):=by
 show F.ok uN λ_ _ _ _ H vs Q E hr h=>?_
 .obtain⟨x,b,p,ss,ns,tr,rfl,S,l100,c,q⟩:=h;obtain⟨dx,O,M,hW⟩:=id S;show⟨_,(qe (qm (qG (sc:=qf js) (XN:=wqs) wq7 2 [0] rfl rfl rfl (by room) rfl (by room)
  (pi_zip (K:=K) rfl rfl T.b_zip (qa (jA (K:=K) rfl (pv 0) rfl) (qa (qbU (qhR (K:=K) rfl) (jA (K:=K) rfl (pv 0) rfl) (qa5 qh) qd2) qc))) (λ_ _ _ _=>(qa1 (n:=2) rfl (qW (qo (i:=0) (show(wq7:LS).Nodup by room) rfl (yF rfl)) (qW (qo (i:=1) (show(wq7:LS).Nodup by room) rfl (yF rfl)) zV)))) qeK
  (λ_ _ _ _=>jh)
  (λ_ _ _ _=>(qZ uJ (hmR hr) (pv 2) (qa (pv 0) (qa (pv 1) qc))))))),?_⟩
  apply vZip ?_;apply .inl ⟨x,cc 8,dx,_,.ref p,rfl,O,T.pcl,T.pp,qf5,?_⟩;apply .inl ⟨x,cc 8,dx,_,.ref p,rfl,O,T.pcl,T.pp,qf5,?_⟩;apply .inl ⟨p,_,rfl,SqL.of M,λd Z=>?_⟩
  have Y:qfj (qH ss tr) (some 1) none=qH ss tr.tail:=by
   have:=cutV_drop (qH ss tr) 1;unfold qH at this ⊢;rw[<- Kc,<- Kc,List.drop_one] at this;show this
  rw[Y];have m:=qu (Sr H) (o:=.lst (qH ss tr.tail)) Z;have g:upd H d (.lst (qH ss tr.tail)) d=some (.lst (qH ss tr.tail)):=qb;generalize upd H d (.lst (qH ss tr.tail))=H1 at m g;apply⟨p,d,_,_,rfl,SqL.of (m _ _ M),SqL.of g,comp_zip (xs:=qH ss tr) (ys:=qH ss tr.tail) (by rw[qw,qw,List.length_tail];lk) (λi I J=>L2.Same H1 J/\∃ ts:LI,I=ts.map V.ref/\All2 (λt D=>J t=some (.tup [.str D.1,.str D.2])) ts (((gnI tr).take i).map (nmP ss))) ⟨L2.Same.refl H1,[],rfl,.nil⟩ (λi I J _ a=>⟨SqL.of (a.1 _ _ (m _ _ M)),SqL.of (a.1 _ _ g)⟩) (λi u v t I J s A U a=>?_) λI J a=>?_⟩
  .obtain⟨R,ts,rfl,j⟩:=a;obtain⟨u,y,rfl⟩:=zl s;obtain⟨v,B,rfl⟩:=zl A;clear s A;have G:=qu R (o:=.tup [.str (tn ss u),.str (tn ss v)]) U;have C:=qu (Sr J) (o:=.tup [.str (tn ss u),.str (tn ss v)]) U;show⟨t,_,rfl,.of qb,rfl,_,_,rfl,_,_,rfl,rfl,?_⟩;generalize upd J t (.tup [.str (tn ss u),.str (tn ss v)])=J3 at G C;apply jp ?_;ext;have L:=S.same (m.trans G);show⟨x,dx,_,rfl,(m.trans G) _ _ O,qf6,?_⟩;apply⟨x,b,p,ss,ns,tr,u,v,rfl,L,c u (ye y),c v (List.mem_of_mem_tail (ye B)),λt2 J4 X W N=>?_⟩;have r:ts.length<=100:=by rw[j.len,ya,yN,qdl];lk
   show⟨by rw[ya];show qg (by lk),G.trans X,ts++[t2],by rw[yt];rfl,?_⟩;rw[qeY tr i u v y B,yt];show(j.mono λt' D z=>X _ _ (C _ _ z)).snoc N
  .obtain⟨R,ts,rfl,j⟩:=a;have e:(qH ss tr.tail).length=(gnI tr).length:=by rw[qw,List.length_tail,qdl]
   rw[e,yD] at j;have r:ts.length<=100:=by rw[j.len,ya,qdl];lk
   show⟨by rw[ya];show yI (qg (by lk)),λl hl=>?_⟩;show q l ts _ (qu (m.trans R) hl) ⟨qb,j.mono λt D z=>qu (Sr J) hl _ _ z⟩
theorem K2:FnScope ["self","gone"] wqs (qf jt):=fS
structure RdAt(cc:Nat->Addr)(cw:Addr)(H:Hp)(x b p:Addr)(ss:LS)(ns:LN)(TI:List (Nat×Nat))(tr:LN)(s:Nat):Prop where
 pl:PlayAt (cc 8) cw H x b p ss ns tr
 wt:Wt cw H b ss ns (TI.map (nmP ss))
 ok:TIok ss.length TI
 len:tr.length<=100
 all:∀ v∈tr,v<ss.length
 last:tr.getLast?=some s
theorem RdAt.same{TI:List (Nat×Nat)}{s:Nat}(h:RdAt cc cw H x b p ss ns TI tr s)(k:L2.Same H H'):RdAt cc cw H' x b p ss ns TI tr s:=⟨h.pl.same k,h.wt.same k,h.ok,h.len,h.all,h.last⟩
theorem lf_perm{TI:List (Nat×Nat)}(W:Wt cw H x ss ns (TI.map (nmP ss)))(b:TIok ss.length TI)(a:∀ v∈tr,v<ss.length):((qaA ss ns ss.length).filter λc=>!decide (c∈(gnI tr).map (nmP ss))).Perm ((lfI TI tr).map (nmP ss)):=by
 show((qdX W b).filter _).trans (List.Perm.of_eq ?_);unfold lfI;rw[List.filter_map]
 congr 1
 show XJ λq d=>?_;have k:=b.ok q d;show(!decide (nmP ss q∈_))=_
 congr 1
 show nmP_mem W.wok.nd (qf7 tr _ a) (by lk) k.2
inductive spTLf(cc:Nat->Addr)(cw:Addr)(vs:List V)(H:Hp)(Q:VK)(E:XK):Prop|mk (x b p:Addr) (ss:LS) (ns:LN) (TI:List (Nat×Nat)) (tr:LN) (s:Nat) (_:vs=[.ref x]) (_:RdAt cc cw H x b p ss ns TI tr s) (_:∀(l:Addr) (ts:LI) (tps:LP) (H':Hp),L2.Same H H'->PL H' l ts tps->tps.Perm ((lfI TI tr).map (nmP ss))->Q (.ref l) H')
theorem ok_tlf(F:Fun K "ties_left" "Road.ties_left" jt f fd)(T:Txt K mg cc cw)(uZ:wqqf 6 (cc 8) "ties_gone" wqs (spTG cc cw))(uu:wqqf 7 cw "ties" wqs (spTs cw)):wqqg 8 f fd wqs (spTLf cc cw):=by
 show F.ok K2 λ_ _ _ _ H vs Q E L h=>?_
 .obtain⟨x,b,p,ss,ns,TI,tr,st,rfl,R,q⟩:=h;obtain⟨dx,S,hp,N⟩:=id R.pl;obtain⟨wx,d,ol,n,hb,_,_,_,hw⟩:=id N;have Y:=jJ L;have u:=lf_perm R.wt R.ok R.all;have M:=qdX R.wt R.ok;show⟨_,(qd (qq (i:=1) K2.nd rfl (Xl rfl) (j6 uZ (hmR L) (pv 0)))
 (qe (qm (qG (sc:=qf jt) (XN:=["self","gone"]) ["tie","gone"] 1 [1] rfl rfl rfl (by room) rfl (by room)
  (qF (K:=K) rfl (j6 uu (hmR L) (jA (K:=K) rfl (pv 0) rfl))) (λ_ _ _ _=>(qo (i:=0) (show(["tie","gone"]:LS).Nodup by room) rfl (yF rfl))) qE
  (λ_ _ _ _=>(qP (qp (zO (K:=K) rfl Y) (pv 0) (pv 1) (by with_unfolding_all rfl))))
  (λ_ _ _ _=>(pv 0)))))),?_⟩
  apply⟨x,dx,_,rfl,S,qf6,?_⟩;apply⟨x,b,p,ss,ns,tr,rfl,R.pl,R.len,R.all,λl ts H1 D I=>?_⟩;apply .inl ⟨x,cc 8,dx,_,.ref b,rfl,D _ _ S,T.pcl,T.pb,qdk,?_⟩;apply⟨b,wx,_,rfl,D _ _ hb,zH (by room),?_⟩;apply⟨b,ss,ns,rfl,N.same D,λr us H2 U X v Z C=>?_⟩;have m:=I.same U;have G:(qaA ss ns ss.length).length<=30:=by rw[M.length_eq,ya];show R.ok.few
  generalize qaA ss ns ss.length=j at C u M G;show .inl ⟨⟨_,.of v⟩,qx (xs:=us.map V.ref) (λi ys J=>J=H2/\∃ vs:LI,ys=vs.map V.ref/\vs.length<=i/\All2 (λt a=>H2 t=some (.tup [.str a.1,.str a.2])) vs ((j.take i).filter λt=>!decide (t∈(gnI tr).map (nmP ss)))) ⟨rfl,[],rfl,yg _,.nil⟩ (λi ys J _ c=>by rw[c.1];show .of v) (λi x' ys J B c=>?_) λys J c=>?_⟩
  .obtain⟨rfl,vs,rfl,A,g⟩:=c;rw[yd] at B;obtain⟨t,O,rfl⟩:=ym.mp B;have W:i<j.length:=by rw[<- C.len];show(yc.mp O).1
   obtain⟨a,o⟩:∃ a,j[i]?=some a:=⟨_,yb W⟩;have y:=(C.at_ i t a O o).2.2;rw[yL,o,Yd];apply pl_nin m y ?_;apply qI (λh=>?_) (λh=>?_)
   .ext;show⟨by rw[ya];show qg (by lk),rfl,vs++[t],by rw[yt];rfl,by rw[yx];show vs.length+1<=i+1;lk,?_⟩;have e:([a].filter λt=>!decide (t∈(gnI tr).map (nmP ss)))=[a]:=by rw[yZ,yH h];rfl
    show All2 _ _ (_++([a].filter λt=>!decide (t∈(gnI tr).map (nmP ss))));rw[e];show g.snoc y
   .show⟨rfl,vs,rfl,by lk,?_⟩;have e:([a].filter λt=>!decide (t∈(gnI tr).map (nmP ss)))=[]:=by rw[yZ,yB h];rfl
    show All2 _ _ (_++([a].filter λt=>!decide (t∈(gnI tr).map (nmP ss))));rw[e,y6];show g
  .obtain⟨rfl,vs,rfl,A,g⟩:=c;have e:(us.map V.ref).length=j.length:=by rw[ya,C.len]
   rw[e] at A;rw[e,yD] at g;show⟨by rw[ya];show yI (qg (by lk)),λl2 s=>?_⟩;show q l2 vs _ _ (qu (D.trans U) s) ⟨qb,g.mono λt a z=>qu (Sr J) s _ _ z⟩ u
theorem UM:FnScope wqb wqb (qf qbA):=fS
theorem Uz:FnScope wqb wqb (qf zL):=fS
def qa4:V->Bool
 | .int _=>true
 | _=>false
inductive spWhG(vs:List V)(H:Hp)(Q:VK)(E:XK):Prop|mk (p:Addr) (n:Nat) (v:V) (_:vs=[v]) (_:Th p H n v) (_:Q (.bl (qa4 v)) H)
def qfb:V->Bool
 | .int i=>decide (0<=i/\i<=1)
 | _=>false
inductive spInG(vs:List V)(H:Hp)(Q:VK)(E:XK):Prop|mk (p:Addr) (n:Nat) (v:V) (_:vs=[v,.int 0,.int 1]) (_:Th p H n v) (_:∀ H',L2.Same H H'->Q (.bl (qfb v)) H')
inductive spHdG(vs:List V)(H:Hp)(Q:VK)(E:XK):Prop|mk (p:Addr) (n:Nat) (v:V) (_:vs=[v]) (_:Th p H n v) (_:∀ H',L2.Same H H'->Q (.bl (qfb v)) H')
def zi(H:Hp)(v:V):Bool:=match v with
 | .ref a=>(match H a with
  | some (.lst xs)=>xs.all qan
  | some (.tup xs)=>xs.all qan
  | _=>false)
 | _=>false
inductive spNmsG(vs:List V)(H:Hp)(Q:VK)(E:XK):Prop|mk (p:Addr) (n:Nat) (v:V) (_:vs=[v]) (_:Th p H (n+1) v) (_:∀ H',L2.Same H H'->Q (.bl (zi H v)) H')
def qay(H:Hp)(v:V):Bool:=match v with
 | .ref a=>(match H a with
  | some (.lst xs)=>decide (1<=xs.length/\xs.length<=60)&&xs.all qa4
  | _=>false)
 | _=>false
inductive spNumsG(vs:List V)(H:Hp)(Q:VK)(E:XK):Prop|mk (p:Addr) (n:Nat) (v:V) (_:vs=[v]) (_:Th p H (n+1) v) (_:∀ H',L2.Same H H'->Q (.bl (qay H v)) H')
theorem kit_lt(K:W.Frag):∀ t∈wqa,W.kitAny K (.type t) [.type "list",.type "tuple"]=some (qbN t "list"||qbN t "tuple"):=λt c=>by
 have a:=je K t c "list" (by simp);have b:=je K t c "tuple" (by simp);simp only[W.kitAny,a,b];cases qbN t "list"<;>cases qbN t "tuple"<;>rfl
theorem ok_whG(F:Fun K "is_whole" "is_whole" qai f fd)(T:Txt K mg cc cw):wqqg 1 f fd wqb spWhG:=by
 show F.ok uS λ_ _ _ s H vs Q E c h=>?_
 .obtain⟨p,n,v,rfl,hv,q⟩:=h;have d:=jJ c;show⟨_,(qe (qm (zv (qj (jY (K:=K) rfl) rfl T.b_isinstance yV (qa (pv 0) (qa (qY (v:=.ty "int") rfl T.b_int boot_int rfl) qc))) (j4 (qcF (qj (jY (K:=K) rfl) rfl T.b_isinstance yV (qa (pv 0) (qa (qY (v:=.ty "bool") rfl T.b_bool boot_bool rfl) qc)))))))),?_⟩;obtain⟨t,a,ty,_,_,_,_,hb⟩:=hv.ty (K:=K);apply zy (.inl ty) rfl (je K t a "int" (by simp)) ?_;apply qI (λh=>?_) λh=>?_
  .ext;show zy (.inl ty) rfl (je K t a "bool" (by simp)) ?_;ext;rw[hb]
   have e:(!isB v)=qa4 v:=by
    cases v with
    | int i=>rfl
    | bl b=>rfl
    | non=>cases ty;cases h
    | str s=>cases ty;cases h
    | _=>cases ty<;>cases h
   rw[e];show q
  .have e:qa4 v=false:=by
    cases v with
    | int i=>cases ty;show absurd rfl h
    | _=>rfl
   rw[e] at q;show q
theorem ok_inG(F:Fun K "is_within" "is_within" zI f fd)(c:wqqe 1 "is_whole" wqb spWhG):wqqg 2 f fd wqE spInG:=by
 show F.ok uG λ_ _ _ _ H vs Q E b h=>?_
 .obtain⟨p,n,v,rfl,hv,q⟩:=h;have d:=jJ b;show⟨_,(qe (qm (zv (qi c (hmR b) qr (qa (pv 0) qc)) (j4 (qap qeB qeB (pv 1) (pv 0) (pv 2)))))),?_⟩;apply⟨p,n,v,rfl,hv,?_⟩;have a:=q H (Sr H);show⟨_,rfl,?_⟩;by_cases hw:qa4 v=true
  .cases v with
   | int i =>
    rw[hw];show jp ?_;ext;have e:qfb (.int i)=decide (0<=i/\i<=1):=rfl;rw[e] at a;by_cases h0:0<=i
    .rw [yv h0];show jp ?_;ext;show Q (.bl (decide (i<=1))) H
     rwa[show decide (i<=1)=decide (0<=i/\i<=1) from Yc.mpr ⟨λz=>⟨h0,z⟩,λz=>z.2⟩]
    .rw [yk h0];show yp ?_
     rwa[yk (λz=>h0 z.1)] at a
   | _=>cases hw
  .rw [show qa4 v=false by simpa using hw];show yp ?_;have e:qfb v=false:=by cases v<;>first | rfl | show absurd rfl hw
   rw[e] at a;show a
theorem ok_hdG(F:Fun K "is_hand" "is_hand" qbA f fd)(b:wqqe 2 "is_within" wqE spInG):wqqg 3 f fd wqb spHdG:=by
 show F.ok UM λ_ _ _ _ H vs Q E a h=>?_
 .obtain⟨p,n,v,rfl,hv,q⟩:=h;show⟨_,(qe (qm (qi b (hmR a) qr (qa (pv 0) (qa qh (qa qh qc)))))),?_⟩;apply⟨p,n,v,rfl,hv,q⟩
theorem ok_nmsG(F:Fun K "are_names" "are_names" zL f fd)(T:Txt K mg cc cw)(L:wqqe 1 "is_name" wqb spNameG):wqqg 2 f fd wqb spNmsG:=by
 show F.ok Uz λ_ _ _ _ H vs Q E D h=>?_
 .obtain⟨p,n,v,rfl,hv,q⟩:=h;have R:=jJ D;show⟨_,(qe (qm (zv (qj (qbG (K:=K) rfl) rfl T.b_isinstance yV (qa (pv 0) (qa (q8 (qa (qY (v:=.ty "list") rfl T.b_list xr rfl) (qa (qY (v:=.ty "tuple") rfl T.b_tuple XV rfl) qc))) qc))) (j4 (qj (qdI (K:=K) rfl rfl) rfl T.b_all kx (qa (qG (sc:=qf zL) (XN:=wqb) ["one"] 1 [] rfl rfl rfl (by room) rfl (by room)
  (qF (K:=K) rfl (pv 0)) (λ_ _ _ _=>(qo (i:=0) (show(["one"]:LS).Nodup by room) rfl (yF rfl))) qE
  (λ_ _ _ _=>jh)
  (λ_ _ _ _=>(qi L (hmR D) qr (qa (pv 0) qc)))) qc)))))),?_⟩
  apply⟨wqqk,λm r=>?_⟩;have c:=qu (Sr H) (o:=.tup [.ty "list",.ty "tuple"]) r;have B:upd H m (.tup [.ty "list",.ty "tuple"]) m=some (.tup [.ty "list",.ty "tuple"]):=qb;generalize upd H m (.tup [.ty "list",.ty "tuple"])=H1 at c B
  obtain⟨t,M,A,N,O⟩:∃ t∈wqa,TyOf K H1 v (.type t)/\((qbN t "list"||qbN t "tuple")=true->∃ a xs,v=.ref a/\(H a=some (.lst xs)\/H a=some (.tup xs))/\(∀ x∈xs,Th p H n x)/\xs.length<=1000/\zi H v=xs.all qan)/\((qbN t "list"||qbN t "tuple")=false->zi H v=false):=by
   cases hv with
   | flat f l =>
    cases v with
    | non=>show⟨_,by simp,.non,λh=>(by cases h),λ_=>rfl⟩
    | bl b=>show⟨_,by simp,.bl b,λh=>(by cases h),λ_=>rfl⟩
    | int i=>show⟨_,by simp,.int i,λh=>(by cases h),λ_=>rfl⟩
    | str z=>show⟨_,by simp,.str z,λh=>(by cases h),λ_=>rfl⟩
    | _=>cases f
   | lst e ne h l=>show⟨_,by simp,.lst (c _ _ e),λ_=>⟨_,_,rfl,.inl e,h,l,by unfold zi;dsimp only;rw[e]⟩,λh=>(by cases h)⟩
   | tup e ne h l=>show⟨_,by simp,.tup (c _ _ e),λ_=>⟨_,_,rfl,.inr e,h,l,by unfold zi;dsimp only;rw[e]⟩,λh=>(by cases h)⟩
   | dct e ne=>show⟨_,by simp,.dK (c _ _ e),λh=>(by cases h),λ_=>by unfold zi;dsimp only;rw[e]⟩
  apply⟨v,m,_,_,_,_,rfl,.inl A,B,rfl,kit_lt K t M,?_⟩;show⟨_,rfl,?_⟩
  cases C:(qbN t "list"||qbN t "tuple") with
  | false =>
   show yp ?_;have:=q H1 c
   rwa[O C] at this
  | true =>
   obtain⟨a,xs,rfl,e,G,l,en⟩:=N C;rw[en] at q;show jp ?_;ext;rcases e with e | e
   .show .inl ⟨⟨_,.of (c _ _ e)⟩,qx (xs:=xs) (λi ys J=>L2.Same H1 J/\ys=((xs.take i).map λy=>V.bl (qan y))) ⟨L2.Same.refl H1,by simp⟩ (λi ys J _ d=>.of (d.1 _ _ (c _ _ e))) (λi y ys J j d=>?_) λys J d=>?_⟩
    .obtain⟨g,rfl⟩:=d;apply jp ?_;apply⟨p,n,y,rfl,(G y (ye j)).same (c.trans g),λI s=>?_⟩;show⟨by rw[ya,yN];show qg (by have:=(yc.mp j).1;lk),g.trans s,?_⟩;rw[yL,j,yt];rfl
    .obtain⟨g,rfl⟩:=d;rw[yD];show⟨by rw[ya,xi];lk,λb hb=>?_⟩;have u:=qu (c.trans g) (o:=.lst (xs.map λy=>V.bl (qan y))) hb;apply⟨b,xs.map qan,rfl,SqL.of (by rw[YL];show qb),?_⟩;rw[xA];show q _ u
   .show .inr ⟨⟨_,.of (c _ _ e)⟩,comp_tup (xs:=xs) (λi ys J=>L2.Same H1 J/\ys=((xs.take i).map λy=>V.bl (qan y))) ⟨L2.Same.refl H1,by simp⟩ (λi ys J _ d=>.of (d.1 _ _ (c _ _ e))) (λi y ys J j d=>?_) λys J d=>?_⟩
    .obtain⟨g,rfl⟩:=d;apply jp ?_;apply⟨p,n,y,rfl,(G y (ye j)).same (c.trans g),λI s=>?_⟩;show⟨by rw[ya,yN];show qg (by have:=(yc.mp j).1;lk),g.trans s,?_⟩;rw[yL,j,yt];rfl
    .obtain⟨g,rfl⟩:=d;rw[yD];show⟨by rw[ya,xi];lk,λb hb=>?_⟩;have u:=qu (c.trans g) (o:=.lst (xs.map λy=>V.bl (qan y))) hb;apply⟨b,xs.map qan,rfl,SqL.of (by rw[YL];show qb),?_⟩;rw[xA];show q _ u
theorem u4:FnScope wqW wqW (qf ze):=fS
theorem Ug:FnScope wqb wqb (qf zf):=fS
theorem uO:FnScope wqb wqb (qf jU):=fS
theorem Uh:FnScope wqP wqP (qf zC):=fS
def NoPl(H:Hp)(v:V):Prop:=v=.non\/(∃ i,v=.int i)\/(∃ s,v=.str s)\/∃ a xs,v=.ref a/\H a=some (.lst xs)
theorem NoPl.ty(h:NoPl H v):∃ t∈wqR,TyOf K H v (.type t):=by
 rcases h with rfl | ⟨i,rfl⟩ | ⟨s,rfl⟩ | ⟨a,xs,rfl,e⟩
 .show⟨_,by simp,.non⟩
 .show⟨_,by simp,.int i⟩
 .show⟨_,by simp,.str s⟩
 .show⟨_,by simp,.lst e⟩
def EvAt(cc:Nat->Addr)(H:Hp)(e:Addr):Prop:=∃ dx fs,H e=some (.ins (cc 9) dx fs)
theorem EvAt.same{e:Addr}(h:EvAt cc H e)(s:L2.Same H H'):EvAt cc H' e:=h.imp λ_ h=>h.imp λ_ h=>s _ _ h
inductive spEvI(cc:Nat->Addr)(vs:List V)(H:Hp)(Q:VK)(E:XK):Prop|mk (p:Addr) (n:Nat) (x dx:Addr) (v:V) (_:vs=[.ref x,v]) (_:H x=some (.ins (cc 9) dx [])) (_:Th p H (n+1) v) (_:((∃ a xs,v=.ref a/\H a=some (.lst xs)/\zi H v=true/\∀ H',But x H H'->EvAt cc H' x->Q .non H')\/(zi H v=false/\Rz cc H E (0,v))))
inductive spNuI(cc:Nat->Addr)(vs:List V)(H:Hp)(Q:VK)(E:XK):Prop|mk (p:Addr) (n:Nat) (x:Addr) (v:V) (_:vs=[.ref x,v]) (_:Th p H (n+1) v) (_:qay H v=false) (_:Rz cc H E (1,v))
def qhM(cc:Nat->Addr):Sp:=λvs H Q E=>(∃ v,vs=[v]/\NoPl H v/\Rz cc H E (0,v))\/∃ e,vs=[.ref e]/\EvAt cc H e/\Q .non H
theorem ok_numsG(F:Fun K "are_numbers" "are_numbers" zf f fd)(T:Txt K mg cc cw)(u:wqqe 1 "is_whole" wqb spWhG):wqqg 2 f fd wqb spNumsG:=by
 show F.ok Ug λ_ _ _ _ H vs Q E m h=>?_
 .obtain⟨p,n,v,rfl,hv,q⟩:=h;have I:=jJ m;show⟨_,(qd (qJ (PW.pt (zU (qS (qN (qj (jY (K:=K) rfl) rfl T.b_isinstance yV (qa (pv 0) (qa (qY (v:=.ty "list") rfl T.b_list xr rfl) qc))))) (zu (qS (qcX qeB qeB qh (qj (zx (K:=K) rfl) rfl T.b_len YM (qa (pv 0) qc)) (zN rfl T.g_MOST_NUMBERS)))))) (qe (qm jW)) qt)
 (qe (qm (qj (qdI (K:=K) rfl rfl) rfl T.b_all kx (qa (qG (sc:=qf zf) (XN:=wqb) ["number"] 1 [] rfl rfl rfl (by room) rfl (by room)
  (qF (K:=K) rfl (pv 0)) (λ_ _ _ _=>(qo (i:=0) (show(["number"]:LS).Nodup by room) rfl (yF rfl))) qE
  (λ_ _ _ _=>jh)
  (λ_ _ _ _=>(qi u (hmR m) qr (qa (pv 0) qc)))) qc))))),?_⟩
  ext
  obtain⟨t,A,d,C,D⟩:∃ t∈wqa,TyOf K H v (.type t)/\(qbN t "list"=true->∃ a xs,v=.ref a/\H a=some (.lst xs)/\(∀ x∈xs,Th p H n x)/\xs.length<=1000/\qay H v=(decide (1<=xs.length/\xs.length<=60)&&xs.all qa4))/\(qbN t "list"=false->qay H v=false):=by
   cases hv with
   | flat f l =>
    cases v with
    | non=>show⟨_,by simp,.non,λh=>(by cases h),λ_=>rfl⟩
    | bl b=>show⟨_,by simp,.bl b,λh=>(by cases h),λ_=>rfl⟩
    | int i=>show⟨_,by simp,.int i,λh=>(by cases h),λ_=>rfl⟩
    | str z=>show⟨_,by simp,.str z,λh=>(by cases h),λ_=>rfl⟩
    | _=>cases f
   | lst e ne h l=>show⟨_,by simp,.lst e,λ_=>⟨_,_,rfl,e,h,l,by unfold qay;dsimp only;rw[e]⟩,λh=>(by cases h)⟩
   | tup e ne h l=>show⟨_,by simp,.tup e,λh=>(by cases h),λ_=>by unfold qay;dsimp only;rw[e]⟩
   | dct e ne=>show⟨_,by simp,.dK e,λh=>(by cases h),λ_=>by unfold qay;dsimp only;rw[e]⟩
  show zy (.inl d) rfl (je K t A "list" (by simp)) ?_;ext
  cases j:qbN t "list" with
  | false =>
   show jp ?_;ext;have:=q H (Sr H)
   rwa[D j] at this
  | true =>
   obtain⟨a,xs,rfl,e,B,l,en⟩:=C j;rw[en] at q;show yp ?_;apply qaJ e ?_
   have s:¬ (1<=xs.length/\xs.length<=60)->Q (.bl false) H:=λh=>by
    have:=q H (Sr H)
    rwa[yk h,Xn] at this
   show ∃ k,V.bl (decide ((1:Int)<=(xs.length:Int)))=.bl k/\_;show⟨_,rfl,?_⟩;by_cases h1:1<=xs.length
   .rw [yv (show(1:Int)<=(xs.length:Int) by lk)];show jp ?_;ext;by_cases g:xs.length<=60
    .rw [yv (show(xs.length:Int)<=(60:Int) by lk)];show yp ?_;rw[yv ⟨h1,g⟩,kM] at q;apply .inl ⟨⟨_,.of e⟩,qx (xs:=xs) (λi ys J=>J=H/\ys=((xs.take i).map λy=>V.bl (qa4 y))) ⟨rfl,by simp⟩ (λi ys J _ c=>by rw[c.1];show .of e) (λi y ys J r c=>?_) λys J c=>?_⟩
     .obtain⟨rfl,rfl⟩:=c;apply jp ?_;apply⟨p,n,y,rfl,B y (ye r),?_⟩;show⟨by rw[ya,yN];show qg (by lk),rfl,?_⟩;rw[yL,r,yt];rfl
     .obtain⟨rfl,rfl⟩:=c;rw[yD];show⟨by rw[ya,xi];lk,λb hb=>?_⟩;have G:=qu (Sr J) (o:=.lst (xs.map λy=>V.bl (qa4 y))) hb;apply⟨b,xs.map qa4,rfl,SqL.of (by rw[YL];show qb),?_⟩;rw[xA];show q _ G
    .rw [yk (show ¬ (xs.length:Int)<=(60:Int) by lk)];show jp ?_;apply s λz=>g z.2
   .rw [yk (show ¬ (1:Int)<=(xs.length:Int) by lk)];show yp ?_;show⟨_,rfl,jp ?_⟩;apply s λz=>h1 z.1
theorem ok_plB(F:Fun K "must_be_player" "must_be_player" jU f fd)(T:Txt K mg cc cw)(g:XMakeOk P w K mg base 2 (cc 0) "NoPlayer" wqh (spX (cc 0) (qed 0))):FnOk P w K mg base (CX1 P w) 4 f fd wqb (qhM cc):=by
 show F.ok1 uO (λvs H Q E h=>?_) λ_ _ _ _ H vs Q E a h=>?_
 .rcases h with⟨v,rfl,_⟩ | ⟨e,rfl,_⟩<;>rfl
 .have i:=jJ a;show⟨_,(qe (qJ (qS (qN (qj (jY (K:=K) rfl) rfl T.b_isinstance yV (qa (pv 0) (qa (qaF (v:=.ref (cc 11)) rfl T.m_Player rfl) qc))))) (qe (qbF (K:=K) rfl jM (qe5 g (hmR a) (qa (pv 0) qc)))) qt)),?_⟩;rcases h with⟨v,rfl,hv,d⟩ | ⟨e,rfl,⟨dx,fs,b⟩,q⟩
  .obtain⟨t,c,ty⟩:=hv.ty (K:=K);apply zy (.inl ty) rfl (T.kP t c) ?_;apply jp ?_;apply qae (T.xat 0 (by decide)) d
  .ext;show zy (.inl (T.ety _ _ _ _ b)) rfl T.eP ?_;apply yp ?_;show q
theorem ok_evI(F:Fun K "__init__" "Evener.__init__" zC f fd)(T:Txt K mg cc cw)(i:wqqe 2 "are_names" wqb spNmsG)(s:XMakeOk P w K mg base 2 (cc 0) "NoPlayer" wqh (spX (cc 0) (qed 0))):FnOk P w K mg base (CX1 P w) 4 f fd wqP (spEvI cc):=by
 show F.ok1 Uh (λvs H Q E h=>?_) λ_ _ _ _ H vs Q E d h=>?_
 .cases h;subst_vars;rfl
 .obtain⟨p,n,x,dx,v,rfl,g,hv,hc⟩:=h;have t:=jJ d;show⟨_,(qd (qJ (qS (qN (qi i (hmR d) qr (qa (pv 1) qc)))) (qe (qbF (K:=K) rfl jM (qe5 s (hmR d) (qa (pv 1) qc)))) qt)
 (qe (zX (K:=K) rfl (pv 0) (jz (qco (K:=K) rfl rfl) rfl T.b_list xr (qa (pv 1) qc)) rfl))),?_⟩
  apply⟨p,n,v,rfl,hv,λH1 c=>?_⟩;rcases hc with⟨a,xs,rfl,j,hn,q⟩ | ⟨hn,m⟩
  .rw [hn];apply yp ?_;apply .inl ⟨a,xs,rfl,.inl (.of (c _ _ j)),λl hl=>?_⟩;have r:l≠x:=λz=>by rw[z,c _ _ g] at hl;cases hl
   have e:=((But.refl x H).same c).new (o:=.lst xs) hl;have b:upd H1 l (.lst xs) x=some (.ins (cc 9) dx []):=by rw[qk (Yv r)];show c _ _ g
   generalize upd H1 l (.lst xs)=H2 at e b;apply .inl ⟨x,cc 9,dx,[],rfl,b,T.ecl,T.en,by decide,?_⟩;show q _ e.put ⟨dx,_,qb⟩
  .rw [hn];apply jp ?_;apply qae (T.xat 0 (by decide)) (m.later c)
theorem ok_nuI(F:Fun K "__init__" "Numbered.__init__" ze f fd)(T:Txt K mg cc cw)(b:wqqe 2 "are_numbers" wqb spNumsG)(e:XMakeOk P w K mg base 2 (cc 1) "NoNumbers" wqh (spX (cc 1) (qed 1))):FnOk P w K mg base (CX1 P w) 4 f fd wqW (spNuI cc):=by
 show F.ok1 u4 (λvs H Q E h=>?_) λ_ _ _ _ H vs Q E a h=>?_
 .cases h;subst_vars;rfl
 .obtain⟨p,n,x,v,rfl,hv,hn,c⟩:=h;have g:=jJ a;show⟨_,(qd (qJ (qS (qN (qi b (hmR a) qr (qa (pv 1) qc)))) (qe (qbF (K:=K) rfl jM (qe5 e (hmR a) (qa (pv 1) qc)))) qt)
 (qe (zX (K:=K) rfl (pv 0) (jz (qco (K:=K) rfl rfl) rfl T.b_list xr (qa (pv 1) qc)) rfl))),?_⟩
  apply⟨p,n,v,rfl,hv,λH1 d=>?_⟩;rw[hn];apply jp ?_;apply qae (T.xat 1 (by decide)) (c.later d)
theorem uP:FnScope wqw wqw (qf jV):=fS
theorem uk:FnScope ["web","start","numbers","told","road"] wq1 (qf qa0):=fS
theorem Uc:FnScope wqQ wqQ (qf zo):=fS
def qcE:Sp:=λ_ _ _ _=>False
theorem qbe{k:Nat}{ps:LS}:FnOk P w K mg base CX k f fd ps qcE:=⟨λ_ _ _ _ h=>h.elim,λ_ _ _ _ _ _ _ _ _ _ _ _ _ h=>h.elim⟩
section
variable{P:Program}{w:World}{K:W.Frag}{mg:Str->Option Value}{base:Heap}
theorem no_wo(_:Fun K "ways_on" "ways_on" qcz f fd):wqqg 1 f fd ["play","player","hand"] qcE:=qbe
theorem no_le(_:Fun K "lead" "lead" qf8 f fd):wqqg 1 f fd wq2 qcE:=qbe
theorem no_tw(_:Fun K "twin" "Road.twin" qbd f fd):wqqg 1 f fd wqs qcE:=qbe
theorem no_tm(_:Fun K "__init__" "TooMany.__init__" zZ f fd):wqqg 2 f fd ["self","many"] qcE:=qbe
end
def PhB(cc:Nat->Addr)(H:Hp)(pl a:V)(E:XK):Prop:=(NoPl H pl/\Rz cc H E (0,pl))\/∃(e p:Addr) (n:Nat),pl=.ref e/\EvAt cc H e/\Th p H n a/\qfb a=false/\Rz cc H E (1,a)
theorem NoPl.same(h:NoPl H v)(s:L2.Same H H'):NoPl H' v:=h.imp id (Or.imp id (Or.imp id λ⟨a,xs,e,h⟩=>⟨a,xs,e,s _ _ h⟩))
theorem PhB.same{pl a:V}(h:PhB cc H pl a E)(s:L2.Same H H'):PhB cc H' pl a E:=by
 rcases h with⟨h,z⟩ | ⟨e,p,n,b,h1,c,d,z⟩
 .show .inl ⟨h.same s,z.later s⟩
 .show .inr ⟨e,p,n,b,h1.same s,c.same s,d,z.later s⟩
inductive spAwB(cc:Nat->Addr)(vs:List V)(H:Hp)(u2_:VK)(E:XK):Prop|mk (r pl hd m1 m2:V) (_:vs=[r,pl,hd,m1,m2]) (_:PhB cc H pl hd E)
inductive spRaB(cc:Nat->Addr)(cw:Addr)(vs:List V)(H:Hp)(u2_:VK)(E:XK):Prop|mk (x b p:Addr) (ss:LS) (ns:LN) (TI:List (Nat×Nat)) (tr:LN) (s:Nat) (pl hd:V) (_:vs=[.ref x,pl,hd]) (_:RdAt cc cw H x b p ss ns TI tr s) (_:PhB cc H pl hd E)
theorem ok_awB(F:Fun K "answers_within" "answers_within" jV f fd)(T:Txt K mg cc cw)(q:DefOk P w K mg base (CX1 P w) 4 "must_be_player" wqb (qhM cc))(c:wqqe 3 "is_hand" wqb spHdG)(s:XMakeOk P w K mg base 2 (cc 1) "NoNumbers" wqh (spX (cc 1) (qed 1)))(d:XMakeOk P w K mg base 2 (cc 4) "TooMany" ["self","many"] qcE)(g:wqqe 1 "ways_on" ["play","player","hand"] qcE)(b:wqqf 1 (cc 8) "twin" wqs qcE):FnOk P w K mg base (CX1 P w) 6 f fd wqw (spAwB cc):=by
 show F.ok1 uP (λvs H Q E h=>?_) λ_ _ _ _ H vs Q E a h=>?_
 .cases h;subst_vars;rfl
 .obtain⟨r,pl,m,m1,u,rfl,l⟩:=h;have t:=jJ a;show⟨_,(qd (qK (qat q (hmR a) jM (qa (pv 1) qc)))
 (qd (qJ (qS (qN (qi c (hmR a) qr (qa (pv 2) qc)))) (qe (qbF (K:=K) rfl jM (qe5 s (hmR a) (qa (pv 2) qc)))) qt)
 (qd (qJ (qp qeZ (pv 3) (pv 4) (qv _)) (qe (qbF (K:=K) rfl jM (qe5 d (hmR a) (qa (pv 3) qc)))) qt)
 (qe (qm (qi g (hmR a) qr (qa (j6 b (hmR a) (pv 0)) (qa (pv 1) (qa (pv 2) qc))))))))),?_⟩
  rcases l with⟨h,z⟩ | ⟨e,p,n,rfl,h1,i,j,z⟩
  .ext;show .inl ⟨pl,rfl,h,z⟩
  .ext;show .inr ⟨e,rfl,h1,?_⟩;apply⟨p,n,m,rfl,i,λH1 o=>?_⟩;rw[j];apply jp ?_;apply qae (T.xat 1 (by decide)) (z.later o)
theorem ok_raB(F:Fun K "road_answers" "road_answers" zo f fd)(T:Txt K mg cc cw)(m:DefOk P w K mg base (CX1 P w) 6 "answers_within" wqw (spAwB cc))(n:wqqf 8 (cc 8) "ties_left" wqs (spTLf cc cw)):FnOk P w K mg base (CX1 P w) 9 f fd wqQ (spRaB cc cw):=by
 show F.ok1 Uc (λvs H Q E h=>?_) λ_ _ _ _ H vs Q E a h=>?_
 .cases h;subst_vars;rfl
 .obtain⟨x,b,p,ss,ns,TI,tr,st,pl,o,rfl,c,d⟩:=h;have q:=jJ a;show⟨_,(qe (qm (qat m (hmR a) jM (qa (pv 0) (qa (pv 1) (qa (pv 2) (qa (qj (zx (K:=K) rfl) rfl T.b_len YM (qa (j6 n (hmR a) (pv 0)) qc)) (qa (zN rfl T.g_MOST_TIES_LEFT) qc)))))))),?_⟩;ext;obtain⟨dx,i,_⟩:=id c.pl;show⟨x,dx,_,rfl,i,qf6,?_⟩;apply⟨x,b,p,ss,ns,TI,tr,st,rfl,c,λl ts tps H1 j e g=>?_⟩;apply qaJ e.1 ?_;show⟨_,_,_,_,_,rfl,d.same j⟩
inductive spBad(cc:Nat->Addr)(cw:Addr)(vs:List V)(H:Hp)(u2_:VK)(E:XK):Prop|mk (p:Addr) (k:Nat) (x:Addr) (ss:LS) (ns:LN) (v:V) (_:vs=[.ref x,v]) (_:WebAt cw H x ss ns) (_:Th p H k v) (_:zb ss v=false) (_:Rz cc H E (2,v))
def spTdG(cc:Nat->Addr)(cw:Addr):Sp:=λvs H Q E=>spTd cw vs H Q E\/spBad cc cw vs H Q E
theorem nums_same(t:Th p H n v)(s:L2.Same H H'):qay H' v=qay H v:=by
 cases t with
 | flat f l=>cases v<;>first | rfl | cases f
 | lst e ne h l=>unfold qay;dsimp only;rw[e,s _ _ e]
 | tup e ne h l=>unfold qay;dsimp only;rw[e,s _ _ e]
 | dct e ne=>unfold qay;dsimp only;rw[e,s _ _ e]
inductive spRlB(cc:Nat->Addr)(cw:Addr)(vs:List V)(H:Hp)(u2_:VK)(E:XK):Prop|mk (p:Addr) (k:Nat) (x:Addr) (ss:LS) (ns:LN) (v u:V) (_:vs=[.ref x,v,u]) (_:((WebAt cw H x ss ns/\Th p H k v/\zb ss v=false/\Rz cc H E (2,v)) \/
   ∃(TI:List (Nat×Nat)) (s:Nat) (cl:Nat->Bool),v=.str (tn ss s)/\Wt cw H x ss ns (TI.map (nmP ss))/\TIok ss.length TI/\(∀ s∈ss,jx s=true)/\s<ss.length/\(∀ a b,adjI TI a b->cl b=!cl a)/\Th p H (k+1) u/\qay H u=false/\Rz cc H E (1,u)))
theorem ok_numB(F:Fun K "number_of" "Web.number_of" jC f fd)(T:Txt K mg cc cw)(e:wqqf 3 cw "has_place" wqH (spHasT cw))
  (g:XMakeOk P w K mg base 2 (cc 2) "NoPlace" wqh (spX (cc 2) (qed 2))):FnOk P w K mg base (CX1 P w) 4 f fd wqe (spBad cc cw):=by
 show F.ok1 K5 (λvs H Q E h=>?_) λ_ _ _ _ H vs Q E b h=>?_
 .cases h;subst_vars;rfl
 .obtain⟨p,k,x,ss,ns,v,rfl,c,hv,a,l⟩:=h;have i:=jJ b;obtain⟨dx,d,ol,n,j,o,q,hn,hw⟩:=id c;show⟨_,(qd (qJ (qS (qN (qZ e (hmR b) (pv 0) (qa (pv 1) qc)))) (qe (qbF (K:=K) rfl jM (qe5 g (hmR b) (qa (pv 1) qc)))) qt)
 (qe (qm (qB (qC (K:=K) rfl i) (jA (K:=K) rfl (pv 0) rfl) (pv 1) (λ_ _=>rfl))))),?_⟩
  apply⟨x,dx,_,rfl,j,zH (by room),?_⟩;apply⟨p,k,x,ss,ns,v,rfl,c,hv,λH1 m=>?_⟩;rw[a];apply jp ?_;apply qae (T.xat 2 (by decide)) (l.later m)
theorem ok_near_sideB(F:Fun K "near_side" "near_side" jX f fd)(T:Txt K mg cc cw)(j:MethOk P w K mg base (CX1 P w) 4 cw "number_of" wqe (spBad cc cw))(o:wqqe 4 "sides_of" ["web"] qcE)(g:wqqe 4 "piece_with" wqp qcE):FnOk P w K mg base (CX1 P w) 5 f fd wqf (spBad cc cw):=by
 show F.ok1 Ky (λvs H Q E h=>?_) λ_ _ _ _ H vs Q E b h=>?_
 .cases h;subst_vars;rfl
 .obtain⟨p,k,x,ss,ns,v,rfl,e,hv,c,m⟩:=h;have a:=jJ b;show⟨_,(qd (qK (pe_methS j (hmR b) jM (pv 0) (qa (pv 1) qc)))
 (qd (qq (i:=2) Ky.nd rfl (yF rfl) (qi o (hmR b) qr (qa (pv 0) qc)))
 (qd (qq (i:=3) Ky.nd rfl (Xl rfl) (qbS (qp (qaC (K:=K) rfl a) (pv 1) (qB (qC (K:=K) rfl a) (pv 2) qh (λ_ _=>rfl)) (by with_unfolding_all rfl)) (qB (qC (K:=K) rfl a) (pv 2) qh (λ_ _=>rfl)) (qB (qC (K:=K) rfl a) (pv 2) qh (λ_ _=>rfl))))
 (qe (qm (qG (sc:=qf jX) (XN:=wqY) wqqa 1 [3] rfl rfl rfl (by room) rfl (by room)
  (qF (K:=K) rfl (qi g (hmR b) qr (qa (pv 0) (qa (pv 1) qc)))) (λ_ _ _ _=>(qo (i:=0) (show(wqqa:LS).Nodup by room) rfl (yF rfl))) qE
  (λ_ _ _ _=>(qP (qp (qaC (K:=K) rfl a) (pv 0) (pv 1) (by with_unfolding_all rfl))))
  (λ_ _ _ _=>(pv 0)))))))),?_⟩
  ext;obtain⟨dx,d,ol,n,l,_⟩:=id e;show⟨x,dx,_,rfl,l,zH (by room),?_⟩;apply⟨p,k,x,ss,ns,v,rfl,e,hv,c,m⟩
theorem ok_even_setB(F:Fun K "even_set" "even_set" jH f fd)(T:Txt K mg cc cw)(j:DefOk P w K mg base (CX1 P w) 5 "near_side" wqf (spBad cc cw))(d:wqqe 5 "picks" wqJ qcE)(e:wqqe 5 "bits_beside_each" wqy qcE)(l:wqqe 1 "names_at" wqv qcE)(g:wqqf 5 cw "bits_beside" wqe qcE):FnOk P w K mg base (CX1 P w) 6 f fd wqf (spBad cc cw):=by
 show F.ok1 Km (λvs H Q E h=>?_) λ_ _ _ _ H vs Q E a h=>?_
 .cases h;subst_vars;rfl
 .obtain⟨p,k,x,ss,ns,v,rfl,m,hv,b,n⟩:=h;have c:=jJ a;show⟨_,(qd (qq (i:=2) Km.nd rfl (yF rfl) (qat j (hmR a) jM (qa (pv 0) (qa (pv 1) qc))))
 (qd (qbE (sc:=qf jH) (XN:=wqi) wq3 1 [1] rfl rfl rfl (by room) rfl (by room) (i:=3) Km.nd rfl rfl
  (qF (K:=K) rfl (pv 2)) (λ_ _ _ _=>(qo (i:=0) (show(wq3:LS).Nodup by room) rfl (yF rfl))) qE
  (λ_ _ _ _=>(qP (qp (qaK (K:=K) rfl c) (pv 0) (pv 1) (qv _))))
  (λ_ _ _ _=>(pv 0)))
 (qd (qq (i:=4) Km.nd rfl (yF rfl) (qi d (hmR a) qr (qa (qi e (hmR a) qr (qa (pv 0) (qa (pv 3) qc))) (qa (qZ g (hmR a) (pv 0) (qa (pv 1) qc)) qc))))
 (qd (qJ (qp qig (pv 4) jI (qv _)) (qe (qm jI)) qt)
 (qd (qq (i:=5) Km.nd rfl (Xl rfl) (qi l (hmR a) qr (qa (pv 3) (qa (pv 4) qc))))
 (qe (qm (qG (sc:=qf jH) (XN:=wqi) wqM 1 [1,5] rfl rfl rfl (by room) rfl (by room)
  (qF (K:=K) rfl (pv 2)) (λ_ _ _ _=>(qo (i:=0) (show(wqM:LS).Nodup by room) rfl (yF rfl))) qE
  (λ_ _ _ _=>(qP (PW.pt (zU (qp (zA (K:=K) rfl c) (pv 0) (pv 1) (qv _)) (zu (qp (qaC (K:=K) rfl c) (pv 0) (pv 2) (by with_unfolding_all rfl)))))))
  (λ_ _ _ _=>(pv 0)))))))))),?_⟩
  apply⟨p,k,x,ss,ns,v,rfl,m,hv,b,n⟩
theorem ok_told_setB(F:Fun K "told_set" "told_set" qam f fd)(T:Txt K mg cc cw)(n:DefOk P w K mg base (CX1 P w) 6 "even_set" wqf (spBad cc cw))(d:wqqe 6 "far_side" wqf qcE)(j:wqqe 1 "names_at" wqv qcE)(e:wqqe 5 "picks" wqJ qcE)(g:wqqe 6 "bits_beside_each" wqy qcE)(c:wqqe 5 "bit_of" wqp qcE):FnOk P w K mg base (CX1 P w) 7 f fd wqf (spBad cc cw):=by
 show F.ok1 KC (λvs H Q E h=>?_) λ_ _ _ _ H vs Q E a h=>?_
 .cases h;subst_vars;rfl
 .obtain⟨p,k,x,ss,ns,v,rfl,l,hv,b,m⟩:=h;have o:=jJ a;show⟨_,(qd (qq (i:=2) KC.nd rfl (yF rfl) (qat n (hmR a) jM (qa (pv 0) (qa (pv 1) qc))))
 (qd (qJ (qp qfe (pv 2) jI (qv _)) (qe (qm (q8 (qa jg (qa (pv 2) qc))))) qt)
 (qd (qq (i:=3) KC.nd rfl (yF rfl) (qi d (hmR a) qr (qa (pv 0) (qa (pv 1) qc))))
 (qe (qm (q8 (qa jg (qa (qi j (hmR a) qr (qa (pv 3) (qa (qi e (hmR a) qr (qa (qi g (hmR a) qr (qa (pv 0) (qa (pv 3) qc))) (qa (qi c (hmR a) qr (qa (pv 0) (qa (pv 1) qc))) qc))) qc))) qc)))))))),?_⟩
  apply⟨p,k,x,ss,ns,v,rfl,l,hv,b,m⟩
theorem ok_rlB(F:Fun K "road_led" "road_led" qa0 f fd)(T:Txt K mg cc cw)(uB:DefOk P w K mg base (CX1 P w) 13 "told_set" wqf (spTdG cc cw))(UA:wqqh 5 (cc 8) "Road" wqG (spWkI cc cw))(uC:MakeOk P w K mg base (CX1 P w) 4 (cc 9) "Evener" wqP (spEvI cc))(UO:MakeOk P w K mg base (CX1 P w) 4 (cc 10) "Numbered" wqW (spNuI cc))(U5:wqqe 1 "lead" wq2 qcE):FnOk P w K mg base (CX1 P w) 15 f fd wq1 (spRlB cc cw):=by
 show F.ok1 uk (λvs H Q E h=>?_) λ_ _ _ s H vs Q E n h=>?_
 .cases h;subst_vars;rfl
 .obtain⟨p,k,x,ss,ns,v,u,rfl,hB⟩:=h;have Y:=jJ n;show⟨_,(qd (qq (i:=3) uk.nd rfl (yF rfl) (qat uB (hmR n) jM (qa (pv 0) (qa (pv 1) qc))))
 (qd (qq (i:=4) uk.nd rfl (yF rfl) (qbY UA (hmR n) (qa (pv 0) (qa (pv 1) qc))))
 (qd (qK (qi U5 (hmR n) qr (qa (pv 4) (qa (qbS (qp (zA (K:=K) rfl Y) (qB (qC (K:=K) rfl Y) (pv 3) qh (λ_ _=>rfl)) jg (qv _)) qh qh) (qa (qbX uC (hmR n) jM (qa (qB (qC (K:=K) rfl Y) (pv 3) qh (λ_ _=>rfl)) qc)) (qa (qbX UO (hmR n) jM (qa (pv 2) qc)) qc))))))
 (qe (qm (pv 4)))))),?_⟩
  rcases hB with⟨hW,hv,j,a⟩ | ⟨TI,st,cl,rfl,W,hT,nm,r,hC,C,j,a⟩
  .ext;show .inr ⟨p,k,x,ss,ns,v,rfl,hW,hv,j,a⟩
  .ext;show .inl ⟨x,ss,ns,TI,st,cl,rfl,W,hT,r,hC,λb l t L H1 s1 _ ac hl aa U ht=>?_⟩;ext;intro y dx hy S X;have s2:=qu (qu (Sr H1) (o:=.own y) S) (o:=.ins (cc 8) dx []) (show upd H1 dx (.own y) y=none by rw[qk (Yv X)];show hy);have ey:upd (upd H1 dx (.own y)) y (.ins (cc 8) dx []) y=some (.ins (cc 8) dx []):=qb;generalize upd (upd H1 dx (.own y)) y (.ins (cc 8) dx [])=H2 at s2 ey;have W2:=W.same (s1.trans s2);show⟨y,dx,x,st,ss,ns,rfl,ey,W2.web,r,λp' m b3 ad hP=>⟨rfl,?_⟩⟩
   have G:L2.Same H1 m:=λc o e=>by
    have cy:c≠y:=λz=>by rw[z,hy] at e;cases e
    show b3 c o cy (s2 _ _ e)
   ext;have t3:=G _ _ ht;have l3:=G _ _ hl;show .inl (qcC t3 (v:=.str (if b=true then "lost" else "won")) rfl ?_);have x3:=(W.same (s1.trans G)).web;obtain⟨wx,wd,ol,wn,N,_⟩:=id x3
   have mem:∀ z∈qH ss L,∃ s,z=.str s/\jx s=true:=λz a=>by
    obtain⟨q,hq,rfl⟩:=yE.mp a;obtain⟨o,ho,rfl⟩:=yE.mp hq;show⟨_,rfl,nm _ (jP (U o ho))⟩
   show qis ?_;apply qI (λ_=>?_) λ_=>?_
   all_goals
    apply .inl (qcC t3 (v:=.ref l) rfl ?_);ext;intro e d he O A;have I:=qu (qu (Sr m) (o:=.own e) O) (o:=.ins (cc 9) d []) (show upd m d (.own e) e=none by rw[qk (Yv A)];show he);have ee:upd (upd m d (.own e)) e (.ins (cc 9) d []) e=some (.ins (cc 9) d []):=qb;generalize upd (upd m d (.own e)) e (.ins (cc 9) d [])=H4 at I ee;have D:=I _ _ l3;have lx:l≠x:=λz=>by rw[z,I _ _ N] at D;cases D
    show⟨x,0,e,d,.ref l,rfl,ee,.lst D lx (λz a=>?_) (by rw[qw];lk),.inl ⟨l,_,rfl,D,?_,λJ b5 ab=>⟨rfl,?_⟩⟩⟩
    .obtain⟨s,rfl,r⟩:=mem z a;show .flat rfl λs' e=>by cases e;show yh (zd r) (by decide)
    .unfold zi;dsimp only;rw[D];show Yp.mpr λz a=>?_;obtain⟨s,rfl,r⟩:=mem z a;show r
    .have s5:L2.Same m J:=λc o M=>by
      have ce:c≠e:=λz=>by rw[z,he] at M;cases M
      show b5 c o ce (I _ _ M)
     have Z:=(s1.trans G).trans s5;ext;intro g dg hg R B;have s6:=qu (qu (Sr J) (o:=.own g) R) (o:=.ins (cc 10) dg []) (show upd J dg (.own g) g=none by rw[qk (Yv B)];show hg);have su:=Z.trans s6;show⟨p,k,g,u,rfl,C.same su,by rw[nums_same C su];show j,a.later su⟩
theorem KH:FnScope ["_law_web_here","_law_names_here","_law_start","_law_way","_law_road","e"] wqr (qf jE):=fS
def ddL(ss:LS):List PyData:=[.none,.int 7,.str "a",.list (ss.map .str),.none,.none,.int 2,.int (-1),.bool true,.none,.str "0",.none,.str "ab",.int 7,.list [.str (tn ss 0),.str "A"],.tuple [.none],.none,.int 0,.str "",.list (ss.map .str),.list [],.none,.int 7,.list [.none],.list [.bool true],.tuple [.int 1],.list (List.replicate 61 (.int 0))]
def dD(ss:LS)(w:Nat):PyData:=(ddL ss).getD w .none
def kD(w:Nat):Nat:=if w<4 then 0 else if w<11 then 1 else if w<16 then 0 else if w<20 then 2 else 1
theorem names_same(t:Th p H n v)(s:L2.Same H H'):zi H' v=zi H v:=by
 cases t with
 | flat f l=>cases v<;>first | rfl | cases f
 | lst e ne h l=>unfold zi;dsimp only;rw[e,s _ _ e]
 | tup e ne h l=>unfold zi;dsimp only;rw[e,s _ _ e]
 | dct e ne=>unfold zi;dsimp only;rw[e,s _ _ e]
theorem qek:∀ n:Nat,DatS H (List.replicate n (V.int 0)) (List.replicate n (PyData.int 0))
 | 0=>.nil
 | n+1=>.cons (.int 0) (qek n)
def eW(g:List Stmt->List Stmt):Stmt->Stmt
 | .If c a e p=>.If c a (g e) p
 | s=>s
def oW(f:Stmt->Stmt):List Stmt->List Stmt
 | [s]=>[f s]
 | l=>l
def lW(a:List Expr):Stmt->Stmt
 | .Expr (.Call f [x0,x1,.Subscript (.List _ lp) ix p1] kw p2) p3=>.Expr (.Call f [x0,x1,.Subscript (.List a lp) ix p1] kw p2) p3
 | s=>s
def tryW(a:List Expr):Stmt->Stmt
 | .Try b hs oe fb pos=>.Try (oW (eW (oW (eW (oW (eW (oW (eW (oW (lW a))))))))) b) hs oe fb pos
 | s=>s
theorem try_parts:∃ g,zk jE=[qee jE 0,tryW g (qee jE 1),qee jE 2]/\∀(env:Env) (a:Expr->TE->Prop) (d:List Expr->TA->Prop),
  (∀ j c,a (.Constant .none j c) (tC .non))->(∀ i j c,a (.Constant (.int i) j c) (tC (.int i)))->(∀ b j c,a (.Constant (.bool b) j c) (tC (.bl b)))->(∀ x j c,a (.Constant (.str x) j c) (tC (.str x))) ->
  (∀ g c t,d g t->a (.List g c) (qe0 t))->(∀ g s c t,d g t->a (.Tuple g s c) (qg9 t))->(∀ e f c h m,a e h->a f m->a (.BinOp e .Mult f c) (tOp rRep h m))->(∀ e c h,a e h->a (.UnaryOp .USub e c) (tUn (rU λi=>.int (-i)) h))->(∀ p,a (.Name "_law_names_here" p) (qd1 1))->(∀ o j q r,a (.Subscript (.Name "_law_names_here" o) (.Constant (.int 0) j q) r) (tOp (qhH K) (qd1 1) (tC (.int 0))))->d [] qbT ->
  (∀ e g h t,a e h->d g t->starEach (e::g) env=(false,eval e env)::starEach g env->d (e::g) (qO h t)) ->
  d g (qO (qe0 qbT) (qO (tC .non) (qO (tC (.int 7)) (qO (qe0 (qO (tC .non) qbT)) (qO (qe0 (qO (tC (.bl true)) qbT)) (qO (qg9 (qO (tC (.int 1)) qbT)) (qO (tOp rRep (qe0 (qO (tC (.int 0)) qbT)) (tC (.int 61))) qbT))))))):=
 ⟨_,rfl,λenv a d hn l hb v hl n hm u hv w h0 hc=>hc _ _ _ _ (hl _ _ _ (h0)) (hc _ _ _ _ (hn _ _) (hc _ _ _ _ (l _ _ _) (hc _ _ _ _ (hl _ _ _ (hc _ _ _ _ (hn _ _) (h0) rfl)) (hc _ _ _ _ (hl _ _ _ (hc _ _ _ _ (hb _ _ _) (h0) rfl)) (hc _ _ _ _ (n _ _ _ _ (hc _ _ _ _ (l _ _ _) (h0) rfl)) (hc _ _ _ _ (hm _ _ _ _ _ (hl _ _ _ (hc _ _ _ _ (l _ _ _) (h0) rfl)) (l _ _ _)) (h0) rfl) rfl) rfl) rfl) rfl) rfl) rfl⟩
inductive spRfJ(cw:Addr)(vs:List V)(H:Hp)(Q:VK)(E:XK):Prop|mk (x n:Addr) (ss:LS) (ns:LN) (TI:List (Nat×Nat)) (cl:Nat->Bool) (s wy:Nat) (_:vs=[.ref x,.ref n,iv s,iv wy]) (_:Wt cw H x ss ns (TI.map (nmP ss))) (_:H n=some (.lst (ss.map V.str))) (_:TIok ss.length TI) (_:(∀ s∈ss,jx s=true)) (_:(∀ a b,adjI TI a b->cl b=!cl a)) (_:s<ss.length) (_:wy<27) (_:wy≠4) (_:wy≠5) (_:∀(r:Addr) (v:V) (H':Hp),L2.Same H H'->H' r=some (.lst [.bl true,v,.bl true])->Dat H' v (dD ss wy)->Q (.ref r) H')
theorem ok_rfJ(F:Fun K "_law_refused" "_law_refused" jE f fd)(T:Txt K mg cc cw)(bt:W.mroIn K (cc 0) (.ref (cc 0))=some true)(bu:W.mroIn K (cc 1) (.ref (cc 1))=some true)(bv:W.mroIn K (cc 2) (.ref (cc 2))=some true)(bp:W.mroIn K (cc 1) (.ref (cc 0))=some false)(bq:W.mroIn K (cc 2) (.ref (cc 0))=some false)(br:W.mroIn K (cc 2) (.ref (cc 1))=some false)
  (UA:wqqh 5 (cc 8) "Road" wqG (spWkI cc cw)) (uC:MakeOk P w K mg base (CX1 P w) 4 (cc 9) "Evener" wqP (spEvI cc)) (uq:DefOk P w K mg base (CX1 P w) 9 "road_answers" wqQ (spRaB cc cw)) (Ud:DefOk P w K mg base (CX1 P w) 15 "road_led" wq1 (spRlB cc cw)):wqqg 16 f fd wqr (spRfJ cw):=by
 show F.ok KH λ_ A _ s H vs Q E hr h=>?_
 .obtain⟨x,n,ss,ns,TI,cl,st,wy,rfl,Wz,hN,hT,nm,hC,hs,cb,w4,w5,q⟩:=h;have hu:=jJ hr;have few:=Wz.wok.few;obtain⟨wx,wd,ol,wn,ak,_⟩:=id Wz.web;obtain⟨bw,aq,bb⟩:=try_parts (K:=K);rw[aq];show⟨_,(qd (qq (i:=4) KH.nd rfl (yF rfl) (qbY UA (hmR hr) (qa (pv 0) (qa (qB (qC (K:=K) rfl hu) (pv 1) (pv 2) (λ_ _=>rfl)) qc))))
 (qd (ps_try rfl rfl rfl qt)
 (qe (qm (qA (qa jI qc)))))),?_⟩
  apply qbQ hN hs ?_;ext;intro y dx hy bg bm;have s2:=qu (qu (Sr H) (o:=.own y) bg) (o:=.ins (cc 8) dx []) (show upd H dx (.own y) y=none by rw[qk (Yv bm)];show hy);have ey:upd (upd H dx (.own y)) y (.ins (cc 8) dx []) y=some (.ins (cc 8) dx []):=qb;generalize upd (upd H dx (.own y)) y (.ins (cc 8) dx [])=H2 at s2 ey;show⟨y,dx,x,st,ss,ns,rfl,ey,(Wz.same s2).web,hs,λp' M b3 ca hP=>⟨rfl,?_⟩⟩
  have s3:L2.Same H M:=λc o e=>by
   have cy:c≠y:=λz=>by rw[z,hy] at e;cases e
   show b3 c o cy (s2 _ _ e)
  have R3:RdAt cc cw M y x p' ss ns TI [st] st:=⟨hP,Wz.same s3,hT,(by show 1<=100;decide),λv hv=>(by rw[yr.mp hv];show hs),rfl⟩;apply⟨fun σ c an H'=>∃ v dy,c=.ref (cc (kD wy))/\an=some dy/\L2.Same H H'/\H' dy=some (.xd [(qed (kD wy),v)])/\Dat H' v (dD ss wy)/\σ=[some (.ref x),some (.ref n),some (iv st),some (iv wy),some (.ref y),none],_,λpn xe jM=>(qe (qJ (qp qaB (pv 3) qh (qv _)) (qe (qK (qat uq (hmR hr) jM (qa (pv 4) (qa (qB (qC (K:=K) rfl hu) (qA (qa jI (qa qh (qa jg (qa (pv 1) qc))))) (qz zh (pv 3) qh) (λ_ _=>rfl)) (qa qh qc)))))) (qe (qJ (qp qaB (pv 3) qh (qv _)) (qe (qK (qat uq (hmR hr) jM (qa (pv 4) (qa (qbX uC (hmR hr) jM (qa (qA qc) qc)) (qa (qB (qC (K:=K) rfl hu) (qA (qa qh (qa (qdu qbM qh) (qa jW (qa jI (qa jg qc)))))) (qz qcG (pv 3) qh) (λ_ _=>rfl)) qc)))))) (qe (qJ (qp qaB (pv 3) qh (qv _)) (qe (qK (qbX uC (hmR hr) jM (qa (qB (qC (K:=K) rfl hu) (qA (qa jI (qa jg (qa qh (qa (qA (qa (qB (qC (K:=K) rfl hu) (pv 1) qh (λ_ _=>rfl)) (qa jg qc))) (qa (q8 (qa jI qc)) qc)))))) (qz qcG (pv 3) qh) (λ_ _=>rfl)) qc)))) (qe (qJ (qp qaB (pv 3) qh (qv _)) (qe (qK (qat Ud (hmR hr) jM (qa (pv 0) (qa (qB (qC (K:=K) rfl hu) (qA (qa jI (qa qh (qa jg (qa (pv 1) qc))))) (qz qcG (pv 3) qh) (λ_ _=>rfl)) (qa (qA qc) qc)))))) (qe (qK (qat Ud (hmR hr) jM (qa (pv 0) (qa (qB (qC (K:=K) rfl hu) (pv 1) (pv 2) (λ_ _=>rfl)) (qa (qB (qC (K:=K) rfl hu) (qA (bb _ _ _ (λ_ _=>jI) (λ_ _ _=>qh) (λ_ _ _=>jW) (λ_ _ _=>jg) (λ_ _ _ h=>qA h) (λ_ _ _ _ h=>q8 h) (λ_ _ _ _ _ h1 h2=>qz qcg h1 h2) (λ_ _ _ h=>qdu qbM h) (λ_=>pv 1) (λ_ _ _ _=>qB (qC (K:=K) rfl hu) (pv 1) qh (λ_ _=>rfl)) qc λ_ _ _ _ ha hr hs=>qa ha hr hs)) (qz qcG (pv 3) qh) (λ_ _=>rfl)) qc)))))))))))))),?_,λa C au cd H' hE G=>?_⟩
  .have aj:=s3 _ _ hN
   have ad:∀(k:Nat) (J:Hp) (v:V),kD wy=k->L2.Same H J->Dat J v (dD ss wy)->Rz cc J (λc an H'=>∃ v dy,c=Value.ref (cc (kD wy))/\an=some dy/\L2.Same H H'/\H' dy=some (.xd [(qed (kD wy),v)])/\Dat H' v (dD ss wy)/\[some (V.ref x),some (.ref n),some (iv st),some (iv wy),some (.ref y),none]=[some (V.ref x),some (.ref n),some (iv st),some (iv wy),some (.ref y),none]) (k,v):=λk J v hk sJ hd au H' s' e'=>by
    subst hk;show⟨v,au,rfl,rfl,sJ.trans s',e',hd.same s',rfl⟩
   apply qI (λh=>?_) λh=>?_
   .have h4:wy<4:=by have:=yj h;lk
    apply⟨wqqm,λg hg=>?_⟩;have s4:=qu s3 (o:=.lst [.non,.int 7,.str "a",.ref n]) hg;have D:=qu (Sr M) (o:=.lst [.non,.int 7,.str "a",.ref n]) hg;have eg:upd M g (.lst [.non,.int 7,.str "a",.ref n]) g=some (.lst [.non,.int 7,.str "a",.ref n]):=qb;generalize upd M g (.lst [.non,.int 7,.str "a",.ref n])=u at s4 D eg;have ab:=D _ _ aj;apply vI (by decide) ?_
    obtain⟨v,I,hv,hd⟩:∃ v,atI [V.non,.int 7,.str "a",.ref n] ((wy:Int) % 4)=some v/\NoPl u v/\Dat u v (dD ss wy):=by
     have:wy=0\/wy=1\/wy=2\/wy=3:=by lk
     rcases this with rfl | rfl | rfl | rfl
     .show⟨_,rfl,.inl rfl,.non⟩
     .show⟨_,rfl,.inr (.inl ⟨_,rfl⟩),.int _⟩
     .show⟨_,rfl,.inr (.inr (.inl ⟨_,rfl⟩)),.str _⟩
     .show⟨_,rfl,.inr (.inr (.inr ⟨_,_,rfl,ab⟩)),.lst ab (DatS.strs ss)⟩
    show .inl (qbW eg I ?_);apply⟨y,x,p',ss,ns,TI,[st],st,v,.int 2,rfl,R3.same D,.inl ⟨hv,ad 0 u v (by unfold kD;rw[yH h4]) s4 hd⟩⟩
   .have h4:¬ wy<4:=λz=>h (yv (by lk));apply qI (λh=>?_) λh=>?_
    .have ae:wy<11:=by have:=yj h;lk
     apply⟨wqqi,λg hg=>?_⟩;have D:=qu (Sr M) (o:=.lst []) hg;have eg:upd M g (.lst []) g=some (.lst []):=qb;generalize upd M g (.lst [])=u at D eg;ext;intro e R he ar af;have X:=qu (qu (Sr u) (o:=.own e) ar) (o:=.ins (cc 9) R []) (show upd u R (.own e) e=none by rw[qk (Yv af)];show he);have ee:upd (upd u R (.own e)) e (.ins (cc 9) R []) e=some (.ins (cc 9) R []):=qb;generalize upd (upd u R (.own e)) e (.ins (cc 9) R [])=H5 at X ee;have ah:=X _ _ eg
     have gx:g≠x:=λz=>by
      have:=X _ _ (D _ _ (s3 _ _ ak));rw[<- z,ah] at this;cases this
     show⟨x,0,e,R,.ref g,rfl,ee,.lst ah gx nofun (Yi _),.inl ⟨g,[],rfl,ah,by unfold zi;dsimp only;rw[ah];rfl,λY b6 bh=>⟨rfl,?_⟩⟩⟩
     have t6:L2.Same u Y:=λc o ec=>by
      have ce:c≠e:=λz=>by rw[z,he] at ec;cases ec
      show b6 c o ce (X _ _ ec)
     have s6:=(s3.trans D).trans t6;apply vU ?_;apply⟨by show 5<=sizeLine;decide,λo ho=>?_⟩;have Z:=qu (Sr Y) (o:=.lst [.int 2,.int (-1),.bl true,.non,.str "0"]) ho;have eo:upd Y o (.lst [.int 2,.int (-1),.bl true,.non,.str "0"]) o=some (.lst [.int 2,.int (-1),.bl true,.non,.str "0"]):=qb;generalize upd Y o (.lst [.int 2,.int (-1),.bl true,.non,.str "0"])=H7 at Z eo;ext
     obtain⟨v,I,S,bj,hd⟩:∃ v,atI [V.int 2,.int (-1),.bl true,.non,.str "0"] ((wy:Int)-6)=some v/\Th x H7 0 v/\qfb v=false/\Dat H7 v (dD ss wy):=by
      have:wy=6\/wy=7\/wy=8\/wy=9\/wy=10:=by lk
      rcases this with rfl | rfl | rfl | rfl | rfl
      .show⟨_,rfl,.flat rfl (λs e=>by cases e),rfl,.int _⟩
      .show⟨_,rfl,.flat rfl (λs e=>by cases e),rfl,.int _⟩
      .show⟨_,rfl,.flat rfl (λs e=>by cases e),rfl,.bl _⟩
      .show⟨_,rfl,.flat rfl (λs e=>by cases e),rfl,.non⟩
      .show⟨_,rfl,.flat rfl (λs e=>by cases e;room),rfl,.str _⟩
     show .inl (qbW eo I ?_);apply⟨y,x,p',ss,ns,TI,[st],st,.ref e,v,rfl,R3.same ((D.trans t6).trans Z),.inr ⟨e,x,0,rfl,bh.same Z,S,bj,ad 1 H7 v (by unfold kD;rw[yB h4,yH ae]) (s6.trans Z) hd⟩⟩
    .have ae:¬ wy<11:=λz=>h (yv (by lk));apply qI (λh=>?_) λh=>?_
     .have ai:wy<16:=by have:=yj h;lk
      apply qbQ (i:=0) aj (by lk) ?_;apply⟨wqqk,λN ap=>?_⟩;have D:=qu (Sr M) (o:=.lst [.str (tn ss 0),.str "A"]) ap;have e1:upd M N (.lst [.str (tn ss 0),.str "A"]) N=some (.lst [.str (tn ss 0),.str "A"]):=qb;generalize upd M N (.lst [.str (tn ss 0),.str "A"])=u at D e1;apply⟨wqqj,λO t=>?_⟩;have X:=qu (Sr u) (o:=.tup [.non]) t;have L:upd u O (.tup [.non]) O=some (.tup [.non]):=qb;replace e1:=X _ _ e1;generalize upd u O (.tup [.non])=H5 at X L e1;apply⟨by show 5<=sizeLine;decide,λo ho=>?_⟩;have t6:=qu (Sr H5) (o:=.lst [.non,.str "ab",.int 7,.ref N,.ref O]) ho;have eo:upd H5 o (.lst [.non,.str "ab",.int 7,.ref N,.ref O]) o=some (.lst [.non,.str "ab",.int 7,.ref N,.ref O]):=qb;replace e1:=t6 _ _ e1;replace L:=t6 _ _ L;generalize upd H5 o (.lst [.non,.str "ab",.int 7,.ref N,.ref O])=Y at t6 eo e1 L;have az:=(D.trans X).trans t6;have aw:=az _ _ (s3 _ _ ak);ext
      obtain⟨v,I,S,as,hd⟩:∃ v,atI [V.non,.str "ab",.int 7,.ref N,.ref O] ((wy:Int)-11)=some v/\Th x Y 1 v/\zi Y v=false/\Dat Y v (dD ss wy):=by
       have:wy=11\/wy=12\/wy=13\/wy=14\/wy=15:=by lk
       rcases this with rfl | rfl | rfl | rfl | rfl
       .show⟨_,rfl,.flat rfl (λs e=>by cases e),rfl,.non⟩
       .show⟨_,rfl,.flat rfl (λs e=>by cases e;room),rfl,.str _⟩
       .show⟨_,rfl,.flat rfl (λs e=>by cases e),rfl,.int _⟩
       .show⟨_,rfl,.lst e1 (λz=>by rw[z,aw] at e1;cases e1) (λz hz=>?_) (by show 2<=1000;decide),?_,.lst e1 (.cons (.str _) (.cons (.str _) .nil))⟩
        .simp only[yy,yR,YJ] at hz;rcases hz with rfl | rfl
         .show .flat rfl λs e=>by cases e;show yh (zd (nm _ (jP (by lk)))) (by decide)
         .show .flat rfl λs e=>by cases e;room
        .unfold zi;dsimp only;rw[e1];show(qan _&&(qan (.str "A")&&true))=false;rw[show qan (.str "A")=false by room,Xn,kr]
       .show⟨_,rfl,.tup L (λz=>by rw[z,aw] at L;cases L) (λz hz=>?_) (by show 1<=1000;decide),?_,.tup L (.cons .non .nil)⟩
        .rw [yr.mp hz];show .flat rfl λs e=>by cases e
        .unfold zi;dsimp only;rw[L];rfl
      show .inl (qbW eo I ?_);ext;intro e R he ar af;have Z:=qu (qu (Sr Y) (o:=.own e) ar) (o:=.ins (cc 9) R []) (show upd Y R (.own e) e=none by rw[qk (Yv af)];show he);have ee:upd (upd Y R (.own e)) e (.ins (cc 9) R []) e=some (.ins (cc 9) R []):=qb;generalize upd (upd Y R (.own e)) e (.ins (cc 9) R [])=H7 at Z ee;show⟨x,0,e,R,v,rfl,ee,S.same Z,.inr ⟨by rw[names_same S Z];show as,ad 0 H7 v (by unfold kD;rw[yB h4,yB ae,yH ai]) ((s3.trans az).trans Z) (hd.same Z)⟩⟩
     .have ai:¬ wy<16:=λz=>h (yv (by lk));apply qI (λh=>?_) λh=>?_
      .have ao:wy<20:=by have:=yj h;lk
       apply⟨wqqm,λo ho=>?_⟩;have D:=qu (Sr M) (o:=.lst [.non,.int 0,.str "",.ref n]) ho;have eo:upd M o (.lst [.non,.int 0,.str "",.ref n]) o=some (.lst [.non,.int 0,.str "",.ref n]):=qb;generalize upd M o (.lst [.non,.int 0,.str "",.ref n])=u at D eo;have ab:=D _ _ aj;have ba:=D _ _ (s3 _ _ ak);ext
       obtain⟨v,I,S,bn,hd⟩:∃ v,atI [V.non,.int 0,.str "",.ref n] ((wy:Int)-16)=some v/\Th x u 1 v/\qan v=false/\Dat u v (dD ss wy):=by
        have:wy=16\/wy=17\/wy=18\/wy=19:=by lk
        rcases this with rfl | rfl | rfl | rfl
        .show⟨_,rfl,.flat rfl (λs e=>by cases e),rfl,.non⟩
        .show⟨_,rfl,.flat rfl (λs e=>by cases e),rfl,.int _⟩
        .show⟨_,rfl,.flat rfl (λs e=>by cases e;room),by room,.str _⟩
        .show⟨_,rfl,.lst ab (λz=>by rw[z,ba] at ab;cases ab) (λz hz=>?_) (by rw[ya];lk),rfl,.lst ab (DatS.strs ss)⟩;obtain⟨s',bo,rfl⟩:=yE.mp hz;show .flat rfl λs e=>by cases e;show yh (zd (nm _ bo)) (by decide)
       show .inl (qbW eo I ?_);apply⟨wqqi,λl hl=>?_⟩;have X:=qu (Sr u) (o:=.lst []) hl;show⟨x,1,x,ss,ns,v,.ref l,rfl,.inl ⟨((Wz.same s3).same (D.trans X)).web,S.same X,yB (by rw[bn];decide),ad 2 _ v (by unfold kD;rw[yB h4,yB ae,yB ai,yH ao]) ((s3.trans D).trans X) (hd.same X)⟩⟩
      .have ao:¬ wy<20:=λz=>h (yv (by lk));apply qbQ aj hs ?_;apply⟨wqqi,λN ap=>?_⟩;have D:=qu (Sr M) (o:=.lst []) ap;have b:upd M N (.lst []) N=some (.lst []):=qb;generalize upd M N (.lst [])=u at D b;apply⟨wqqj,λO t=>?_⟩;have X:=qu (Sr u) (o:=.lst [.non]) t;have j:upd u O (.lst [.non]) O=some (.lst [.non]):=qb;replace b:=X _ _ b;generalize upd u O (.lst [.non])=H5 at X j b;apply⟨wqqj,λa3 bc=>?_⟩;have t6:=qu (Sr H5) (o:=.lst [.bl true]) bc;have p:upd H5 a3 (.lst [.bl true]) a3=some (.lst [.bl true]):=qb;replace b:=t6 _ _ b;replace j:=t6 _ _ j;generalize upd H5 a3 (.lst [.bl true])=Y at t6 p b j;apply⟨wqqj,λa4 bd=>?_⟩;have Z:=qu (Sr Y) (o:=.tup [.int 1]) bd;have r:upd Y a4 (.tup [.int 1]) a4=some (.tup [.int 1]):=qb;replace b:=Z _ _ b;replace j:=Z _ _ j;replace p:=Z _ _ p;generalize upd Y a4 (.tup [.int 1])=H7 at Z r b j p;apply⟨wqqj,λa5 be=>?_⟩;have t8:=qu (Sr H7) (o:=.lst [.int 0]) be;have av:upd H7 a5 (.lst [.int 0]) a5=some (.lst [.int 0]):=qb;replace b:=t8 _ _ b;replace j:=t8 _ _ j;replace p:=t8 _ _ p;replace r:=t8 _ _ r;generalize upd H7 a5 (.lst [.int 0])=H8 at t8 av b j p r;apply⟨a5,61,_,rfl,rfl,av,by decide,by decide,by show 1*61<=sizeLine;decide,λa6 bf=>?_⟩;rw[show(List.replicate (61:Int).toNat [V.int 0]).flatten=List.replicate 61 (V.int 0) from by decide];have t9:=qu (Sr H8) (o:=.lst (List.replicate 61 (.int 0))) bf;have aa:upd H8 a6 (.lst (List.replicate 61 (.int 0))) a6=some (.lst (List.replicate 61 (.int 0))):=qb;replace b:=t9 _ _ b;replace j:=t9 _ _ j;replace p:=t9 _ _ p;replace r:=t9 _ _ r;generalize upd H8 a6 (.lst (List.replicate 61 (.int 0)))=H9 at t9 aa b j p r;apply⟨by show 7<=sizeLine;decide,λo ho=>?_⟩;have ac:=qu (Sr H9) (o:=.lst [.ref N,.non,.int 7,.ref O,.ref a3,.ref a4,.ref a6]) ho;have eo:upd H9 o (.lst [.ref N,.non,.int 7,.ref O,.ref a3,.ref a4,.ref a6]) o=some (.lst [.ref N,.non,.int 7,.ref O,.ref a3,.ref a4,.ref a6]):=qb;replace b:=ac _ _ b;replace j:=ac _ _ j;replace p:=ac _ _ p;replace r:=ac _ _ r;replace aa:=ac _ _ aa;generalize upd H9 o (.lst [.ref N,.non,.int 7,.ref O,.ref a3,.ref a4,.ref a6])=H10 at ac eo b j p r aa;have tA:=((((((D.trans X).trans t6).trans Z).trans t8).trans t9).trans ac);have ax:=tA _ _ (s3 _ _ ak);ext;have al:∀{a:Addr} {xs:List V},H10 a=some (.lst xs)->xs.length<=100->(∀ y∈xs,∃ f:qaI y=true,∀ s,y≠.str s)->Th x H10 1 (.ref a):=λe l f=>.lst e (λz=>by rw[z,ax] at e;cases e) (λy hy=>by obtain⟨f1,f2⟩:=f y hy;show .flat f1 λs e=>absurd e (f2 s)) (by lk)
       obtain⟨v,I,S,as,hd⟩:∃ v,atI [V.ref N,.non,.int 7,.ref O,.ref a3,.ref a4,.ref a6] ((wy:Int)-20)=some v/\Th x H10 1 v/\qay H10 v=false/\Dat H10 v (dD ss wy):=by
        have:wy=20\/wy=21\/wy=22\/wy=23\/wy=24\/wy=25\/wy=26:=by lk
        rcases this with rfl | rfl | rfl | rfl | rfl | rfl | rfl
        .show⟨_,rfl,al b (by decide) nofun,by unfold qay;dsimp only;rw[b];rfl,.lst b .nil⟩
        .show⟨_,rfl,.flat rfl (λs e=>by cases e),rfl,.non⟩
        .show⟨_,rfl,.flat rfl (λs e=>by cases e),rfl,.int _⟩
        .show⟨_,rfl,al j (by show 1<=100;decide) (λy hy=>by rw[yr.mp hy];show⟨rfl,nofun⟩),by unfold qay;dsimp only;rw[j];rfl,.lst j (.cons .non .nil)⟩
        .show⟨_,rfl,al p (by show 1<=100;decide) (λy hy=>by rw[yr.mp hy];show⟨rfl,nofun⟩),by unfold qay;dsimp only;rw[p];rfl,.lst p (.cons (.bl _) .nil)⟩
        .show⟨_,rfl,.tup r (λz=>by rw[z,ax] at r;cases r) (λy hy=>by rw[yr.mp hy];show .flat rfl (λs e=>by cases e)) (by show 1<=1000;decide),by unfold qay;dsimp only;rw[r],.tup r (.cons (.int _) .nil)⟩
        .show⟨_,rfl,al aa (by rw[YV];decide) (λy hy=>by rw[(ky.mp hy).2];show⟨rfl,nofun⟩),by unfold qay;dsimp only;rw[aa];rfl,.lst aa (qek 61)⟩
       show .inl (qbW eo I ?_);ext;have sA:=s3.trans tA;show⟨x,0,x,ss,ns,_,v,rfl,.inr ⟨TI,st,cl,rfl,Wz.same sA,hT,nm,hs,hC,S,as,ad 1 _ v (by unfold kD;rw[yB h4,yB ae,yB ai,yB ao]) sA hd⟩⟩
  .obtain⟨v,dy,ay,rfl,s1,B,hd,rfl⟩:=hE
   have am:(kD wy=0/\(wy<4\/(10<wy/\wy<16)))\/(kD wy=1/\((5<wy/\wy<11)\/19<wy))\/(kD wy=2/\15<wy/\wy<20):=by
    unfold kD;split
    .show .inl ⟨rfl,.inl (by lk)⟩
    .split
     .show .inr (.inl ⟨rfl,.inl (by lk)⟩)
     .split
      .show .inl ⟨rfl,.inr (by lk)⟩
      .split
       .show .inr (.inr ⟨rfl,by lk⟩)
       .show .inr (.inl ⟨rfl,.inr (by lk)⟩)
   show⟨_,(qhc (K:=K) rfl KH.nd (i:=5) rfl rfl rfl T.m_NoPlayer (qe (qm (qA (qa (qg6 (jk qaB (pv 3) qh (qv _)) (j4 (qap qaB qaB qh (pv 3) qh))) (qa (jA (K:=K) rfl (pv 5) rfl) (qa (zv (qj (jY (K:=K) rfl) rfl T.b_isinstance yV (qa (pv 5) (qa (qY (v:=.ty "ValueError") rfl T.b_ValueError j7 rfl) qc))) (j4 (qcF (qj (qbG (K:=K) rfl) rfl T.b_isinstance yV (qa (pv 5) (qa (q8 (qa (qaF (v:=.ref (cc 1)) rfl T.m_NoNumbers rfl) (qa (qaF (v:=.ref (cc 3)) rfl T.m_NoMove rfl) qc))) qc)))))) qc)))))) (qhc (K:=K) rfl KH.nd (i:=5) rfl rfl rfl T.m_NoNumbers (qe (qm (qA (qa (qg6 (qap qaB qaB qh (pv 3) qh) (j4 (jk qeZ (pv 3) qh (qv _)))) (qa (jA (K:=K) rfl (pv 5) rfl) (qa (zv (qj (jY (K:=K) rfl) rfl T.b_isinstance yV (qa (pv 5) (qa (qY (v:=.ty "ValueError") rfl T.b_ValueError j7 rfl) qc))) (j4 (qcF (qj (qbG (K:=K) rfl) rfl T.b_isinstance yV (qa (pv 5) (qa (q8 (qa (qaF (v:=.ref (cc 2)) rfl T.m_NoPlace rfl) (qa (qaF (v:=.ref (cc 4)) rfl T.m_TooMany rfl) qc))) qc)))))) qc)))))) (qhc (K:=K) rfl KH.nd (i:=5) rfl rfl rfl T.m_NoPlace (qe (qm (qA (qa (qap qaB qaB qh (pv 3) qh) (qa (jA (K:=K) rfl (pv 5) rfl) (qa (zv (qj (jY (K:=K) rfl) rfl T.b_isinstance yV (qa (pv 5) (qa (qY (v:=.ty "ValueError") rfl T.b_ValueError j7 rfl) qc))) (j4 (qcF (qj (qbG (K:=K) rfl) rfl T.b_isinstance yV (qa (pv 5) (qa (q8 (qa (qaF (v:=.ref (cc 1)) rfl T.m_NoNumbers rfl) (qa (qaF (v:=.ref (cc 0)) rfl T.m_NoPlayer rfl) qc))) qc)))))) qc)))))) (ph_no (K:=K) rfl rfl T.m_OnceError (qe (qm (qA (qa jW qc)))) ph_nil)))),?_⟩;generalize kD wy=k at ay B am;cases ay;rcases am with⟨rfl,hw⟩ | ⟨rfl,hw⟩ | ⟨rfl,hw⟩
   .show⟨true,bt,T.xat 0 (by decide),T.xat 0 (by decide),jp ?_⟩;apply qI (λh=>?_) λh=>?_
    all_goals try (
     have h4:10<wy/\wy<16:=hw.resolve_left λz=>h (yv (by lk));ext;rw[yv (show(10:Int)<(wy:Int) by lk)];show jp ?_;ext;rw[yv (show(wy:Int)<16 by lk)])
    all_goals
     apply .inr ⟨a,cc 0,dy,_,v,rfl,.inr G,T.xat 0 (by decide),T.na 0 (by decide),B,rfl,?_⟩;apply zy (.inr ⟨a,cc 0,some dy,rfl,rfl,.inr G,T.xat 0 (by decide),λd z=>by cases z;show⟨_,B⟩⟩) rfl (T.kitV 0 (by decide)) ?_;show⟨_,rfl,jp ?_⟩;apply⟨wqqk,λtp ag=>?_⟩;have m:=qu (Sr H') (o:=.tup [.ref (cc 1),.ref (cc 3)]) ag;have L:upd H' tp (.tup [.ref (cc 1),.ref (cc 3)]) tp=some (.tup [.ref (cc 1),.ref (cc 3)]):=qb;have t:=m _ _ G;have U:=m _ _ B;generalize upd H' tp (.tup [.ref (cc 1),.ref (cc 3)])=J2 at m L t U;apply⟨_,tp,_,.ref (cc 0),[.ref (cc 1),.ref (cc 3)],false,rfl,.inr ⟨a,cc 0,some dy,rfl,rfl,.inr t,T.xat 0 (by decide),λd z=>by cases z;show⟨_,U⟩⟩,L,rfl,?_,?_⟩
     .have k1:=T.kit 0 1 (by decide) (by decide);have k2:=T.kit 0 3 (by decide) (by decide);simp only[W.kitAny,k1,k2];rfl
     apply⟨wqql,λl hl=>?_⟩;ext;have sl:=qu (Sr J2) (o:=.lst [.bl true,v,.bl true]) hl;show q l v _ (s1.trans (m.trans sl)) qb (hd.same (m.trans sl))
   .show⟨false,bp,T.xat 0 (by decide),T.xat 1 (by decide),qI (λh=>by cases h) λ_=>?_⟩;show⟨true,bu,T.xat 1 (by decide),T.xat 1 (by decide),jp ?_⟩;ext;rw[yv (show(5:Int)<(wy:Int) by lk)];show jp ?_;apply qI (λh=>?_) λh=>?_
    all_goals try (
     have bz:19<wy:=hw.resolve_left λz=>h (yv (by lk));ext;rw[yv (show(wy:Int)>19 by lk)])
    all_goals
     apply .inr ⟨a,cc 1,dy,_,v,rfl,.inr G,T.xat 1 (by decide),T.na 1 (by decide),B,rfl,?_⟩;apply zy (.inr ⟨a,cc 1,some dy,rfl,rfl,.inr G,T.xat 1 (by decide),λd z=>by cases z;show⟨_,B⟩⟩) rfl (T.kitV 1 (by decide)) ?_;show⟨_,rfl,jp ?_⟩;apply⟨wqqk,λtp ag=>?_⟩;have m:=qu (Sr H') (o:=.tup [.ref (cc 2),.ref (cc 4)]) ag;have L:upd H' tp (.tup [.ref (cc 2),.ref (cc 4)]) tp=some (.tup [.ref (cc 2),.ref (cc 4)]):=qb;have t:=m _ _ G;have U:=m _ _ B;generalize upd H' tp (.tup [.ref (cc 2),.ref (cc 4)])=J2 at m L t U;apply⟨_,tp,_,.ref (cc 1),[.ref (cc 2),.ref (cc 4)],false,rfl,.inr ⟨a,cc 1,some dy,rfl,rfl,.inr t,T.xat 1 (by decide),λd z=>by cases z;show⟨_,U⟩⟩,L,rfl,?_,?_⟩
     .have k1:=T.kit 1 2 (by decide) (by decide);have k2:=T.kit 1 4 (by decide) (by decide);simp only[W.kitAny,k1,k2];rfl
     apply⟨wqql,λl hl=>?_⟩;ext;have sl:=qu (Sr J2) (o:=.lst [.bl true,v,.bl true]) hl;show q l v _ (s1.trans (m.trans sl)) qb (hd.same (m.trans sl))
   .show⟨false,bq,T.xat 0 (by decide),T.xat 2 (by decide),qI (λh=>by cases h) λ_=>?_⟩;show⟨false,br,T.xat 1 (by decide),T.xat 2 (by decide),qI (λh=>by cases h) λ_=>?_⟩;show⟨true,bv,T.xat 2 (by decide),T.xat 2 (by decide),jp ?_⟩;ext;rw[yv (show(15:Int)<(wy:Int) by lk)];show jp ?_;ext;rw[yv (show(wy:Int)<20 by lk)];apply .inr ⟨a,cc 2,dy,_,v,rfl,.inr G,T.xat 2 (by decide),T.na 2 (by decide),B,rfl,?_⟩;apply zy (.inr ⟨a,cc 2,some dy,rfl,rfl,.inr G,T.xat 2 (by decide),λd z=>by cases z;show⟨_,B⟩⟩) rfl (T.kitV 2 (by decide)) ?_;show⟨_,rfl,jp ?_⟩;apply⟨wqqk,λtp ag=>?_⟩;have m:=qu (Sr H') (o:=.tup [.ref (cc 1),.ref (cc 0)]) ag;have L:upd H' tp (.tup [.ref (cc 1),.ref (cc 0)]) tp=some (.tup [.ref (cc 1),.ref (cc 0)]):=qb;have t:=m _ _ G;have U:=m _ _ B;generalize upd H' tp (.tup [.ref (cc 1),.ref (cc 0)])=J2 at m L t U;apply⟨_,tp,_,.ref (cc 2),[.ref (cc 1),.ref (cc 0)],false,rfl,.inr ⟨a,cc 2,some dy,rfl,rfl,.inr t,T.xat 2 (by decide),λd z=>by cases z;show⟨_,U⟩⟩,L,rfl,?_,?_⟩
    .have k1:=T.kit 2 1 (by decide) (by decide);have k2:=T.kit 2 0 (by decide) (by decide);simp only[W.kitAny,k1,k2];rfl
    apply⟨wqql,λl hl=>?_⟩;ext;have sl:=qu (Sr J2) (o:=.lst [.bl true,v,.bl true]) hl;show q l v _ (s1.trans (m.trans sl)) qb (hd.same (m.trans sl))
theorem Kq:FnScope ["_law_web_here","_law_names_here","_law_start","_law_due","_law_k","_law_way","_law_found"] wqz (qf qQ):=fS
def aW(a:List Expr):Stmt->Stmt
 | .Assign ts (.List _ lp) p=>.Assign ts (.List a lp) p
 | s=>s
def bW(b:List Expr):Stmt->Stmt
 | .Assign ts (.BinOp a o (.List _ lp) q) p=>.Assign ts (.BinOp a o (.List b lp) q) p
 | s=>s
theorem due_parts:∃ g m,zk qQ=[aW g (qee qQ 0),bW m (qee qQ 1),qee qQ 2,qee qQ 3]/\∀(env:Env) (a:Expr->TE->Prop) (d:List Expr->TA->Prop),
  (∀ j c,a (.Constant .none j c) (tC .non))->(∀ i j c,a (.Constant (.int i) j c) (tC (.int i)))->(∀ b j c,a (.Constant (.bool b) j c) (tC (.bl b)))->(∀ x j c,a (.Constant (.str x) j c) (tC (.str x))) ->
  (∀ g c t,d g t->a (.List g c) (qe0 t))->(∀ g y c t,d g t->a (.Tuple g y c) (qg9 t))->(∀ e f c l q,a e l->a f q->a (.BinOp e .Mult f c) (tOp rRep l q))->(∀ e c l,a e l->a (.UnaryOp .USub e c) (tUn (rU λi=>.int (-i)) l))->(∀ p,a (.Name "_law_names_here" p) (qd1 1))->(∀ u j v w,a (.Subscript (.Name "_law_names_here" u) (.Constant (.int 0) j v) w) (tOp (qhH K) (qd1 1) (tC (.int 0))))->d [] qbT ->
  (∀ e g l t,a e l->d g t->starEach (e::g) env=(false,eval e env)::starEach g env->d (e::g) (qO l t)) ->
  d g (qO (tC .non) (qO (tC (.int 7)) (qO (tC (.str "a")) (qO (qd1 1) (qO (tC (.int 2)) (qO (tUn (rU λi=>.int (-i)) (tC (.int 1))) (qO (tC (.bl true)) (qO (tC .non) (qO (tC (.str "0")) (qO (tC .non) (qO (tC (.str "ab")) (qO (tC (.int 7)) (qO (qe0 (qO (tOp (qhH K) (qd1 1) (tC (.int 0))) (qO (tC (.str "A")) qbT))) (qO (qg9 (qO (tC .non) qbT)) (qO (tC .non) (qO (tC (.int 0)) (qO (tC (.str "")) (qO (qd1 1) qbT)))))))))))))))))) /\
  d m (qO (qe0 qbT) (qO (tC .non) (qO (tC (.int 7)) (qO (qe0 (qO (tC .non) qbT)) (qO (qe0 (qO (tC (.bl true)) qbT)) (qO (qg9 (qO (tC (.int 1)) qbT)) (qO (tOp rRep (qe0 (qO (tC (.int 0)) qbT)) (tC (.int 61))) qbT))))))):=
 ⟨_,_,rfl,λenv a d hn h hb n hl o hm r hv s h0 hc=>⟨hc _ _ _ _ (hn _ _) (hc _ _ _ _ (h _ _ _) (hc _ _ _ _ (n _ _ _) (hc _ _ _ _ (hv _) (hc _ _ _ _ (h _ _ _) (hc _ _ _ _ (r _ _ _ (h _ _ _)) (hc _ _ _ _ (hb _ _ _) (hc _ _ _ _ (hn _ _) (hc _ _ _ _ (n _ _ _) (hc _ _ _ _ (hn _ _) (hc _ _ _ _ (n _ _ _) (hc _ _ _ _ (h _ _ _) (hc _ _ _ _ (hl _ _ _ (hc _ _ _ _ (s _ _ _ _) (hc _ _ _ _ (n _ _ _) (h0) rfl) rfl)) (hc _ _ _ _ (o _ _ _ _ (hc _ _ _ _ (hn _ _) (h0) rfl)) (hc _ _ _ _ (hn _ _) (hc _ _ _ _ (h _ _ _) (hc _ _ _ _ (n _ _ _) (hc _ _ _ _ (hv _) (h0) rfl) rfl) rfl) rfl) rfl) rfl) rfl) rfl) rfl) rfl) rfl) rfl) rfl) rfl) rfl) rfl) rfl) rfl,hc _ _ _ _ (hl _ _ _ (h0)) (hc _ _ _ _ (hn _ _) (hc _ _ _ _ (h _ _ _) (hc _ _ _ _ (hl _ _ _ (hc _ _ _ _ (hn _ _) (h0) rfl)) (hc _ _ _ _ (hl _ _ _ (hc _ _ _ _ (hb _ _ _) (h0) rfl)) (hc _ _ _ _ (o _ _ _ _ (hc _ _ _ _ (h _ _ _) (h0) rfl)) (hc _ _ _ _ (hm _ _ _ _ _ (hl _ _ _ (hc _ _ _ _ (h _ _ _) (h0) rfl)) (h _ _ _)) (h0) rfl) rfl) rfl) rfl) rfl) rfl) rfl⟩⟩
def wyK(k:Nat):Nat:=if k<4 then k else k+2
def qhV(ss:LS):List PyData:=(ddL ss).take 4++(ddL ss).drop 6
theorem due_at(ss:LS){k:Nat}(h:k<25):(qhV ss)[k]?=some (dD ss (wyK k)):=by
 have l:(ddL ss).length=27:=rfl
 have g:∀ j,j<27->(ddL ss)[j]?=some (dD ss j):=λj b=>by
  unfold dD;rw[yY,yb (by rw[l];show b)];rfl
 unfold qhV wyK;by_cases a:k<4
 .rw [yH a,yP (by rw[yN,l];lk),List.getElem?_take,yH a];show g k (by lk)
 .have e:((ddL ss).take 4).length=4:=rfl;rw[yB a,yX (by rw[e];lk),e,List.getElem?_drop,show 6+(k-4)=k+2 by lk];show g (k+2) (by lk)
theorem DatS.at_:∀{xs:List V} {b:List PyData} {k:Nat} {d:PyData},DatS H xs b->b[k]?=some d->∃ v,xs[k]?=some v/\Dat H v d
 | _,_,_,_,.nil,h=>by simp at h
 | _,_,0,_,.cons a _,h=>by cases h;show⟨_,rfl,a⟩
 | _,_,k+1,_,.cons _ r,h=>DatS.at_ (k:=k) r h
theorem shw_names(nm:∀ s∈ss,jx s=true)(l:ss.length<=14):Shw (.list (ss.map .str)) (2 ^ 20) 60:=by
 have k:∀{xs:LS},(∀ s∈xs,jx s=true)->ShwS (xs.map PyData.str) (7*xs.length) 0:=λ{xs}=>by
  induction xs with
  | nil=>intro _;show ShwS.nil
  | cons x xs ih =>
   intro h;have a:=h x yC;have:=ShwS.cons (Shw.str (m:=0) (j3 a)) (ih λs b=>h s (yw _ b));show this.mono (by have:=zd a;rw[Yb];lk) (yg _)
 show(k nm).list.mono (by lk) (by decide)
theorem shw_dD(nm:∀ s∈ss,jx s=true)(l:ss.length<=14)(j:0<ss.length)(w:Nat):Shw (dD ss w) (2 ^ 20) 60:=by
 have key:∀ d∈ddL ss,Shw d (2 ^ 20) 60:=by
  have n:Shw .none (2 ^ 20) 60:=Shw.non.mono (Yi _) (yg _);have i:∀{z:Int},-999999999999<=z->z<=999999999999->Shw (.int z) (2 ^ 20) 60:=λa b=>(Shw.int a b).mono (Yi _) (yg _);have s:∀{x:Str},(∀ c∈x.cps.toList,c<16 ^ 8)->x.length<=100->Shw (.str x) (2 ^ 20) 60:=λa b=>(Shw.str a).mono (yh b (by decide)) (yg _);have nms:=shw_names nm l;have g:=nm _ (jP j)
  have rep:∀ k:Nat,ShwS (List.replicate k (PyData.int 0)) k 0:=λk=>by
   induction k with
   | zero=>show ShwS.nil
   | succ k ih=>show(ShwS.cons (Shw.int (by decide) (by decide)) ih).mono (by lk) (yg _)
  intro d f;simp only[ddL,yy,yR,YJ] at f;rcases f with rfl | rfl | rfl | rfl | rfl | rfl | rfl | rfl | rfl | rfl | rfl | rfl | rfl | rfl | rfl | rfl | rfl | rfl | rfl | rfl | rfl | rfl | rfl | rfl | rfl | rfl | rfl
  all_goals first
   | show n
   | show nms
   | show i (by decide) (by decide)
   | show s (by room) (by room)
   | show Shw.bl.mono (Yi _) (yg _)
   | show(ShwS.cons (Shw.str (m:=0) (j3 g)) (ShwS.cons (Shw.str (x:="A") (by room)) ShwS.nil)).list.mono (by have:=zd g;have e:("A":Str).length=1:=rfl;rw[e];lk) (by decide)
   | show(ShwS.cons (Shw.non (m:=0)) ShwS.nil).tuple.mono (by decide) (by decide)
   | show(ShwS.nil (m:=0)).list.mono (by decide) (by decide)
   | show(ShwS.cons (Shw.non (m:=0)) ShwS.nil).list.mono (by decide) (by decide)
   | show(ShwS.cons (Shw.bl (m:=0)) ShwS.nil).list.mono (by decide) (by decide)
   | show(ShwS.cons (Shw.int (m:=0) (by decide) (by decide)) ShwS.nil).tuple.mono (by decide) (by decide)
   | show(rep 61).list.mono (by decide) (by decide)
 by_cases h:w<(ddL ss).length
 .unfold dD;rw[yY,yb h];show key _ (Xb h)
 .unfold dD;rw[yY,xl (by lk)];show Shw.non.mono (Yi _) (yg _)
def wl:LN:=[0,1,2,3]++(List.range 21).map (6 + ·)
theorem wl_eq:([V.int 0,.int 1,.int 2,.int 3]++(List.range 21).map λi=>V.int ((6+i:Nat):Int))=ivs wl:=rfl
theorem wl_at(h:i<25):wl[i]?=some (wyK i):=by
 unfold wl wyK;by_cases a:i<4
 .rw [yH a,yP (by show i<4;show a)];have:i=0\/i=1\/i=2\/i=3:=by lk
  rcases this with rfl | rfl | rfl | rfl<;>rfl
 .rw [yB a,yX (by show 4<=i;lk)];show((List.range 21).map (6 + ·))[i-4]?=_;rw[yd,Xv (by lk)];show some (6+(i-4))=some (i+2);rw[show 6+(i-4)=i+2 by lk]
theorem vLR2{Q:VK}(h:ta σ H λvs H1=>∃ lo n:Nat,vs=[.int lo,.int ((lo+n:Nat):Int)]/\lo+n<=1000/\∀ l,H1 l=none->Q (.ref l) (upd H1 l (.lst ((List.range n).map λi=>V.int ((lo+i:Nat):Int))))):qip ta σ H Q:=h
theorem atI_nat{k:Nat}(h:xs[k]?=some v):atI xs (k:Int)=some v:=by
 have a:=(yc.mp h).1;unfold atI;rw[qbb a];show h
inductive spAr(cw:Addr)(vs:List V)(H:Hp)(Q:VK)(E:XK):Prop|mk (x n:Addr) (ss:LS) (ns:LN) (TI:List (Nat×Nat)) (cl:Nat->Bool) (s:Nat) (_:vs=[.ref x,.ref n,iv s]) (_:Wt cw H x ss ns (TI.map (nmP ss))) (_:H n=some (.lst (ss.map V.str))) (_:TIok ss.length TI) (_:(∀ s∈ss,jx s=true)) (_:(∀ a b,adjI TI a b->cl b=!cl a)) (_:s<ss.length) (_:∀ H',L2.Same H H'->Q (.bl true) H')
theorem ok_ar(F:Fun K "_law_all_refused" "_law_all_refused" qQ f fd)(T:Txt K mg cc cw)(UH:wqqe 16 "_law_refused" wqr (spRfJ cw)):wqqg 17 f fd wqz (spAr cw):=by
 show F.ok Kq λ_ A _ _ H vs Q E y h=>?_
 .obtain⟨x,n,ss,ns,TI,cl,st,rfl,W,hN,hT,nm,hC,M,q⟩:=h;have B:=jJ y;have few:=W.wok.few;obtain⟨bb,bc,ad,L⟩:=due_parts (K:=K);rw[ad];show⟨_,(qd (qq (i:=3) Kq.nd rfl (yF rfl) (qA (by first | show(L _ _ _ (λ_ _=>jI) (λ_ _ _=>qh) (λ_ _ _=>jW) (λ_ _ _=>jg) (λ_ _ _ h=>qA h) (λ_ _ _ _ h=>q8 h) (λ_ _ _ _ _ h1 h2=>qz qcg h1 h2) (λ_ _ _ h=>qdu qbM h) (λ_=>pv 1) (λ_ _ _ _=>qB (qC (K:=K) rfl B) (pv 1) qh (λ_ _=>rfl)) qc λ_ _ _ _ ha y M=>qa ha y M).1 | show(L _ _ _ (λ_ _=>jI) (λ_ _ _=>qh) (λ_ _ _=>jW) (λ_ _ _=>jg) (λ_ _ _ h=>qA h) (λ_ _ _ _ h=>q8 h) (λ_ _ _ _ _ h1 h2=>qz qcg h1 h2) (λ_ _ _ h=>qdu qbM h) (λ_=>pv 1) (λ_ _ _ _=>qB (qC (K:=K) rfl B) (pv 1) qh (λ_ _=>rfl)) qc λ_ _ _ _ ha y M=>qa ha y M).2)))
 (qd (qq (i:=3) Kq.nd rfl (yF rfl) (qz (zg (K:=K) rfl) (pv 3) (qA (by first | show(L _ _ _ (λ_ _=>jI) (λ_ _ _=>qh) (λ_ _ _=>jW) (λ_ _ _=>jg) (λ_ _ _ h=>qA h) (λ_ _ _ _ h=>q8 h) (λ_ _ _ _ _ h1 h2=>qz qcg h1 h2) (λ_ _ _ h=>qdu qbM h) (λ_=>pv 1) (λ_ _ _ _=>qB (qC (K:=K) rfl B) (pv 1) qh (λ_ _=>rfl)) qc λ_ _ _ _ ha y M=>qa ha y M).1 | show(L _ _ _ (λ_ _=>jI) (λ_ _ _=>qh) (λ_ _ _=>jW) (λ_ _ _=>jg) (λ_ _ _ h=>qA h) (λ_ _ _ _ h=>q8 h) (λ_ _ _ _ _ h1 h2=>qz qcg h1 h2) (λ_ _ _ h=>qdu qbM h) (λ_=>pv 1) (λ_ _ _ _=>qB (qC (K:=K) rfl B) (pv 1) qh (λ_ _=>rfl)) qc λ_ _ _ _ ha y M=>qa ha y M).2))))
 (qd (jy yW rfl (qea (K:=K) rfl rfl T.b_enumerate (qa (qz (zg (K:=K) rfl) (qA (qa qh (qa qh (qa qh (qa qh qc))))) (pe_lrng2 rfl rfl rfl T.b_list T.b_range (qa qh (qa qh qc)))) qc)) (qa1 rfl (qW (qo (i:=4) Kq.nd rfl (yF rfl)) (qW (qo (i:=5) Kq.nd rfl (yF rfl)) zV)))
 (qd (qq (i:=6) Kq.nd rfl (yF rfl) (qi UH (hmR y) qr (qa (pv 0) (qa (pv 1) (qa (pv 2) (qa (pv 5) qc))))))
 (qe (qJ (PW.pt (zU (qp (qaK (K:=K) rfl B) (qj (zx (K:=K) rfl) rfl T.b_len YM (qa (pv 6) qc)) qh (qv _)) (zU (qp qeN (qB (qC (K:=K) rfl B) (pv 6) qh (λ_ _=>rfl)) jW (qv _)) (zU (qp qeN (qB (qC (K:=K) rfl B) (pv 6) qh (λ_ _=>rfl)) jW (qv _)) (zu (qp (qaK (K:=K) rfl B) (qj (qc6 (K:=K) rfl B y.gd T.smod) rfl T.b_repr boot_repr (qa (qB (qC (K:=K) rfl B) (pv 6) qh (λ_ _=>rfl)) qc)) (qj (qc6 (K:=K) rfl B y.gd T.smod) rfl T.b_repr boot_repr (qa (qB (qC (K:=K) rfl B) (pv 3) (pv 4) (λ_ _=>rfl)) qc)) (qv _))))))) (qe (qm jW)) qt))))
 (qe (qm jW))))),?_⟩
  apply vU ?_;apply qbQ (i:=0) hN (by lk) ?_;apply⟨wqqk,λa1 al=>?_⟩;have t1:=qu (Sr H) (o:=.lst [.str (tn ss 0),.str "A"]) al;have C:upd H a1 (.lst [.str (tn ss 0),.str "A"]) a1=some (.lst [.str (tn ss 0),.str "A"]):=qb;generalize upd H a1 (.lst [.str (tn ss 0),.str "A"])=H1 at t1 C;apply⟨wqqj,λa2 am=>?_⟩;have t2:=qu (Sr H1) (o:=.tup [.non]) am;have ag:upd H1 a2 (.tup [.non]) a2=some (.tup [.non]):=qb;replace C:=t2 _ _ C;generalize upd H1 a2 (.tup [.non])=H2 at t2 ag C;ext;obtain⟨G,N⟩:∃ G:List V,G=[V.non,.int 7,.str "a",.ref n,.int 2,.int (-1),.bl true,.non,.str "0",.non,.str "ab",.int 7,.ref a1,.ref a2,.non,.int 0,.str "",.ref n]:=⟨_,rfl⟩;have l1:G.length=18:=by rw[N];rfl
  have D1:DatS H2 G ((qhV ss).take 18):=by
   have eN:=(t1.trans t2) _ _ hN;rw[N];show .cons .non (.cons (.int _) (.cons (.str _) (.cons (.lst eN (DatS.strs ss)) (.cons (.int _) (.cons (.int _) (.cons (.bl _) (.cons .non (.cons (.str _) (.cons .non (.cons (.str _) (.cons (.int _) (.cons (.lst C (.cons (.str _) (.cons (.str _) .nil))) (.cons (.tup ag (.cons .non .nil)) (.cons .non (.cons (.int _) (.cons (.str _) (.cons (.lst eN (DatS.strs ss)) (.nil))))))))))))))))))
  rw[<- N];clear N;show⟨by rw[l1];decide,λd1 ax=>?_⟩;have t3:=qu (Sr H2) (o:=.lst G) ax;have e:upd H2 d1 (.lst G) d1=some (.lst G):=qb;generalize upd H2 d1 (.lst G)=H3 at t3 e;replace D1:=D1.same t3;apply⟨wqqi,λb1 an=>?_⟩;have t4:=qu (Sr H3) (o:=.lst []) an;have g:upd H3 b1 (.lst []) b1=some (.lst []):=qb;replace e:=t4 _ _ e;generalize upd H3 b1 (.lst [])=H4 at t4 g e;apply⟨wqqj,λb2 ao=>?_⟩;have t5:=qu (Sr H4) (o:=.lst [.non]) ao;have j:upd H4 b2 (.lst [.non]) b2=some (.lst [.non]):=qb;replace e:=t5 _ _ e;replace g:=t5 _ _ g;generalize upd H4 b2 (.lst [.non])=H5 at t5 j e g;apply⟨wqqj,λb3 ap=>?_⟩;have t6:=qu (Sr H5) (o:=.lst [.bl true]) ap;have l:upd H5 b3 (.lst [.bl true]) b3=some (.lst [.bl true]):=qb;replace e:=t6 _ _ e;replace g:=t6 _ _ g;replace j:=t6 _ _ j;generalize upd H5 b3 (.lst [.bl true])=H6 at t6 l e g j;apply⟨wqqj,λb4 aq=>?_⟩;have Y:=qu (Sr H6) (o:=.tup [.int 1]) aq;have m:upd H6 b4 (.tup [.int 1]) b4=some (.tup [.int 1]):=qb;replace e:=Y _ _ e;replace g:=Y _ _ g;replace j:=Y _ _ j;replace l:=Y _ _ l;generalize upd H6 b4 (.tup [.int 1])=H7 at Y m e g j l;apply⟨wqqj,λb5 ar=>?_⟩;have U:=qu (Sr H7) (o:=.lst [.int 0]) ar;have ah:upd H7 b5 (.lst [.int 0]) b5=some (.lst [.int 0]):=qb;replace e:=U _ _ e;replace g:=U _ _ g;replace j:=U _ _ j;replace l:=U _ _ l;replace m:=U _ _ m;generalize upd H7 b5 (.lst [.int 0])=H8 at U ah e g j l m;apply⟨b5,61,_,rfl,rfl,ah,by decide,by decide,by show 1*61<=sizeLine;decide,λb6 as=>?_⟩;rw[show(List.replicate (61:Int).toNat [V.int 0]).flatten=List.replicate 61 (V.int 0) from by decide];have X:=qu (Sr H8) (o:=.lst (List.replicate 61 (.int 0))) as;have ai:upd H8 b6 (.lst (List.replicate 61 (.int 0))) b6=some (.lst (List.replicate 61 (.int 0))):=qb;replace e:=X _ _ e;replace g:=X _ _ g;replace j:=X _ _ j;replace l:=X _ _ l;replace m:=X _ _ m;generalize upd H8 b6 (.lst (List.replicate 61 (.int 0)))=H9 at X ai e g j l m;ext;obtain⟨I,O⟩:∃ I:List V,I=[V.ref b1,.non,.int 7,.ref b2,.ref b3,.ref b4,.ref b6]:=⟨_,rfl⟩;have l2:I.length=7:=by rw[O];rfl
  have D2:DatS H9 I ((qhV ss).drop 18):=by rw[O];show .cons (.lst g .nil) (.cons .non (.cons (.int _) (.cons (.lst j (.cons .non .nil)) (.cons (.lst l (.cons (.bl _) .nil)) (.cons (.tup m (.cons (.int _) .nil)) (.cons (.lst ai (qek 61)) .nil))))))
  rw[<- O];clear O;replace D1:=((((((D1.same t4).same t5).same t6).same Y).same U).same X);show⟨by rw[l2];decide,λd2 ae=>?_⟩;have s:=qu (Sr H9) (o:=.lst I) ae;have ac:upd H9 d2 (.lst I) d2=some (.lst I):=qb;replace e:=s _ _ e;generalize upd H9 d2 (.lst I)=H10 at s ac e;have Z:=(D1.same s).app (D2.same s);rw[List.take_append_drop] at Z;apply .inl ⟨d1,d2,_,_,rfl,rfl,e,ac,by rw[l1,l2];decide,λd hd=>?_⟩;have l3:(G++I).length=25:=by rw[yx,l1,l2]
  generalize G++I=x3 at Z l3;have S:=qu (Sr H10) (o:=.lst x3) hd;have D:upd H10 d (.lst x3) d=some (.lst x3):=qb;generalize upd H10 d (.lst x3)=H11 at S D;replace Z:=Z.same S;have sD:L2.Same H H11:=((((((((((t1.trans t2).trans t3).trans t4).trans t5).trans t6).trans Y).trans U).trans X).trans s).trans S);clear t1 t2 t3 t4 t5 t6 Y U X s S D1 D2 e ac;apply⟨wqqm,λc1 au=>?_⟩;have u1:=qu (Sr H11) (o:=.lst [.int 0,.int 1,.int 2,.int 3]) au;have p:upd H11 c1 (.lst [.int 0,.int 1,.int 2,.int 3]) c1=some (.lst [.int 0,.int 1,.int 2,.int 3]):=qb;replace D:=u1 _ _ D;generalize upd H11 c1 (.lst [.int 0,.int 1,.int 2,.int 3])=H12 at u1 p D;apply vLR2 ?_;apply⟨6,21,rfl,by decide,λc2 av=>?_⟩;have u2:=qu (Sr H12) (o:=.lst ((List.range 21).map λi=>V.int ((6+i:Nat):Int))) av;have aa:upd H12 c2 (.lst ((List.range 21).map λi=>V.int ((6+i:Nat):Int))) c2=some (.lst ((List.range 21).map λi=>V.int ((6+i:Nat):Int))):=qb;replace D:=u2 _ _ D;replace p:=u2 _ _ p;generalize upd H12 c2 (.lst ((List.range 21).map λi=>V.int ((6+i:Nat):Int)))=H13 at u2 p aa D;show .inl ⟨c1,c2,_,_,rfl,rfl,p,aa,by rw[ya,Yh];decide,λc3 aw=>?_⟩;rw[wl_eq];have u3:=qu (Sr H13) (o:=.lst (ivs wl)) aw;have ab:upd H13 c3 (.lst (ivs wl)) c3=some (.lst (ivs wl)):=qb;replace D:=u3 _ _ D;generalize upd H13 c3 (.lst (ivs wl))=H14 at u3 ab D;have uA:=(u1.trans u2).trans u3;replace sD:=sD.trans uA;replace Z:=Z.same uA;clear u1 u2 u3 p aa uA;apply⟨c3,_,rfl,.of ab,qc2 (xs:=ivs wl) (λi σ J=>L2.Same H14 J/\∃ a b c,σ=[some (.ref x),some (.ref n),some (iv st),some (.ref d),a,b,c]) ⟨L2.Same.refl H14,_,_,_,rfl⟩ (λi σ J _ hp=>.of (hp.1 _ _ ab)) (λi z t σ J hx ht hp=>?_) fun σ J hp=>?_⟩
  .obtain⟨sJ,a0,b0,c0,rfl⟩:=hp;rw[yd] at hx;obtain⟨wy,af,rfl⟩:=ym.mp hx;have hi:i<25:=(yc.mp af).1;have aj:wy=wyK i:=by rw[wl_at hi] at af;show(yl af).symm
   have hw:wy<27/\wy≠4/\wy≠5:=by rw[aj];unfold wyK;split<;>lk
   have s1:=qu (Sr J) (o:=.tup [.int i,iv wy]) ht;have et:upd J t (.tup [.int i,iv wy]) t=some (.tup [.int i,iv wy]):=qb;show⟨t,_,rfl,.of et,rfl,_,_,rfl,_,_,rfl,rfl,?_⟩;generalize upd J t (.tup [.int i,iv wy])=J1 at s1;have sH:=sD.trans (sJ.trans s1);apply⟨x,n,ss,ns,TI,cl,st,wy,rfl,W.same sH,sH _ _ hN,hT,nm,hC,M,hw.1,hw.2.1,hw.2.2,λr v J2 s2 er ae=>?_⟩;have ba:=shw_dD nm few (by lk) wy;have ak:=s2 _ _ (s1 _ _ (sJ _ _ D));obtain⟨u,az,ay⟩:=DatS.at_ Z (due_at ss hi);apply qaJ er ?_;apply qhi ?_;apply yp ?_;apply .inl (qbW er (v:=.bl true) rfl ?_);show⟨true,true,rfl,rfl,⟨_,rfl,qI (λh=>by cases h) λ_=>?_⟩⟩;apply .inl (qbW er (v:=.bl true) rfl ?_);apply⟨true,true,rfl,rfl,⟨_,rfl,qI (λh=>by cases h) λ_=>?_⟩⟩;apply .inl (qbW er (v:=v) rfl ?_);ext;have rs:∀{J:Hp} {z:V} {R:VK},Dat J z (dD ss wy)->R (.str (dD ss wy).shown) J->qfF [z] J R:=λa b=>.inl ⟨_,_,rfl,a,ba,b⟩;show rs ae ?_;apply .inl (qbW ak (v:=u) (atI_nat az) ?_);apply rs (by rw[aj];show((ay.same sJ).same s1).same s2) ?_;show qhU ?_;rw[yv rfl];apply yp ?_;show⟨(sJ.trans s1).trans s2,_,_,_,rfl⟩
  .obtain⟨sJ,a0,b0,c0,rfl⟩:=hp;apply q _ (sD.trans sJ)
theorem KM:FnScope ["_law_script","_law_names_here","_law_ties","_law_web_here","_law_start","_law_cell","_law_word","_law_some","_law_thing","_law_other"] wqqb (qf qel):=fS
theorem qhN{a:TE}{gs:TGs}(h:a σ H λx H1=>qhO K n gs x σ H1 D.nx):qhj a (qhO K n gs) D σ H:=h
theorem FnOk.or{k:Nat}{ps:LS}{b c:Sp}(d:FnOk P w K mg base CX k f fd ps b)(e:FnOk P w K mg base CX k f fd ps c):FnOk P w K mg base CX k f fd ps (λvs H Q E=>b vs H Q E\/c vs H Q E):=
 ⟨λvs H Q E h=>h.elim (d.len vs H Q E) (e.len vs H Q E),λA a s H args us vs Q E i g hb hv j=>j.elim (d.run A a s H args us vs Q E i g hb hv) (e.run A a s H args us vs Q E i g hb hv)⟩
inductive spLaw(K:W.Frag)(vs:List V)(H:Hp)(Q:VK)(E:XK):Prop|mk (a:Addr) (ns:LQ) (_:vs=[.ref a]) (_:SqL K H a (ns.map V.int)) (_:ns.length<=63) (_:∀ H',Q (.bl true) H')
theorem qem(h:SqL K H a xs)(s:L2.Same H H'):SqL K H' a xs:=h.imp (λe=>e.imp (λe=>s _ _ e) λ⟨o,e⟩=>⟨o,s _ _ e⟩) id
theorem qf9(nm:∀ s∈ss,jx s=true)(a:∃ C dx fs,J x=some (.ins C dx fs))(e:J l=some (.lst (qH ss L)))(f:L.length<=14)(hl:∀ u∈L,u<ss.length):ThJ x J (.ref l):=by
 obtain⟨C,dx,fs,a⟩:=a;show(OkD.lst (k:=0) (n:=100) (m:=4) e (λz=>by rw[z,a] at e;cases e) (by rw[qw];lk) λy h=>?_).thj (by decide) (by decide) (by decide) λb ys d c=>by cases d;rw[e] at c;cases c;rw[qw];lk
 obtain⟨z,i,rfl⟩:=yE.mp h;obtain⟨u,g,rfl⟩:=yE.mp i;have n:=nm _ (jP (hl u g));show OkD.str (j3 n) (yh (zd n) (by decide))
theorem ok_law72(F:Fun K "law" "law" qel f fd)(T:Txt K mg cc cw)(um:wqqe 1 "_law_cell_at" wqO (spCa K))(UZ:wqqe 3 "_law_drawn" wq0 spDr)(U4:wqqe 7 "_law_web" wqS (spWb cw))(K3:wqqe 13 "_law_judged" wqn (spJu cw))(UP:wqqe 4 "_law_chosen" wqt spCs)(uB:wqqe 12 "told_set" wqf (spTd cw))(uQ:wqqe 1 "_law_put_otherwise" wqU spPo)(Ue:wqqe 17 "_law_all_refused" wqz (spAr cw)):wqqg 18 f fd wqqb (spLaw K):=by
 show F.ok KM λ_ _ _ _ H vs Q E e h=>?_
 .obtain⟨a,nz,rfl,hS,af,q⟩:=h;have hu:=jJ e;show⟨_,(qd (qa2 (qi UZ (hmR e) qr (qa (qi um (hmR e) qr (qa (pv 0) (qa qh qc))) (qa jW qc))) (qa1 rfl (qW (qo (i:=1) KM.nd rfl (yF rfl)) (qW (qo (i:=2) KM.nd rfl (yF rfl)) zV))))
 (qd (qJ (qp (zA (K:=K) rfl hu) (pv 1) (qA qc) (qv _)) (qe (qm jW)) qt)
 (qd (qq (i:=3) KM.nd rfl (yF rfl) (qi U4 (hmR e) qr (qa (pv 1) (qa (pv 2) qc))))
 (qd (qq (i:=4) KM.nd rfl (yF rfl) (qz zh (qi um (hmR e) qr (qa (pv 0) (qa qh qc))) (qj (zx (K:=K) rfl) rfl T.b_len YM (qa (pv 1) qc))))
 (qd (jy yW rfl (qF (K:=K) rfl (qbU (qhR (K:=K) rfl) (pv 0) (qa5 qh) (qa5 qh))) (qo (i:=5) KM.nd rfl (yF rfl))
 (qe (qJ (qS (qN (qi K3 (hmR e) qr (qa (pv 3) (qa (pv 1) (qa (pv 2) (qa (pv 4) (qa (qi UP (hmR e) qr (qa (pv 1) (qa (pv 2) (qa (pv 4) (qa (pv 5) qc))))) qc)))))))) (qe (qm jW)) qt)))
 (qd (qa2 (qi uB (hmR e) qr (qa (pv 3) (qa (qB (qC (K:=K) rfl hu) (pv 1) (pv 4) (λ_ _=>rfl)) qc))) (qa1 rfl (qW (qo (i:=6) KM.nd rfl (yF rfl)) (qW (qo (i:=7) KM.nd rfl (yF rfl)) zV))))
 (qd (jy yW rfl (qF (K:=K) rfl (qi uQ (hmR e) qr (qa (pv 1) (qa (pv 7) qc)))) (qo (i:=8) KM.nd rfl (yF rfl))
 (qe (qJ (qS (qN (qi K3 (hmR e) qr (qa (pv 3) (qa (pv 1) (qa (pv 2) (qa (pv 4) (qa (pv 8) qc)))))))) (qe (qm jW)) qt)))
 (qd (qq (i:=9) KM.nd rfl (yF rfl) (qz zh (qz qcc (qi um (hmR e) qr (qa (pv 0) (qa qh qc))) qh) (qj (zx (K:=K) rfl) rfl T.b_len YM (qa (pv 1) qc))))
 (qd (qJ (PW.pt (zU (qS (qN (qi K3 (hmR e) qr (qa (pv 3) (qa (pv 1) (qa (pv 2) (qa (pv 9) (qa (pv 7) qc)))))))) (zu (qS (qN (qi K3 (hmR e) qr (qa (pv 3) (qa (pv 1) (qa (pv 2) (qa (pv 4) (qa (pv 7) qc))))))))))) (qe (qm jW)) qt)
 (qe (qm (qi Ue (hmR e) qr (qa (pv 3) (qa (pv 1) (qa (pv 4) qc))))))))))))))),?_⟩
  apply qhN ?_;apply⟨a,nz,0,rfl,hS,by decide,λc0=>?_⟩;apply⟨c0,rfl,λcl t j l ss ts TI H1 s1 ht n0 C I l0 hI R O=>?_⟩
  have hC:∀ a b,adjI TI a b->cl b=!cl a:=λa b h=>by
   rcases h with h | h
   .show O _ h
   .have:=O _ h;simp only at this;rw[this];cases cl b<;>rfl
  show⟨t,_,rfl,.of ht,rfl,_,_,rfl,_,_,rfl,rfl,?_⟩;apply⟨wqqi,λz z0=>?_⟩;have s2:=qu s1 (o:=.lst []) z0;have N:=qu (Sr H1) (o:=.lst []) z0;have ez:upd H1 z (.lst []) z=some (.lst []):=qb;generalize upd H1 z (.lst [])=H2 at s2 N ez;show qf4 (N _ _ C) ez ?_;apply qI (λh=>?_) (λh=>?_)
  .ext;show q _
  .have ag:0<ss.length:=by
    cases ss with
    | nil=>show absurd rfl h
    | cons=>simp
   apply⟨j,l,ss,ts,TI,rfl,N _ _ C,hI.same N,I,R,λx ns H3 s3 W0=>?_⟩;have W:=W0.same newP_le;have D:=s2.trans s3;have G:GwJ cw H3 x j l ss ns ts TI cl:=⟨W,s3 _ _ (N _ _ C),(hI.same N).same s3,R,I.nm,hC⟩;have few:=W.wok.few;apply⟨a,nz,1,rfl,qem hS D,by decide,λc1=>?_⟩;apply qaJ G.n ?_;rw[ya];show vI (show(0:Int)<(ss.length:Int) by lk) ?_;obtain⟨k,ek,B⟩:∃ k:Nat,c1 % (ss.length:Int)=(k:Int)/\k<ss.length:=⟨(c1 % (ss.length:Int)).toNat,by have:=YX c1 (show(ss.length:Int)≠0 by lk);lk,by have:=xo c1 (show(0:Int)<(ss.length:Int) by lk);lk⟩;rw[ek];apply .inl ⟨a,_,rfl,qem hS D,λd d0=>?_⟩;obtain⟨u,ec,el⟩:∃ u:LQ,qfj (nz.map V.int) (some 2) (some 42)=u.map V.int/\u.length<=100:=⟨_,by unfold qfj;rw[List.map_take,Kc],by rw[yN,XS];lk⟩;rw[ec];have s4:=qu (Sr H3) (o:=.lst (u.map V.int)) d0;have ed:upd H3 d (.lst (u.map V.int)) d=some (.lst (u.map V.int)):=qb;generalize upd H3 d (.lst (u.map V.int))=H4 at s4 ed;have G4:=G.same s4;apply .inl ⟨⟨_,.of ed⟩,ju (xs:=u.map V.int) (λi σ J=>L2.Same H4 J/\∃ y5,σ=[some (.ref a),some (.ref j),some (.ref l),some (.ref x),some (iv k),y5,none,none,none,none]) ⟨L2.Same.refl H4,_,rfl⟩ (λi σ J _ g=>.of (g.1 _ _ ed)) (λi y σ J hy g=>?_) fun σ J g=>?_⟩
   .obtain⟨Y,y5,rfl⟩:=g;rw[yd] at hy;obtain⟨c,hc,rfl⟩:=ym.mp hy;have A:=G4.same Y;apply⟨j,l,ss,ts,TI,k,cl,c,rfl,A.n,A.i,R,few,B,hC,λr L J1 X r0 er ac ad=>?_⟩;have v:=A.same X;obtain⟨wx,wd,ol,wn,s,_⟩:=id v.w.web;show⟨x,j,l,ss,ns,ts,TI,cl,k,.ref r,rfl,v,B,qf9 I.nm ⟨_,_,_,s⟩ er ac ad,λJ2 s6=>?_⟩;apply yp ?_;show⟨(Y.trans X).trans s6,_,rfl⟩
   .obtain⟨Y,y5,rfl⟩:=g;have A:=G4.same Y;apply qhN ?_;apply qbQ A.n B ?_;apply⟨x,ss,ns,TI,k,cl,rfl,A.w,R,B,hC,λb m t L J1 X _ m0 em S U et=>?_⟩;show⟨t,_,rfl,.of et,rfl,_,_,rfl,_,_,rfl,rfl,?_⟩;have v:=A.same X;obtain⟨wx,wd,ol,wn,s,_⟩:=id v.w.web;apply⟨x,j,m,ss,L,rfl,⟨L2.Same.refl J1,⟨_,_,_,s⟩,v.n,em,I.nm,U,S,few⟩,λr xs J2 s6 er rl hX=>?_⟩;have G6:=v.same s6;show .inl ⟨⟨_,.of er⟩,ju (xs:=xs) (λi σ J=>L2.Same J2 J/\∃ y8,σ=[some (.ref a),some (.ref j),some (.ref l),some (.ref x),some (iv k),y5,some (.str (if b=true then "lost" else "won")),some (.ref m),y8,none]) ⟨L2.Same.refl J2,_,rfl⟩ (λi σ J _ g=>.of (g.1 _ _ er)) (λi y σ J' hy g=>?_) fun σ J' g=>?_⟩
    .obtain⟨p,y8,rfl⟩:=g;apply⟨x,j,l,ss,ns,ts,TI,cl,k,y,rfl,G6.same p,B,(hX y (ye hy)).same p,λJ3 M=>?_⟩;apply yp ?_;show⟨p.trans M,_,rfl⟩
    .obtain⟨p,y8,rfl⟩:=g;have M:=s6.trans p;have G7:=v.same M;have ae:=(D.trans s4).trans ((Y.trans X).trans M);apply⟨a,nz,1,rfl,qem hS ae,by decide,λc2=>?_⟩;apply vI ⟨by decide,by decide⟩ ?_;apply qaJ G7.n ?_;rw[ya];show vI (show(0:Int)<(ss.length:Int) by lk) ?_;obtain⟨k2,aa,ab⟩:∃ k2:Nat,(c2 / 14) % (ss.length:Int)=(k2:Int)/\k2<ss.length:=⟨((c2 / 14) % (ss.length:Int)).toNat,by have:=YX (c2 / 14) (show(ss.length:Int)≠0 by lk);lk,by have:=xo (c2 / 14) (show(0:Int)<(ss.length:Int) by lk);lk⟩;rw[aa];have Z:=qf9 I.nm ⟨_,_,_,s⟩ em S U;apply⟨x,j,l,ss,ns,ts,TI,cl,k2,.ref m,rfl,G7,ab,Z.same M,λJ3 s8=>?_⟩;apply yp ?_;apply⟨x,j,l,ss,ns,ts,TI,cl,k,.ref m,rfl,G7.same s8,B,(Z.same M).same s8,λJ4 s9=>?_⟩;apply yp ?_;have G9:=G7.same (s8.trans s9);apply⟨x,j,ss,ns,TI,cl,k,rfl,G9.w,G9.n,R,I.nm,hC,B,λJ5 _=>q J5⟩
end
theorem qdY{t:Value}{c:Addr}{b:Bool}(ne:(t==.ref c)=false)(h1:W.isClsIn K c=true)(d:W.typeIn K (.ref c)=some (.type "type"))(e:W.subIn K t (.ref c)=some b):W.kitOne K t (.ref c)=some b:=by
 unfold W.kitOne;rw[yB (by rw[ne];decide)];unfold W.kitCls;dsimp only;have a:(W.clsIn K c).isSome=true:=h1;rw[yH (by rw[a,d];rfl)];show e
theorem all_mk{l:W.OpenLaw}{h:Heap}{fa f m g I r o p q B u c:Addr}{M N O P R S U:Tok}(X:K.In h)(G:h.Ns mainGlobals mg)(bo:mg "law"=some (.ref fa))
  (C0_:W.nsIn K mainGlobals "NoPlayer"=some (some (.ref o)))
  (C1_:W.nsIn K mainGlobals "NoNumbers"=some (some (.ref p)))
  (C2_:W.nsIn K mainGlobals "NoPlace"=some (some (.ref q)))
  (C3_:W.nsIn K mainGlobals "NoMove"=some (some (.ref B)))
  (C4_:W.nsIn K mainGlobals "TooMany"=some (some (.ref u)))
  (C5_:W.nsIn K mainGlobals "OnceError"=some (some (.ref c)))
  (Cw_:W.nsIn K mainGlobals "Web"=some (some (.ref f)))
  (Cp_:W.nsIn K mainGlobals "Road"=some (some (.ref m)))
  (Ce_:W.nsIn K mainGlobals "Evener"=some (some (.ref g)))
  (Cn_:W.nsIn K mainGlobals "Numbered"=some (some (.ref I)))
  (Cl_:W.nsIn K mainGlobals "Player"=some (some (.ref r)))
  (vf:FG K "are_unlike_places" jo)
  (V0:FG K "sides_of" zE)
  (vG:FG K "on_first_side" za)
  (wG:FG K "ways_in" qbt)
  (Vb:FG K "spread_from" zB)
  (V1:FG K "is_whole" qai)
  (VN:FG K "is_within" zI)
  (wH:FG K "is_name" zG)
  (wI:FG K "has_bit" qbo)
  (V2:FG K "is_place" qaf)
  (vp:FG K "are_two_places" jT)
  (VF:FG K "numbers_of" zQ)
  (wJ:FG K "near_of" qbq)
  (vS:FG K "piece_around" zn)
  (We:FG K "sum_of" qb8)
  (eh:FG K "picks" qct)
  (vq:FG K "must_be_summed" jr)
  (VO:FG K "is_summed" qav)
  (V3:FG K "steps_of" qaV)
  (V4:FG K "lessened" qaW)
  (VP:FG K "near_side" jX)
  (V5:FG K "far_side" qak)
  (VG:FG K "piece_with" zr)
  (V6:FG K "told_set" qam)
  (V7:FG K "even_set" jH)
  (vh:FG K "bits_beside_each" jc)
  (V8:FG K "names_at" qal)
  (Wf:FG K "bit_of" qb7)
  (wK:FG K "is_even" qby)
  (Wg:FG K "is_odd" qb9)
  (VH:FG K "sum_beside" zt)
  (wL:FG K "is_hand" qbA)
  (Vc:FG K "are_numbers" zf)
  (vv:FG K "must_be_player" jU)
  (ep:FG K "lead" qf8)
  (vw:FG K "answers_within" jV)
  (wM:FG K "ways_on" qcz)
  (VQ:FG K "are_names" zL)
  (V9:FG K "road_led" qa0)
  (vT:FG K "road_answers" zo)
  (VR:FG K "_law_cell_at" qaw)
  (ei:FG K "_law_box" qdb)
  (Wh:FG K "_law_take" qb6)
  (wN:FG K "_law_names" jj)
  (wO:FG K "_law_drawn" qaM)
  (ej:FG K "_law_web" qbJ)
  (wb:FG K "_law_beside" qaj)
  (wP:FG K "_law_sides" qbu)
  (Wi:FG K "_law_near" qbv)
  (ek:FG K "_law_far" qcw)
  (wQ:FG K "_law_often" qaP)
  (VS:FG K "_law_is_even" jD)
  (wc:FG K "_law_is_odd" j0)
  (we:FG K "_law_judged" qaY)
  (wf:FG K "_law_chosen" qaZ)
  (vk:FG K "_law_put_otherwise" qT)
  (VT:FG K "_law_refused" jE)
  (vH:FG K "_law_all_refused" qQ)
  (dj:FG K "law" qel)
  (dw:FM K o "__init__" "NoPlayer.__init__" j9)
  (dy:FM K p "__init__" "NoNumbers.__init__" jS)
  (dz:FM K q "__init__" "NoPlace.__init__" zm)
  (ea:FC K c "__init__" "OnceError.__init__" jR)
  (eb:FM K f "__init__" "Web.__init__" qaT)
  (wg:FM K f "places" "Web.places" zR)
  (Wj:FM K f "ties" "Web.ties" qaU)
  (Vd:FM K f "has_place" "Web.has_place" jB)
  (Ve:FM K f "number_of" "Web.number_of" jC)
  (wj:FM K f "beside" "Web.beside" zS)
  (vJ:FM K f "bits_beside" "Web.bits_beside" jG)
  (wm:FM K f "pieces" "Web.pieces" zT)
  (VI:FM K f "names_in" "Web.names_in" jO)
  (Vf:FM K u "__init__" "TooMany.__init__" zZ)
  (Vg:FM K m "__init__" "Walk.__init__" qax)
  (vV:FM K m "ties_gone" "Road.ties_gone" js)
  (vW:FM K m "ties_left" "Road.ties_left" jt)
  (vx:FM K m "tie_between" "Road.tie_between" jw)
  (wR:FM K m "twin" "Road.twin" qbd)
  (Vh:FM K g "__init__" "Evener.__init__" zC)
  (Vi:FM K I "__init__" "Numbered.__init__" ze)
  (X0:XL K o (.ref c::qcp))
  (q0:XQ K o)
  (X1:XL K p (.ref c::qcp))
  (q1:XQ K p)
  (X2:XL K q (.ref c::qcp))
  (q2:XQ K q)
  (X3:XL K B (.ref c::qcp))
  (q3:XQ K B)
  (X4:XL K u (.ref c::qcp))
  (q4:XQ K u)
  (X5:XL K c qcp)
  (q5:XQ K c)
  (y0:W.findIn K (.ref o) "found"=some none)
  (y1:W.findIn K (.ref p) "found"=some none)
  (y2:W.findIn K (.ref q) "found"=some none)
  (y3:W.findIn K (.ref B) "found"=some none)
  (y4:W.findIn K (.ref u) "many"=some none)
  (bw:W.mroIn K o (.ref c)=some true)
  (bz:W.mroIn K p (.ref c)=some true)
  (ca:W.mroIn K q (.ref c)=some true)
  (cb:W.mroIn K B (.ref c)=some true)
  (ce:W.mroIn K u (.ref c)=some true)
  (nd:([o,p,q,B,u]++[c]).Nodup)
  (r1:W.readsIn K c (.type "type")=true)
  (r3:W.specialIn K (.ref c) "__getattribute__"=some (some (.builtin "type.__getattribute__")))
  (v1:W.findIn K (.type "type") "__getattribute__"=some (some (.builtin "type.__getattribute__")))
  (v3:W.subIn K (.type "type") (.type "type")=some true)
  (v4:W.findCls K (.type "ValueError") (.type "type") "__init__"=some (.val (.builtin "ValueError.__init__")))
  (w1:W.plainGet K f Str.empty=true)
  (w2:W.hasDictIn K f=true)
  (w3:W.plainOver K f=true)
  (w4:W.findIn K (.ref f) "__setattr__"=some (some (.builtin "object.__setattr__")))
  (w5:W.makesIn K f=true)
  (w6:W.keepIn K (.ref f)=true)
  (w7:W.findIn K (.ref f) "numbers"=some none)
  (w8:W.findIn K (.ref f) "order"=some none)
  (w9:W.findIn K (.ref f) "near"=some none)
  (y:W.specialIn K (.builtin "object.__class__") "__get__"=some (some (.builtin "getset_descriptor.__get__")))
  (A:W.takesIn K (.builtin "object.__class__")=some true)
  (cm:W.plainGet K m Str.empty=true)
  (cn:W.hasDictIn K m=true)
  (co:W.plainOver K m=true)
  (cp:W.findIn K (.ref m) "__setattr__"=some (some (.builtin "object.__setattr__")))
  (cq:W.makesIn K m=true)
  (cr:W.keepIn K (.ref m)=true)
  (cs:W.findIn K (.ref m) "board"=some none)
  (cu:W.findIn K (.ref m) "path"=some none)
  (bb:W.plainGet K g Str.empty=true)
  (bc:W.hasDictIn K g=true)
  (bd:W.plainOver K g=true)
  (be:W.findIn K (.ref g) "__setattr__"=some (some (.builtin "object.__setattr__")))
  (bf:W.makesIn K g=true)
  (bg:W.keepIn K (.ref g)=true)
  (bh:W.findIn K (.ref g) "names"=some none)
  (bj:W.findIn K (.ref g) "__class__"=some (some (.builtin "object.__class__")))
  (bm:W.mroIn K g (.type "object")=some true)
  (bn:W.mroIn K g (.ref r)=some true)
  (cj:W.makesIn K I=true)
  (ck:W.keepIn K (.ref I)=true)
  (F:W.typeIn K (.ref r)=some (.type "type"))
  (D:W.isClsIn K r=true)
  (ci:g≠r)
  (cv:W.subIn K (.type "NoneType") (.ref r)=some false)
  (cx:W.subIn K (.type "int") (.ref r)=some false)
  (cy:W.subIn K (.type "str") (.ref r)=some false)
  (cz:W.subIn K (.type "list") (.ref r)=some false)
  (eu:W.nsIn K mainGlobals "zip"=some none)
  (ay:W.nsIn K mainGlobals "sorted"=some none)
  (ax:W.nsIn K mainGlobals "set"=some none)
  (av:W.nsIn K mainGlobals "dict"=some none)
  (aw:W.nsIn K mainGlobals "repr"=some none)
  (da:(K.lookup sysModules).isSome=true)
  (db:W.nsIn K mainGlobals "MOST_SUMMED"=some (some (.int 40 P)))
  (dc:W.nsIn K mainGlobals "HIGHEST_SUMMED"=some (some (.int 1073741823 R)))
  (dd:W.nsIn K mainGlobals "MOST_NUMBERS"=some (some (.int 60 S)))
  (de:W.nsIn K mainGlobals "MOST_TIES_LEFT"=some (some (.int 10 U)))
  (cf:W.mroIn K o (.ref o)=some true)
  (cg:W.mroIn K p (.ref p)=some true)
  (ch:W.mroIn K q (.ref q)=some true)
  (bt:W.mroIn K p (.ref o)=some false)
  (bu:W.mroIn K q (.ref o)=some false)
  (bv:W.mroIn K q (.ref p)=some false)
  (z0:W.nsIn K mainGlobals "len"=some none)
  (z1:W.nsIn K mainGlobals "int"=some none)
  (z2:W.nsIn K mainGlobals "enumerate"=some none)
  (z3:W.nsIn K mainGlobals "all"=some none)
  (z4:W.nsIn K mainGlobals "max"=some none)
  (z5:W.nsIn K mainGlobals "min"=some none)
  (z6:W.nsIn K mainGlobals "isinstance"=some none)
  (z7:W.nsIn K mainGlobals "bool"=some none)
  (z8:W.nsIn K mainGlobals "str"=some none)
  (z9:W.nsIn K mainGlobals "range"=some none)
  (er:W.nsIn K mainGlobals "list"=some none)
  (es:W.nsIn K mainGlobals "tuple"=some none)
  (et:W.nsIn K mainGlobals "ValueError"=some none)
  (u0:W.nsIn K mainGlobals "LONGEST_NAME"=some (some (.int 6 M)))
  (u1:W.nsIn K mainGlobals "MOST_PLACES"=some (some (.int 14 N)))
  (u2:W.nsIn K mainGlobals "MOST_TIES"=some (some (.int 30 O))) :
  ∃ fd:FuncData,(∀(s:Shared) (v:Value),BindsTo s fd ⟨[v],[]⟩ [("_law_script",v)])/\∀ base:Heap,K.In base->base.Ns mainGlobals mg->FnOk l.prog w K mg base CX0 18 fa fd wqqb (spLaw K):=by
 obtain⟨_,_,vg,Wo⟩:=vf;obtain⟨_,_,vK,wp⟩:=V0;obtain⟨_,_,vL,Wq⟩:=vG;obtain⟨_,_,wS,Wr⟩:=wG;obtain⟨_,_,Vj,Ws⟩:=Vb;obtain⟨_,_,vM,Vt⟩:=V1;obtain⟨_,_,vn,Vu⟩:=VN;obtain⟨_,_,v9,Vv⟩:=wH;obtain⟨_,_,wT,Wu⟩:=wI;obtain⟨_,_,vN,Vw⟩:=V2;obtain⟨_,_,vy,Wv⟩:=vp;obtain⟨_,_,VJ,Ww⟩:=VF;obtain⟨_,_,wU,Wx⟩:=wJ;obtain⟨_,_,vX,Wy⟩:=vS;obtain⟨_,_,Wk,WA⟩:=We;obtain⟨_,_,vY,Vx⟩:=eh;obtain⟨_,_,vz,WB⟩:=vq;obtain⟨_,_,VU,WC⟩:=VO;obtain⟨_,_,wq,WD⟩:=V3;obtain⟨_,_,wu,WE⟩:=V4;obtain⟨_,_,vo,Vy⟩:=VP;obtain⟨_,_,vO,wv⟩:=V5;obtain⟨_,_,vi,ww⟩:=VG;obtain⟨_,_,vP,Vz⟩:=V6;obtain⟨_,_,vQ,VA⟩:=V7;obtain⟨_,_,U6,VB⟩:=vh;obtain⟨_,_,va,VC⟩:=V8;obtain⟨_,_,VL,wz⟩:=Wf;obtain⟨_,_,wV,WF⟩:=wK;obtain⟨_,_,Wl,WG⟩:=Wg;obtain⟨_,_,VM,WH⟩:=VH;obtain⟨_,_,wW,WI⟩:=wL;obtain⟨_,_,Vk,WK⟩:=Vc;obtain⟨_,_,vA,WL⟩:=vv;obtain⟨_,_,eq,WM⟩:=ep;obtain⟨_,_,vD,WN⟩:=vw;obtain⟨_,_,wX,WO⟩:=wM;obtain⟨_,_,VW,WP⟩:=VQ;obtain⟨_,_,wA,WQ⟩:=V9;obtain⟨_,_,vZ,WR⟩:=vT;obtain⟨_,_,VX,WS⟩:=VR;obtain⟨_,_,el,WT⟩:=ei;obtain⟨_,_,Wm,WU⟩:=Wh;obtain⟨_,_,wY,WV⟩:=wN;obtain⟨_,_,wZ,WW⟩:=wO;obtain⟨_,_,em,WX⟩:=ej;obtain⟨_,_,wB,WY⟩:=wb;obtain⟨_,_,Wa,WZ⟩:=wP;obtain⟨_,_,Wn,W3⟩:=Wi;obtain⟨_,_,eo,W5⟩:=ek;obtain⟨_,_,Wb,W6⟩:=wQ;obtain⟨_,_,VY,W7⟩:=VS;obtain⟨_,_,wC,W8⟩:=wc;obtain⟨_,_,wD,W9⟩:=we;obtain⟨_,_,wE,ac⟩:=wf;obtain⟨_,_,vm,ad⟩:=vk;obtain⟨_,_,VZ,ae⟩:=VT;obtain⟨_,_,vR,af⟩:=vH;obtain⟨_,_,dk,ag⟩:=dj;obtain⟨_,_,ec,ed,au⟩:=dw;obtain⟨_,_,ee,ef,Y⟩:=dy;obtain⟨_,_,eg,df,Z⟩:=dz;obtain⟨_,_,dg,aa⟩:=ea;obtain⟨_,_,dh,di,ab⟩:=eb;obtain⟨_,_,dl,dm,ah⟩:=wg;obtain⟨_,_,dn,dp,ai⟩:=Wj;obtain⟨_,_,aj,ak,VD⟩:=Vd;obtain⟨_,_,al,am,VE⟩:=Ve;obtain⟨_,_,dq,dr,ao⟩:=wj;obtain⟨_,_,ap,aq,wF⟩:=vJ;obtain⟨_,_,ds,dt,ar⟩:=wm;obtain⟨_,_,du,dv,as⟩:=VI;obtain⟨_,_,Vl,Vm,vb⟩:=Vf;obtain⟨_,_,Vn,Vo,vc⟩:=Vg;obtain⟨_,_,v0,v6,U8⟩:=vV;obtain⟨_,_,v7,v8,U9⟩:=vW;obtain⟨_,_,vE,vF,U7⟩:=vx;obtain⟨_,_,Wc,Wd,Va⟩:=wR;obtain⟨_,_,Vp,Vq,vd⟩:=Vh;obtain⟨_,_,Vr,Vs,ve⟩:=Vi;have e:=bo.symm.trans (xK X G dk);cases e;have Y0:XAt K o:=qe6 X0 qcq q0 y A;have Y1:XAt K p:=qe6 X1 qcq q1 y A;have Y2:XAt K q:=qe6 X2 qcq q2 y A;have Y3:XAt K B:=qe6 X3 qcq q3 y A;have Y4:XAt K u:=qe6 X4 qcq q4 y A;have Y5:XAt K c:=qe6 X5 qfw q5 y A;obtain⟨bq,ev,br,ew⟩:=kits nd (λi C=>match i,C with | 0,_=>X0 | 1,_=>X1 | 2,_=>X2 | 3,_=>X3 | 4,_=>X4 | n+5,h=>absurd h (by simp only[Yb,YT];lk)) X5;have d:Cls K f:=⟨w1,w2,w3,w4⟩;have E:Cls K m:=⟨cm,cn,co,cp⟩;have L:Cls K g:=⟨bb,bc,bd,be⟩;have ba:W.kitOne K (.ref g) (.ref r)=some true:=qdY (Yr.mpr λz=>ci (Xy z)) D F bn
 have bp:∀ t∈wqR,W.kitOne K (.type t) (.ref r)=some false:=λt ht=>by
  simp only[yy,yR,YJ] at ht;rcases ht with rfl | rfl | rfl | rfl
  .show qdY rfl D F cv
  .show qdY rfl D F cx
  .show qdY rfl D F cy
  .show qdY rfl D F cz
 have J:∀ i,i<6->([o,p,q,B,u,c,c,c,m,g,I]:LI).getD i r=([o,p,q,B,u]:LI).getD i c:=λi C=>match i,C with | 0,_=>rfl | 1,_=>rfl | 2,_=>rfl | 3,_=>rfl | 4,_=>rfl | 5,_=>rfl | n+6,h=>absurd h (by lk);have T:Txt K mg (λi=>([o,p,q,B,u,c,c,c,m,g,I]:LI).getD i r) f:=⟨YB X G z0,
  YB X G z1,
  YB X G z2,
  YB X G z3,
  YB X G z4,
  YB X G z5,
  YB X G z6,
  YB X G z7,
  YB X G z8,
  YB X G z9,
  YB X G er,
  YB X G es,
  YB X G et,
  ⟨M,xK X G u0⟩,
  ⟨N,xK X G u1⟩,
  ⟨O,xK X G u2⟩,
  xK X G C0_,
  xK X G C1_,
  xK X G C2_,
  xK X G C3_,
  xK X G C4_,
  xK X G C5_,
  ⟨v1,v3,v4⟩,
  λi C=>match i,C with | 0,_=>Y0 | 1,_=>Y1 | 2,_=>Y2 | 3,_=>Y3 | 4,_=>Y4 | 5,_=>Y5 | n+6,h=>absurd h (by lk),
  λi C=>match i,C with | 0,_=>y0 | 1,_=>y1 | 2,_=>y2 | 3,_=>y3 | 4,_=>y4 | n+5,h=>absurd h (by lk),
  (λi j C hj=>by rw[J i (by lk),J j (by lk)];show bq i j C hj),
  (λi C=>by rw[J i (by lk)];show br i C),
  λi C=>match i,C with | 0,_=>bw | 1,_=>bz | 2,_=>ca | 3,_=>cb | 4,_=>ce | n+5,h=>absurd h (by lk),
  d,
  w7,
  w8,
  w9,
  ⟨P,xK X G db⟩,
  ⟨R,xK X G dc⟩,
  xK X G Cw_,
  xK X G Cp_,
  E,
  cs,
  cu,
  YB X G eu,
  YB X G ay,
  YB X G ax,
  YB X G av,
  YB X G aw,
  Xx.mp da,
  xK X G Ce_,
  L,
  bh,
  xK X G Cn_,
  ⟨S,xK X G dd⟩,
  ⟨U,xK X G de⟩,
  λH a dx fs e=>.ins e L bj y A bm,
  ba,
  bp,
  xK X G Cl_⟩
 obtain⟨oc,od,kV,az,pm,an,cd,ct,sl,rfl,lk,hc⟩:=ag.ex;show⟨W.fnOf "law" "law" (qa7 qel) (zk qel) (qf qel) .none kV az pm an cd ct,λs v=>.of_eq rfl,λbase _ _=>?_⟩;have d_once:CMethOk l.prog w K mg base CX0 1 c "OnceError" "__init__" wqK (spOnce K):=fc_mk X G C5_ r1 dg r3 aa (ok_once aa T);have d0:XMakeOk l.prog w K mg base 2 o "NoPlayer" wqh (spX o (qed 0)):=qgm X G C0_ Y0 q0 ec ed au (ok_NoPlayer au T d_once);have d1:XMakeOk l.prog w K mg base 2 p "NoNumbers" wqh (spX p (qed 1)):=qgm X G C1_ Y1 q1 ee ef Y (ok_NoNumbers Y T d_once);have d2:XMakeOk l.prog w K mg base 2 q "NoPlace" wqh (spX q (qed 2)):=qgm X G C2_ Y2 q2 eg df Z (ok_NoPlace Z T d_once);have b:=@fg_mk l.prog w K mg base h;have x:=@fm_mk l.prog w K mg base;have fw:=@fw_mk l.prog w K mg base h;have d_name:=b X G v9 Vv (ok_name Vv T);have d_place:=b X G vN Vw (ok_place Vw d_name);have d_two:=b X G vy Wv (ok_two Wv T d_place);have d_bit:=b X G wT Wu (ok_bit Wu);have d_nums:=b X G VJ Ww (ok_nums Ww T d_name);have d_near:=b X G wU Wx (ok_near Wx T d_two d_bit);have q_web:MakeOk l.prog w K mg base CX0 5 f "Web" wqI (spWeb f):=fw X G Cw_ w5 w6 dh di ab (ok_web ab T d_nums d_near);have m_has:=x d aj ak VD (ok_has VD T d_place);have m_num:=x d al am VE (ok_num VE T m_has);have m_bb:=x d ap aq wF (ok_bb wF T m_num);have m_nin:=x d du dv as (ok_nin as T d_bit);have m_bs:=x d dq dr ao (ok_bs ao T m_bb m_nin);have m_pls:=x d dl dm ah (ok_pls ah T);have m_ts:=x d dn dp ai (ok_ts ai T m_bs);have m_pcs:=x d ds dt ar (ok_pcs ar T d_bit (b X G vX Wy (ok_pc Wy T d_bit)) m_nin);have d_wi:=b X G wS Wr (ok_wi Wr T m_pls (b X G Vj Ws (ok_sf Ws T m_bs)));have d_sd:=b X G vK wp (ok_sd wp T d_wi (b X G vL Wq (ok_ofs Wq T)) m_ts m_pls);have d_sm:=b X G VU WC (ok_sm WC T (b X G vn Vu (ok_in Vu (b X G vM Vt (ok_wh Vt T)))));have d_mb:=b X G vz WB (ok_mb WB T d_sm);have d_les:=b X G wu WE (ok_les WE);have d_sts:=b X G wq WD (ok_sts WD T d_les);have d_pk:=b X G vY Vx (ok_pk Vx T d_mb d_sm d_les d_sts d_bit);have d_pw:=b X G vi ww (ok_pw2 ww T m_pcs);have d_ns:=b X G vo Vy (ok_nS Vy T m_num d_sd d_pw);have d_fs:=b X G vO wv (ok_fS wv T d_ns d_pw);have d_be:=b X G U6 VB (ok_be VB T m_bb);have d_na:=b X G va VC (ok_na VC T);have d_es:=b X G vQ VA (ok_es VA T d_ns d_pk d_be d_na m_bb);have d_bi:=b X G VL wz (ok_bi wz T m_num);have o_td:=ok_td Vz T d_es d_fs d_na d_pk d_be d_bi;have d_td:=b X G vP Vz o_td;have b_name:=b X G v9 Vv (ok_nameG Vv T);have b_place:=b X G vN Vw (ok_placeG Vw b_name);have b_has:=x d aj ak VD (ok_hasT VD T b_place);have d_ul:=b X G vg Wo (ok_ulG Wo T b_has);have d_sb:=b X G VM WH (ok_sb WH T d_ul (b X G Wk WA (ok_su WA)) d_be);have d_ie:=b X G wV WF (ok_ie WF T d_ns d_sb);have d_io:=b X G Wl WG (ok_io WG T d_fs d_sb d_bi);have b_num:=x d al am VE (ok_numB VE T b_has d2);have b_ns:=b X G vo Vy (ok_near_sideB Vy T b_num (b X G vK wp qbe) (b X G vi ww qbe));have b_es:=b X G vQ VA (ok_even_setB VA T b_ns (b X G vY Vx qbe) (b X G U6 VB qbe) (b X G va VC qbe) (x d ap aq wF qbe));have g_td:=b X G vP Vz (FnOk.or (o_td.any.mono (k:=13) (by decide)) ((ok_told_setB Vz T b_es (b X G vO wv qbe) (b X G va VC qbe) (b X G vY Vx qbe) (b X G U6 VB qbe) (b X G VL wz qbe)).mono (k:=13) (by decide)));have q_road:MakeOk l.prog w K mg base CX0 5 m "Road" wqG (spWkI (λi=>([o,p,q,B,u,c,c,c,m,g,I]:LI).getD i r) f):=fw X G Cp_ cq cr Vn Vo vc (ok_wkI vc T m_has);have r_tb:=x E vE vF U7 (ok_tb U7 T m_num);have r_tg:=x E v0 v6 U8 (ok_tg U8 T r_tb);have r_tl:=x E v7 v8 U9 (ok_tlf U9 T r_tg m_ts);have r_tw:=x E Wc Wd Va (no_tw Va);have w_wh:=b X G vM Vt (ok_whG Vt T);have w_hd:=b X G wW WI (ok_hdG WI (b X G vn Vu (ok_inG Vu w_wh)));have d_tm:XMakeOk l.prog w K mg base 2 u "TooMany" ["self","many"] qcE:=qgm X G C4_ Y4 q4 Vl Vm vb (no_tm vb);have d_mp:=b X G vA WL (ok_plB WL T d0);have d_aw:=b X G vD WN (ok_awB WN T d_mp w_hd d1 d_tm (b X G wX WO (no_wo WO)) r_tw) (hb:=λ_ _ _ _ _ _=>lN5 λ_ _ _ _ _=>rfl);have d_ra:=b X G vZ WR (ok_raB WR T d_aw r_tl);have q_ev:MakeOk l.prog w K mg base (CX1 l.prog w) 4 g "Evener" wqP (spEvI (λi=>([o,p,q,B,u,c,c,c,m,g,I]:LI).getD i r)):=fw X G Ce_ bf bg Vp Vq vd (ok_evI vd T (b X G VW WP (ok_nmsG WP T b_name)) d0);have q_nu:MakeOk l.prog w K mg base (CX1 l.prog w) 4 I "Numbered" wqW (spNuI (λi=>([o,p,q,B,u,c,c,c,m,g,I]:LI).getD i r)):=fw X G Cn_ cj ck Vr Vs ve (ok_nuI ve T (b X G Vk WK (ok_numsG WK T w_wh)) d1);have d_rl:=b X G wA WQ (ok_rlB WQ T g_td q_road q_ev q_nu (b X G eq WM (no_le WM)));have d_bes:=b X G wB WY (ok_beI WY);have d_si:=b X G Wa WZ (ok_siI WZ T d_bes);have d_nr:=b X G Wn W3 (ok_nrI W3 T d_si);have d_fa:=b X G eo W5 (ok_frI W5 T d_si);have d_of:=b X G Wb W6 (ok_of W6 T d_bes);have d_wb:=b X G em WX (ok_wb WX T q_web);have d_tk:=b X G Wm WU (ok_tk WU);have d_dr:=b X G wZ WW (ok_dr WW T (b X G el WT (ok_bx WT T)) d_tk (b X G wY WV (ok_nm7 WV T d_tk)));have d_ju:=b X G wD W9 (ok_ju W9 T d_ie d_io (b X G VY W7 (ok_lev W7 T d_nr d_fa d_of)) (b X G wC W8 (ok_lod W8 T d_nr d_fa d_of))) (hb:=λ_ _ _ _ _ _=>lN5 λ_ _ _ _ _=>rfl);have d_rf:=b X G VZ ae (ok_rfJ ae T cf cg ch bt bu bv q_road q_ev d_ra d_rl);show ok_law72 ag T (b X G VX WS (ok_ca7 WS T)) d_dr d_wb d_ju (b X G wE ac (ok_cs ac T d_nr d_fa)) d_td (b X G vm ad (ok_po ad T)) (b X G vR af (ok_ar af T d_rf))
theorem walk{l:PySem.W.OpenLaw}{q:Program}{loose:LS}{XP:(Str->Option Value)->Heap->Prop}{YP:World->Heap->Prop}{d:DefRec}{K:Params->yf}(hn:l.most=some 63)(b:d.params.defaults=[])
  (g:∀(w:World) (h:Heap),YP w h->(K w.params).In h)
  (F:∀(w:World) (mg:Str->Option Value) (c:Addr) (h:Heap),(K w.params).In h->h.Ns mainGlobals mg->mg d.name=some (.ref c) ->
   ∃ fd:FuncData,(∀(s:Shared) (u:Value),BindsTo s fd ⟨[u],[]⟩ [("_law_script",u)])/\∀ base:Heap,(K w.params).In base->base.Ns mainGlobals mg->FnOk l.prog w (K w.params) mg base CX0 18 c fd wqqb (spLaw (K w.params))) :
  PySem.W.WalkO q loose XP YP l.row.toRowW d [] (λf vs=>PySem.call f vs):=
 L2.walk_of (n:=63) (k:=18) (x:="_law_script") (CX:=λ_=>CX0) (sp:=λw=>spLaw (K w.params)) hn (by decide) b ⟨rfl,by decide,by decide,rfl⟩ g F (λ_ _ a ns hl _ e=>⟨a,ns,rfl,e,hl,λ_=>rfl⟩) λ_ _ _ _ _ z=>z
end K72
set_option maxRecDepth 100000 in
set_option maxHeartbeats 0 in
theorem PySem.Challenge.cw_onceroad_k72_sets_forged_holds : PySem.Challenge.rw_onceroad_k72_sets_forged.Holds := by
  w_on; o_law
  show PySem.W.holds_open (q := K72.Q) (loose := []) (Xt := K72.Xt) (XP := PySem.W.XL K72.Q []) (Yf := PySem.W.Hook.obs K72.Hk) (Ya := PySem.W.Hook.val K72.Hk) (YP := PySem.W.Hook.says (PySem.W.kHook K72.Kf K72.ks K72.ks_eq)) (N := K72.NN) K72.hl (PySem.W.Hook.of K72.Hk) (PySem.W.Hook.keeps K72.Hk) (λs e => PySem.W.xl_of s (Bool.and_eq_true_iff.mp e).1) PySem.W.XL.keeps (by rfl) (by rfl) (by rfl) (λs e => PySem.W.recFacts_of (Bool.and_eq_true_iff.mp e).2) (by rfl) (by first | assumption | room) (by room) ⟨rfl, rfl, rfl, rfl, rfl, by room⟩ ?hw ?hc
  (case hw => w_witness2)
  k_fill
  show K72.walk (l := PySem.Challenge.rw_onceroad_k72_sets_forged) rfl rfl (λw h Y => PySem.W.kIn_of Y) ?F
  case F =>
    intro w mg fa h KX G hmg
    refine' K72.all_mk KX G hmg ?_ ?_ ?_ ?_ ?_ ?_ ?_ ?_ ?_ ?_ ?_ ?_ ?_ ?_ ?_ ?_ ?_ ?_ ?_ ?_ ?_ ?_ ?_ ?_ ?_ ?_ ?_ ?_ ?_ ?_ ?_ ?_ ?_ ?_ ?_ ?_ ?_ ?_ ?_ ?_ ?_ ?_ ?_ ?_ ?_ ?_ ?_ ?_ ?_ ?_ ?_ ?_ ?_ ?_ ?_ ?_ ?_ ?_ ?_ ?_ ?_ ?_ ?_ ?_ ?_ ?_ ?_ ?_ ?_ ?_ ?_ ?_ ?_ ?_ ?_ ?_ ?_ ?_ ?_ ?_ ?_ ?_ ?_ ?_ ?_ ?_ ?_ ?_ ?_ ?_ ?_ ?_ ?_ ?_ ?_ ?_ ?_ ?_ ?_ ?_ ?_ ?_ ?_ ?_ ?_ ?_ ?_ ?_ ?_ ?_ ?_ ?_ ?_ ?_ ?_ ?_ ?_ ?_ ?_ ?_ ?_ ?_ ?_ ?_ ?_ ?_ ?_ ?_ ?_ ?_ ?_ ?_ ?_ ?_ ?_ ?_ ?_ ?_ ?_ ?_ ?_ ?_ ?_ ?_ ?_ ?_ ?_ ?_ ?_ ?_ ?_ ?_ ?_ ?_ ?_ ?_ ?_ ?_ ?_ ?_ ?_ ?_ ?_ ?_ ?_ ?_ ?_ ?_ ?_ ?_ ?_ ?_ ?_ ?_ ?_ ?_ ?_ ?_ ?_ ?_ ?_ ?_ ?_ ?_ ?_ ?_ ?_ ?_ ?_
    any_goals first | k_is | decide
    any_goals first | k_is | decide | show⟨_, _, by k_is, L2.fun_mk (by k_is) (by k_is) (by k_is)⟩ | show⟨_, _, by k_is, by k_is, L2.fun_mk (by k_is) (by k_is) (by k_is)⟩ | show⟨_, _, _, _, _, _, _, _, _, _, _, _, _, _, _, by k_is⟩ | show⟨by k_is, by k_is, by k_is, by k_is, by k_is, by k_is, by k_is, by k_is⟩ | kernel_rfl | fail
