import PyProof.Rows.All
import Wide.All
import OpenK.AllK
import Wide.FinOn
import PyProof.EqAt
import PyProof.EqKinds
import PyProof.TupleCall
import Lean
import PySem.Challenge.RW_onceroad_k36_whole_greatest_of_small_web
set_option Elab.async false
set_option linter.all false
set_option maxRecDepth 100000
theorem ya {α β:Type} {as:List α} (f:α→β):(as.map f).length=as.length:=List.length_map f
theorem yb {α:Type} {l:List α} {i:Nat} (h:i<l.length):l[i]?=some l[i]:=List.getElem?_eq_getElem h
theorem yc {α:Type} {l:List α} {i:Nat} {a:α}:l[i]?=some a↔∃h:i<l.length,l[i]=a:=List.getElem?_eq_some_iff
theorem yd {α β:Type} {f:α→β} {l:List α} {i:Nat}:(l.map f)[i]?=l[i]?.map f:=List.getElem?_map
theorem ye {α:Type} {l:List α} {i:Nat} {a:α} (h:l[i]?=some a):a∈l:=List.mem_of_getElem? h
theorem yf {α:Type} {a:α} {l:List α} (h:a∈l):∃i:Nat,l[i]?=some a:=List.getElem?_of_mem h
abbrev yg:=PySem.W.Frag
theorem yh (n:Nat):n≤n:=Nat.le_refl n
theorem yi {a b c:Nat} (h:a≤b) (k:b≤c):a≤c:=Nat.le_trans h k
theorem yj {a b c:Nat} (h:a<b) (k:b≤c):a<c:=Nat.lt_of_lt_of_le h k
theorem yk {p:Prop} [Decidable p] (h:decide p=true):p:=of_decide_eq_true h
theorem yl {p:Prop} [Decidable p] (h:¬p):decide p=false:=decide_eq_false h
theorem ym {α:Type} {a b:α} (h:some a=some b):a=b:=Option.some.inj h
theorem yn {α β:Type} {f:α→β} {x:Option α} {b:β}:x.map f=some b↔∃a,x=some a∧f a=b:=Option.map_eq_some_iff
theorem yo {α:Type} {a:α} {l:List α}:(a::l).Nodup↔a∉l∧l.Nodup:=List.nodup_cons
theorem yp {α:Type} {p:α→Bool} {as:List α} {x:α}:x∈as.filter p↔x∈as∧p x=true:=List.mem_filter
theorem yq {A B:Prop} (h:B):if false=true then A else B:=h
namespace L2
open PySem PySem.Spec PyProof.Rows
def qX (s:Stmt) (j:Nat):Stmt:=match s with
 | .ClassDef _ _ _ body _ _ _ _ _ _ _=>body.getD j (.Pass ⟨0,0,0,0⟩)
 | _=>.Pass ⟨0,0,0,0⟩
def qk (s:Stmt):Arguments:=match s with
 | .FunctionDef _ a _ _ _ _ _ _ _ _=>a
 | _=>{ posonlyargs:=[],args:=[],vararg:=none,kwonlyargs:=[],kw_defaults:=[],kwarg:=none,defaults:=[] }
def qj (s:Stmt):List Stmt:=match s with
 | .FunctionDef _ _ b _ _ _ _ _ _ _=>b
 | _=>[]
def qd (s:Stmt):Scope:=match s with
 | .FunctionDef _ _ _ _ _ _ sc _ _ _=>sc
 | _=>{ kind:=.function,names:=[],isGenerator:=false,isCoroutine:=false }
end L2
namespace K36
open PySem L2 PyProof.Rows
def top (i:Nat):Stmt:=PySem.Challenge.pw_onceroad_k36_whole_greatest_of_small_web.main.body.getD i (.Pass ⟨0,0,0,0⟩)
abbrev zo:Stmt:=top 28
abbrev zE:Stmt:=top 33
abbrev za:Stmt:=top 34
abbrev qZ:Stmt:=top 35
abbrev jM:Stmt:=top 36
abbrev zc:Stmt:=qX (top 32) 0
abbrev zG:Stmt:=top 37
abbrev jN:Stmt:=qX (top 32) 1
abbrev jh:Stmt:=qX (top 32) 4
abbrev ji:Stmt:=qX (top 32) 6
abbrev jO:Stmt:=qX (top 32) 7
abbrev qW:Stmt:=qX (top 32) 8
abbrev zd:Stmt:=qX (top 32) 9
abbrev jd:Stmt:=qX (top 32) 12
abbrev ze:Stmt:=qX (top 32) 2
abbrev zX:Stmt:=top 39
abbrev qaI:Stmt:=top 40
abbrev zY:Stmt:=top 41
abbrev j4:Stmt:=top 42
abbrev qab:Stmt:=top 43
abbrev jv:Stmt:=top 45
abbrev jV:Stmt:=top 11
abbrev jA:Stmt:=qX (top 32) 5
abbrev jB:Stmt:=top 12
abbrev jo:Stmt:=qX (top 15) 6
abbrev qF:Stmt:=qX (top 15) 9
abbrev qL:Stmt:=qX (top 15) 10
abbrev jl:Stmt:=qX (top 15) 11
abbrev qA:Stmt:=qX (top 15) 8
abbrev qM:Stmt:=qX (top 15) 7
abbrev jC:Stmt:=qX (top 15) 5
abbrev jD:Stmt:=qX (top 15) 0
abbrev jP:Stmt:=qX (top 15) 1
abbrev qS:Stmt:=qX (top 15) 2
abbrev jw:Stmt:=top 13
abbrev qN:Stmt:=top 18
abbrev qac:Stmt:=top 17
abbrev qK:Stmt:=top 19
abbrev zf:Stmt:=top 20
abbrev zO:Stmt:=top 21
abbrev jj:Stmt:=top 25
abbrev zg:Stmt:=top 23
abbrev zh:Stmt:=top 24
abbrev jX:Stmt:=top 46
abbrev jJ:Stmt:=top 47
abbrev qae:Stmt:=top 49
abbrev jp:Stmt:=top 48
abbrev zP:Stmt:=top 50
abbrev zu:Stmt:=top 51
abbrev jY:Stmt:=top 52
abbrev q8:Stmt:=qX (top 32) 13
abbrev jq:Stmt:=qX (top 32) 15
abbrev jK:Stmt:=top 54
abbrev j0:Stmt:=top 53
abbrev qbE:Stmt:=top 55
end K36
namespace Hd
open PySem PySem.W PySem.Calls PyProof.Rows
def qe8 (tb:String→Option Builtin) (p:Program) (w:World) (n₀:Nat) (ann:Option Value):Nat→SharedT→Thread→Option SharedT
 | 0,_,_=>none
 | n + 1,s,t=>match through t with
  | true=>some s
  | false=>match stepOk n₀ ann t with
   | false=>none
   | true=>match stepT (denote tb) p w s t with
    | some (s',t')=>qe8 tb p w n₀ ann n s' t'
    | none=>none
theorem qeh {tb:String→Option Builtin} {p:Program} {w:World} {n₀:Nat} {ann:Option Value}:∀ {n:Nat} {s s':SharedT} {t:Thread},qe8 tb p w n₀ ann n s t=some s'→topRun tb p w n₀ ann n s.abs t=some s'.abs
 | 0,_,_,_,h=>by cases h
 | n + 1,s,s',t,h=>by
  unfold qe8 at h
  unfold topRun
  cases he:through t with
  | true=>rw [he] at h;cases h;rfl
  | false =>
   rw [he] at h
   cases hk:stepOk n₀ ann t with
   | false=>rw [hk] at h;cases h
   | true =>
    rw [hk] at h
    cases hs:stepT (denote tb) p w s t with
    | none=>rw [hs] at h;cases h
    | some r=>obtain ⟨s₂,t₂⟩:=r;rw [hs] at h;rw [stepT_spec hs];exact qeh h
def qcx:List Obj→Nat→BT→BT
 | [],_,t=>t
 | o::r,n,t=>qcx r (n + 1) (t.ins n o)
noncomputable def qev (P:Params) (os:OsState):SharedT:=⟨qcx (boot_heap P).objs.toList 0 .nil,(boot_heap P).objs.size,(boot_heap P).life,Array.mk [],boot_drawn,boot_toks,os⟩
theorem boot_abs (P:Params):absHeap (qcx (boot_heap P).objs.toList 0 .nil) (boot_heap P).objs.size (boot_heap P).life=boot_heap P:=by kernel_rfl
noncomputable def lookT (p q:Program) (Xt:Shared→Bool) {α:Type} (Yf:Shared→α) (N:Nat) (w:World) (os:OsState):=match (boot_heap w.params).isNs mainGlobals&&(Array.mk []:Array GenState).size==0 with
 | true=>(qe8 treeTable p w (boot_heap w.params).objs.size ((boot_heap w.params).nsMap mainGlobals "__annotations__") N (qev w.params os) (topStub p)).bind fun s=>match staticsOk (importedModules p.main.body) (boot_heap w.params) s.abs.heap&&namesBound p s.abs.heap&&gensDone s.abs&&laidKept (boot_heap w.params) s.abs.heap with
   | true=>some (openSeen q [] (importedModules p.main.body) Xt true s.abs,Yf s.abs)
   | false=>none
 | false=>none
theorem left_of {p q:Program} {Xt:Shared→Bool} {α:Type} {Yf:Shared→α} {Ya:World→α} {N:Nat} (e:opening p=plainProg p.main.scope.names) (hN:Nat.ble 600 N=true) (f:∀ s,fenceModules? p s=some s)
  (h:∀ w os,lookT p q Xt Yf N w os=some (openGood q [],Ya w)):LeftO p q [] Xt Yf Ya N:=fun w=>by
 obtain ⟨⟨h0,gs,d,k,os⟩,e1,e2⟩:=yn.mp (boot_open e hN f w)
 obtain ⟨rfl,rfl,rfl,rfl⟩:h0=boot_heap w.params∧gs=Array.mk []∧d=boot_drawn∧k=boot_toks:=by simpa using e2
 have hh:=h w os
 unfold lookT at hh
 unfold openEnds
 rw [e1]
 show (topFrom treeTable p w N _).map _=_
 unfold topFrom
 dsimp only
 split at hh
 ·rename_i z
  rw [z]
  obtain ⟨s,hs,q2⟩:=Option.bind_eq_some_iff.mp hh
  have r:=qeh hs
  have ba:(qev w.params os).abs=⟨boot_heap w.params,Array.mk [],boot_drawn,boot_toks,os⟩:=by
   unfold qev SharedT.abs
   dsimp only
   rw [boot_abs]
  rw [ba] at r
  dsimp only
  rw [r]
  split at q2
  ·rename_i z2
   show ((match staticsOk (importedModules p.main.body) (boot_heap w.params) s.abs.heap&&namesBound p s.abs.heap&&gensDone s.abs&&laidKept (boot_heap w.params) s.abs.heap with | true=>some s.abs | false=>none):Option Shared).map _=_
   rw [z2]
   exact q2
  ·cases q2
 ·cases hh
end Hd
namespace K36
open PySem L2 PyProof.Rows PySem.W
abbrev NN:Nat:=20000
noncomputable def Q:Program:=view PySem.Challenge.pw_onceroad_k36_whole_greatest_of_small_web [0,2,3,4,5,6,7,8,9,11,12,13,15,17,18,19,20,21,23,24,25,27,28,30,31,32,33,34,35,36,37,39,40,41,42,43,44,45,46,47,48,49,50,51,52,53,54,55]
def en (P:Params) (k:Str) (t:Tok) (v:Value):DictEntry:=⟨PyData.keyHash P k,.str k t,v⟩
noncomputable def Kf (P:Params):Frag:=
 (nat_lit 2,(⟨.none,none,.dict #[] 0,#[]⟩:Obj)) ::
 (nat_lit 3,(⟨(.type "dict"),none,.dict #[en P "__name__" 165 (.str "law_onceroad_k36_whole_greatest_of_small_web" 848),en P "__doc__" 166 .none,en P "__package__" 167 .none,en P "__loader__" 168 (.builtin "__main__.__loader__#opaque"),en P "__spec__" 169 .none,en P "__annotations__" 170 (.ref 6),en P "__builtins__" 171 (.ref 4),en P "__file__" 173 (.str "/claim/cut.py" 172),en P "__cached__" 174 .none,en P "_wall" 193 (.ref 21),en P "OnceError" 221 (.ref 38),en P "NoName" 246 (.ref 58),en P "Twice" 271 (.ref 77),en P "NoPlace" 296 (.ref 96),en P "NoTie" 321 (.ref 115),en P "TooMany" 346 (.ref 134),en P "NoPairs" 371 (.ref 153),en P "NoRow" 396 (.ref 172),en P "are_pairs" 408 (.ref 181),en P "partners_in" 418 (.ref 188),en P "told_pairs" 424 (.ref 193),en P "Forest" 554 (.ref 281),en P "is_row" 566 (.ref 292),en P "are_unlike_places" 576 (.ref 299),en P "goes_by_turns" 582 (.ref 304),en P "can_turn" 594 (.ref 311),en P "turned" 600 (.ref 316),en P "greatest" 609 (.ref 323),en P "count_of" 616 (.ref 330),en P "greatest_from" 627 (.ref 337),en P "LONGEST_NAME" 631 (.int 6 630),en P "is_name" 637 (.ref 342),en P "MOST_PLACES" 641 (.int 14 640),en P "MOST_TIES" 643 (.int 30 642),en P "Web" 801 (.ref 467),en P "has_bit" 809 (.ref 478),en P "is_place" 817 (.ref 485),en P "are_two_places" 826 (.ref 492),en P "numbers_of" 835 (.ref 499),en P "near_of" 847 (.ref 506),en P "_law_cell" 857 (.ref 513),en P "_law_box" 864 (.ref 520),en P "_law_take" 873 (.ref 527),en P "_law_names" 879 (.ref 532),en P "_law_ties" 891 (.ref 539),en P "_law_drawn" 901 (.ref 546),en P "_law_shuffled" 907 (.ref 551),en P "_law_partner" 917 (.ref 558),en P "_law_singles" 923 (.ref 563),en P "_law_some_pairs" 934 (.ref 570),en P "_law_tied" 943 (.ref 577),en P "_law_most" 949 (.ref 582),en P "_law_loose" 955 (.ref 587),en P "_law_counted" 969 (.ref 594),en P "_law_anew" 975 (.ref 599),en P "_law_changed" 981 (.ref 604),en P "law" 993 (.ref 611)] 57,#[]⟩:Obj)) ::
 (nat_lit 180,(⟨(.type "code"),none,.fields #[(.str "are_pairs" 399),(.str "are_pairs" 400),(.str "/claim/cut.py" 401),(.int 45 0),(.int 2 0),(.int 0 0),(.int 0 0),(.int 3 0),(.ref 175),(.bool true),(.int 181 0),(.ref 176),.none,(.ref 177),(.ref 178),(.ref 179),(.int 406 0),(.int 45 0),(.str "/claim/cut.py" 407)],#[]⟩:Obj)) ::
 (nat_lit 181,(⟨(.type "function"),none,.func (fnOf "are_pairs" "are_pairs" (qk jV) (qj jV) (qd jV) .none .none .none (.str "onceroad.pairs" 397) none (.ref 180) .none),#[]⟩:Obj)) ::
 (nat_lit 187,(⟨(.type "code"),none,.fields #[(.str "partners_in" 409),(.str "partners_in" 410),(.str "/claim/cut.py" 411),(.int 55 0),(.int 2 0),(.int 0 0),(.int 0 0),(.int 3 0),(.ref 182),(.bool true),(.int 181 0),(.ref 183),.none,(.ref 184),(.ref 185),(.ref 186),(.int 416 0),(.int 55 0),(.str "/claim/cut.py" 417)],#[]⟩:Obj)) ::
 (nat_lit 188,(⟨(.type "function"),none,.func (fnOf "partners_in" "partners_in" (qk jB) (qj jB) (qd jB) .none .none .none (.str "onceroad.pairs" 397) none (.ref 187) .none),#[]⟩:Obj)) ::
 (nat_lit 192,(⟨(.type "code"),none,.fields #[(.str "told_pairs" 419),(.str "told_pairs" 420),(.str "/claim/cut.py" 421),(.int 63 0),(.int 2 0),(.int 0 0),(.int 0 0),(.int 3 0),(.ref 189),(.bool true),(.int 181 0),(.ref 190),.none,.none,.none,(.ref 191),(.int 422 0),(.int 63 0),(.str "/claim/cut.py" 423)],#[]⟩:Obj)) ::
 (nat_lit 193,(⟨(.type "function"),none,.func (fnOf "told_pairs" "told_pairs" (qk jw) (qj jw) (qd jw) .none .none .none (.str "onceroad.pairs" 397) none (.ref 192) .none),#[]⟩:Obj)) ::
 (nat_lit 206,(⟨(.type "code"),none,.fields #[(.str "__init__" 439),(.str "Forest.__init__" 440),(.str "/claim/cut.py" 441),(.int 69 0),(.int 3 0),(.int 0 0),(.int 0 0),(.int 3 0),(.ref 201),(.bool true),(.int 181 0),(.ref 202),.none,(.ref 203),(.ref 204),(.ref 205),(.int 445 0),(.int 69 0),(.str "/claim/cut.py" 446)],#[]⟩:Obj)) ::
 (nat_lit 207,(⟨(.type "function"),none,.func (fnOf "__init__" "Forest.__init__" (qk jD) (qj jD) (qd jD) .none .none .none (.str "onceroad.forests" 425) none (.ref 206) .none),#[]⟩:Obj)) ::
 (nat_lit 213,(⟨(.type "code"),none,.fields #[(.str "row" 448),(.str "Forest.row" 449),(.str "/claim/cut.py" 450),(.int 80 0),(.int 1 0),(.int 0 0),(.int 0 0),(.int 3 0),(.ref 208),(.bool true),(.int 181 0),(.ref 209),.none,(.ref 210),(.ref 211),(.ref 212),(.int 452 0),(.int 80 0),(.str "/claim/cut.py" 453)],#[]⟩:Obj)) ::
 (nat_lit 214,(⟨(.type "function"),none,.func (fnOf "row" "Forest.row" (qk jP) (qj jP) (qd jP) .none .none .none (.str "onceroad.forests" 425) none (.ref 213) .none),#[]⟩:Obj)) ::
 (nat_lit 218,(⟨(.type "code"),none,.fields #[(.str "reached" 455),(.str "Forest.reached" 456),(.str "/claim/cut.py" 457),(.int 83 0),(.int 1 0),(.int 0 0),(.int 0 0),(.int 3 0),(.ref 215),(.bool true),(.int 181 0),(.ref 216),.none,.none,.none,(.ref 217),(.int 458 0),(.int 83 0),(.str "/claim/cut.py" 459)],#[]⟩:Obj)) ::
 (nat_lit 219,(⟨(.type "function"),none,.func (fnOf "reached" "Forest.reached" (qk qS) (qj qS) (qd qS) .none .none .none (.str "onceroad.forests" 425) none (.ref 218) .none),#[]⟩:Obj)) ::
 (nat_lit 239,(⟨(.type "code"),none,.fields #[(.str "grow" 476),(.str "Forest.grow" 477),(.str "/claim/cut.py" 478),(.int 94 0),(.int 1 0),(.int 0 0),(.int 0 0),(.int 3 0),(.ref 234),(.bool true),(.int 181 0),(.ref 235),.none,(.ref 236),(.ref 237),(.ref 238),(.int 481 0),(.int 94 0),(.str "/claim/cut.py" 482)],#[]⟩:Obj)) ::
 (nat_lit 240,(⟨(.type "function"),none,.func (fnOf "grow" "Forest.grow" (qk jC) (qj jC) (qd jC) .none .none .none (.str "onceroad.forests" 425) none (.ref 239) .none),#[]⟩:Obj)) ::
 (nat_lit 246,(⟨(.type "code"),none,.fields #[(.str "reach" 484),(.str "Forest.reach" 485),(.str "/claim/cut.py" 486),(.int 102 0),(.int 3 0),(.int 0 0),(.int 0 0),(.int 3 0),(.ref 241),(.bool true),(.int 181 0),(.ref 242),.none,(.ref 243),(.ref 244),(.ref 245),(.int 490 0),(.int 102 0),(.str "/claim/cut.py" 491)],#[]⟩:Obj)) ::
 (nat_lit 247,(⟨(.type "function"),none,.func (fnOf "reach" "Forest.reach" (qk jo) (qj jo) (qd jo) .none .none .none (.str "onceroad.forests" 425) none (.ref 246) .none),#[]⟩:Obj)) ::
 (nat_lit 253,(⟨(.type "code"),none,.fields #[(.str "look_around" 493),(.str "Forest.look_around" 494),(.str "/claim/cut.py" 495),(.int 106 0),(.int 2 0),(.int 0 0),(.int 0 0),(.int 3 0),(.ref 248),(.bool true),(.int 181 0),(.ref 249),.none,(.ref 250),(.ref 251),(.ref 252),(.int 500 0),(.int 106 0),(.str "/claim/cut.py" 501)],#[]⟩:Obj)) ::
 (nat_lit 254,(⟨(.type "function"),none,.func (fnOf "look_around" "Forest.look_around" (qk qM) (qj qM) (qd qM) .none .none .none (.str "onceroad.forests" 425) none (.ref 253) .none),#[]⟩:Obj)) ::
 (nat_lit 258,(⟨(.type "code"),none,.fields #[(.str "bring_together" 503),(.str "Forest.bring_together" 504),(.str "/claim/cut.py" 505),(.int 117 0),(.int 3 0),(.int 0 0),(.int 0 0),(.int 3 0),(.ref 255),(.bool true),(.int 181 0),(.ref 256),.none,.none,.none,(.ref 257),(.int 506 0),(.int 117 0),(.str "/claim/cut.py" 507)],#[]⟩:Obj)) ::
 (nat_lit 259,(⟨(.type "function"),none,.func (fnOf "bring_together" "Forest.bring_together" (qk qA) (qj qA) (qd qA) .none .none .none (.str "onceroad.forests" 425) none (.ref 258) .none),#[]⟩:Obj)) ::
 (nat_lit 265,(⟨(.type "code"),none,.fields #[(.str "bases_down_from" 509),(.str "Forest.bases_down_from" 510),(.str "/claim/cut.py" 511),(.int 128 0),(.int 2 0),(.int 0 0),(.int 0 0),(.int 3 0),(.ref 260),(.bool true),(.int 181 0),(.ref 261),.none,(.ref 262),(.ref 263),(.ref 264),(.int 516 0),(.int 128 0),(.str "/claim/cut.py" 517)],#[]⟩:Obj)) ::
 (nat_lit 266,(⟨(.type "function"),none,.func (fnOf "bases_down_from" "Forest.bases_down_from" (qk qF) (qj qF) (qd qF) .none .none .none (.str "onceroad.forests" 425) none (.ref 265) .none),#[]⟩:Obj)) ::
 (nat_lit 272,(⟨(.type "code"),none,.fields #[(.str "reach_round" 519),(.str "Forest.reach_round" 520),(.str "/claim/cut.py" 521),(.int 135 0),(.int 4 0),(.int 0 0),(.int 0 0),(.int 3 0),(.ref 267),(.bool true),(.int 181 0),(.ref 268),.none,(.ref 269),(.ref 270),(.ref 271),(.int 530 0),(.int 135 0),(.str "/claim/cut.py" 531)],#[]⟩:Obj)) ::
 (nat_lit 273,(⟨(.type "function"),none,.func (fnOf "reach_round" "Forest.reach_round" (qk qL) (qj qL) (qd qL) .none .none .none (.str "onceroad.forests" 425) none (.ref 272) .none),#[]⟩:Obj)) ::
 (nat_lit 277,(⟨(.type "code"),none,.fields #[(.str "fold" 533),(.str "Forest.fold" 534),(.str "/claim/cut.py" 535),(.int 144 0),(.int 3 0),(.int 0 0),(.int 0 0),(.int 3 0),(.ref 274),(.bool true),(.int 181 0),(.ref 275),.none,.none,.none,(.ref 276),(.int 536 0),(.int 144 0),(.str "/claim/cut.py" 537)],#[]⟩:Obj)) ::
 (nat_lit 278,(⟨(.type "function"),none,.func (fnOf "fold" "Forest.fold" (qk jl) (qj jl) (qd jl) .none .none .none (.str "onceroad.forests" 425) none (.ref 277) .none),#[]⟩:Obj)) ::
 (nat_lit 280,(⟨(.type "dict"),none,.dict #[en P "__module__" 434 (.str "onceroad.forests" 425),en P "__firstlineno__" 438 (.int 67 437),en P "__init__" 447 (.ref 207),en P "row" 454 (.ref 214),en P "reached" 460 (.ref 219),en P "row_to" 468 (.ref 226),en P "folds" 475 (.ref 233),en P "grow" 483 (.ref 240),en P "reach" 492 (.ref 247),en P "look_around" 502 (.ref 254),en P "bring_together" 508 (.ref 259),en P "bases_down_from" 518 (.ref 266),en P "reach_round" 532 (.ref 273),en P "fold" 538 (.ref 278),en P "__static_attributes__" 547 (.ref 279),en P "__dict__" 549 (.ref 282),en P "__weakref__" 551 (.ref 283),en P "__doc__" 552 .none] 4,#[]⟩:Obj)) ::
 (nat_lit 281,(⟨(.type "type"),none,.cls { name:="Forest",bases:=[(.type "object")],mro:=[(.ref 281),(.type "object")],ns:=280,qualname:="Forest",hasDict:=true,slotNames:=[],subclasses:=[],abstract:=false,collection:=none,hasDel:=false },#[none,none,(some (.str "Forest" 427)),(some (.str "Forest" 435)),(some (.builtin "object.__new__")),(some (.bool true))]⟩:Obj)) ::
 (nat_lit 291,(⟨(.type "code"),none,.fields #[(.str "is_row" 557),(.str "is_row" 558),(.str "/claim/cut.py" 559),(.int 150 0),(.int 3 0),(.int 0 0),(.int 0 0),(.int 3 0),(.ref 286),(.bool true),(.int 181 0),(.ref 287),.none,(.ref 288),(.ref 289),(.ref 290),(.int 564 0),(.int 150 0),(.str "/claim/cut.py" 565)],#[]⟩:Obj)) ::
 (nat_lit 292,(⟨(.type "function"),none,.func (fnOf "is_row" "is_row" (qk qac) (qj qac) (qd qac) .none .none .none (.str "onceroad.rows" 555) none (.ref 291) .none),#[]⟩:Obj)) ::
 (nat_lit 298,(⟨(.type "code"),none,.fields #[(.str "are_unlike_places" 567),(.str "are_unlike_places" 568),(.str "/claim/cut.py" 569),(.int 155 0),(.int 2 0),(.int 0 0),(.int 0 0),(.int 3 0),(.ref 293),(.bool true),(.int 181 0),(.ref 294),.none,(.ref 295),(.ref 296),(.ref 297),(.int 574 0),(.int 155 0),(.str "/claim/cut.py" 575)],#[]⟩:Obj)) ::
 (nat_lit 299,(⟨(.type "function"),none,.func (fnOf "are_unlike_places" "are_unlike_places" (qk qN) (qj qN) (qd qN) .none .none .none (.str "onceroad.rows" 555) none (.ref 298) .none),#[]⟩:Obj)) ::
 (nat_lit 303,(⟨(.type "code"),none,.fields #[(.str "goes_by_turns" 577),(.str "goes_by_turns" 578),(.str "/claim/cut.py" 579),(.int 164 0),(.int 3 0),(.int 0 0),(.int 0 0),(.int 3 0),(.ref 300),(.bool true),(.int 181 0),(.ref 301),.none,.none,.none,(.ref 302),(.int 580 0),(.int 164 0),(.str "/claim/cut.py" 581)],#[]⟩:Obj)) ::
 (nat_lit 304,(⟨(.type "function"),none,.func (fnOf "goes_by_turns" "goes_by_turns" (qk qK) (qj qK) (qd qK) .none .none .none (.str "onceroad.rows" 555) none (.ref 303) .none),#[]⟩:Obj)) ::
 (nat_lit 310,(⟨(.type "code"),none,.fields #[(.str "can_turn" 583),(.str "can_turn" 584),(.str "/claim/cut.py" 585),(.int 170 0),(.int 3 0),(.int 0 0),(.int 0 0),(.int 3 0),(.ref 305),(.bool true),(.int 181 0),(.ref 306),.none,(.ref 307),(.ref 308),(.ref 309),(.int 592 0),(.int 170 0),(.str "/claim/cut.py" 593)],#[]⟩:Obj)) ::
 (nat_lit 311,(⟨(.type "function"),none,.func (fnOf "can_turn" "can_turn" (qk zf) (qj zf) (qd zf) .none .none .none (.str "onceroad.rows" 555) none (.ref 310) .none),#[]⟩:Obj)) ::
 (nat_lit 315,(⟨(.type "code"),none,.fields #[(.str "turned" 595),(.str "turned" 596),(.str "/claim/cut.py" 597),(.int 177 0),(.int 3 0),(.int 0 0),(.int 0 0),(.int 3 0),(.ref 312),(.bool true),(.int 181 0),(.ref 313),.none,.none,.none,(.ref 314),(.int 598 0),(.int 177 0),(.str "/claim/cut.py" 599)],#[]⟩:Obj)) ::
 (nat_lit 316,(⟨(.type "function"),none,.func (fnOf "turned" "turned" (qk zO) (qj zO) (qd zO) .none .none .none (.str "onceroad.rows" 555) none (.ref 315) .none),#[]⟩:Obj)) ::
 (nat_lit 322,(⟨(.type "code"),none,.fields #[(.str "greatest" 603),(.str "greatest" 604),(.str "/claim/cut.py" 605),(.int 184 0),(.int 1 0),(.int 0 0),(.int 0 0),(.int 3 0),(.ref 317),(.bool true),(.int 181 0),(.ref 318),.none,(.ref 319),(.ref 320),(.ref 321),(.int 607 0),(.int 184 0),(.str "/claim/cut.py" 608)],#[]⟩:Obj)) ::
 (nat_lit 323,(⟨(.type "function"),none,.func (fnOf "greatest" "greatest" (qk zg) (qj zg) (qd zg) .none .none .none (.str "onceroad.greatest" 601) none (.ref 322) .none),#[]⟩:Obj)) ::
 (nat_lit 329,(⟨(.type "code"),none,.fields #[(.str "count_of" 610),(.str "count_of" 611),(.str "/claim/cut.py" 612),(.int 186 0),(.int 1 0),(.int 0 0),(.int 0 0),(.int 3 0),(.ref 324),(.bool true),(.int 181 0),(.ref 325),.none,(.ref 326),(.ref 327),(.ref 328),(.int 614 0),(.int 186 0),(.str "/claim/cut.py" 615)],#[]⟩:Obj)) ::
 (nat_lit 330,(⟨(.type "function"),none,.func (fnOf "count_of" "count_of" (qk zh) (qj zh) (qd zh) .none .none .none (.str "onceroad.greatest" 601) none (.ref 329) .none),#[]⟩:Obj)) ::
 (nat_lit 336,(⟨(.type "code"),none,.fields #[(.str "greatest_from" 617),(.str "greatest_from" 618),(.str "/claim/cut.py" 619),(.int 188 0),(.int 2 0),(.int 0 0),(.int 0 0),(.int 3 0),(.ref 331),(.bool true),(.int 181 0),(.ref 332),.none,(.ref 333),(.ref 334),(.ref 335),(.int 625 0),(.int 188 0),(.str "/claim/cut.py" 626)],#[]⟩:Obj)) ::
 (nat_lit 337,(⟨(.type "function"),none,.func (fnOf "greatest_from" "greatest_from" (qk jj) (qj jj) (qd jj) .none .none .none (.str "onceroad.greatest" 601) none (.ref 336) .none),#[]⟩:Obj)) ::
 (nat_lit 341,(⟨(.type "code"),none,.fields #[(.str "is_name" 632),(.str "is_name" 633),(.str "/claim/cut.py" 634),(.int 199 0),(.int 1 0),(.int 0 0),(.int 0 0),(.int 3 0),(.ref 338),(.bool true),(.int 181 0),(.ref 339),.none,.none,.none,(.ref 340),(.int 635 0),(.int 199 0),(.str "/claim/cut.py" 636)],#[]⟩:Obj)) ::
 (nat_lit 342,(⟨(.type "function"),none,.func (fnOf "is_name" "is_name" (qk zo) (qj zo) (qd zo) .none .none .none (.str "onceroad.names" 628) none (.ref 341) .none),#[]⟩:Obj)) ::
 (nat_lit 355,(⟨(.type "code"),none,.fields #[(.str "__init__" 656),(.str "Web.__init__" 657),(.str "/claim/cut.py" 658),(.int 208 0),(.int 3 0),(.int 0 0),(.int 0 0),(.int 3 0),(.ref 350),(.bool true),(.int 181 0),(.ref 351),.none,(.ref 352),(.ref 353),(.ref 354),(.int 662 0),(.int 208 0),(.str "/claim/cut.py" 663)],#[]⟩:Obj)) ::
 (nat_lit 356,(⟨(.type "function"),none,.func (fnOf "__init__" "Web.__init__" (qk zc) (qj zc) (qd zc) .none .none .none (.str "onceroad.webs" 638) none (.ref 355) .none),#[]⟩:Obj)) ::
 (nat_lit 362,(⟨(.type "code"),none,.fields #[(.str "places" 665),(.str "Web.places" 666),(.str "/claim/cut.py" 667),(.int 213 0),(.int 1 0),(.int 0 0),(.int 0 0),(.int 3 0),(.ref 357),(.bool true),(.int 181 0),(.ref 358),.none,(.ref 359),(.ref 360),(.ref 361),(.int 669 0),(.int 213 0),(.str "/claim/cut.py" 670)],#[]⟩:Obj)) ::
 (nat_lit 363,(⟨(.type "function"),none,.func (fnOf "places" "Web.places" (qk jN) (qj jN) (qd jN) .none .none .none (.str "onceroad.webs" 638) none (.ref 362) .none),#[]⟩:Obj)) ::
 (nat_lit 369,(⟨(.type "code"),none,.fields #[(.str "ties" 672),(.str "Web.ties" 673),(.str "/claim/cut.py" 674),(.int 216 0),(.int 1 0),(.int 0 0),(.int 0 0),(.int 3 0),(.ref 364),(.bool true),(.int 181 0),(.ref 365),.none,(.ref 366),(.ref 367),(.ref 368),(.int 679 0),(.int 216 0),(.str "/claim/cut.py" 680)],#[]⟩:Obj)) ::
 (nat_lit 370,(⟨(.type "function"),none,.func (fnOf "ties" "Web.ties" (qk ze) (qj ze) (qd ze) .none .none .none (.str "onceroad.webs" 638) none (.ref 369) .none),#[]⟩:Obj)) ::
 (nat_lit 383,(⟨(.type "code"),none,.fields #[(.str "has_place" 689),(.str "Web.has_place" 690),(.str "/claim/cut.py" 691),(.int 227 0),(.int 2 0),(.int 0 0),(.int 0 0),(.int 3 0),(.ref 378),(.bool true),(.int 181 0),(.ref 379),.none,(.ref 380),(.ref 381),(.ref 382),(.int 694 0),(.int 227 0),(.str "/claim/cut.py" 695)],#[]⟩:Obj)) ::
 (nat_lit 384,(⟨(.type "function"),none,.func (fnOf "has_place" "Web.has_place" (qk jh) (qj jh) (qd jh) .none .none .none (.str "onceroad.webs" 638) none (.ref 383) .none),#[]⟩:Obj)) ::
 (nat_lit 390,(⟨(.type "code"),none,.fields #[(.str "has_tie" 697),(.str "Web.has_tie" 698),(.str "/claim/cut.py" 699),(.int 230 0),(.int 2 0),(.int 0 0),(.int 0 0),(.int 3 0),(.ref 385),(.bool true),(.int 181 0),(.ref 386),.none,(.ref 387),(.ref 388),(.ref 389),(.int 702 0),(.int 230 0),(.str "/claim/cut.py" 703)],#[]⟩:Obj)) ::
 (nat_lit 391,(⟨(.type "function"),none,.func (fnOf "has_tie" "Web.has_tie" (qk jA) (qj jA) (qd jA) .none .none .none (.str "onceroad.webs" 638) none (.ref 390) .none),#[]⟩:Obj)) ::
 (nat_lit 397,(⟨(.type "code"),none,.fields #[(.str "number_of" 705),(.str "Web.number_of" 706),(.str "/claim/cut.py" 707),(.int 233 0),(.int 2 0),(.int 0 0),(.int 0 0),(.int 3 0),(.ref 392),(.bool true),(.int 181 0),(.ref 393),.none,(.ref 394),(.ref 395),(.ref 396),(.int 710 0),(.int 233 0),(.str "/claim/cut.py" 711)],#[]⟩:Obj)) ::
 (nat_lit 398,(⟨(.type "function"),none,.func (fnOf "number_of" "Web.number_of" (qk ji) (qj ji) (qd ji) .none .none .none (.str "onceroad.webs" 638) none (.ref 397) .none),#[]⟩:Obj)) ::
 (nat_lit 404,(⟨(.type "code"),none,.fields #[(.str "beside" 713),(.str "Web.beside" 714),(.str "/claim/cut.py" 715),(.int 238 0),(.int 2 0),(.int 0 0),(.int 0 0),(.int 3 0),(.ref 399),(.bool true),(.int 181 0),(.ref 400),.none,(.ref 401),(.ref 402),(.ref 403),(.int 718 0),(.int 238 0),(.str "/claim/cut.py" 719)],#[]⟩:Obj)) ::
 (nat_lit 405,(⟨(.type "function"),none,.func (fnOf "beside" "Web.beside" (qk jO) (qj jO) (qd jO) .none .none .none (.str "onceroad.webs" 638) none (.ref 404) .none),#[]⟩:Obj)) ::
 (nat_lit 411,(⟨(.type "code"),none,.fields #[(.str "bits_beside" 721),(.str "Web.bits_beside" 722),(.str "/claim/cut.py" 723),(.int 241 0),(.int 2 0),(.int 0 0),(.int 0 0),(.int 3 0),(.ref 406),(.bool true),(.int 181 0),(.ref 407),.none,(.ref 408),(.ref 409),(.ref 410),(.int 726 0),(.int 241 0),(.str "/claim/cut.py" 727)],#[]⟩:Obj)) ::
 (nat_lit 412,(⟨(.type "function"),none,.func (fnOf "bits_beside" "Web.bits_beside" (qk qW) (qj qW) (qd qW) .none .none .none (.str "onceroad.webs" 638) none (.ref 411) .none),#[]⟩:Obj)) ::
 (nat_lit 418,(⟨(.type "code"),none,.fields #[(.str "tied" 729),(.str "Web.tied" 730),(.str "/claim/cut.py" 731),(.int 244 0),(.int 3 0),(.int 0 0),(.int 0 0),(.int 3 0),(.ref 413),(.bool true),(.int 181 0),(.ref 414),.none,(.ref 415),(.ref 416),(.ref 417),(.int 736 0),(.int 244 0),(.str "/claim/cut.py" 737)],#[]⟩:Obj)) ::
 (nat_lit 419,(⟨(.type "function"),none,.func (fnOf "tied" "Web.tied" (qk zd) (qj zd) (qd zd) .none .none .none (.str "onceroad.webs" 638) none (.ref 418) .none),#[]⟩:Obj)) ::
 (nat_lit 437,(⟨(.type "code"),none,.fields #[(.str "names_in" 753),(.str "Web.names_in" 754),(.str "/claim/cut.py" 755),(.int 254 0),(.int 2 0),(.int 0 0),(.int 0 0),(.int 3 0),(.ref 434),(.bool true),(.int 181 0),(.ref 435),.none,.none,.none,(.ref 436),(.int 756 0),(.int 254 0),(.str "/claim/cut.py" 757)],#[]⟩:Obj)) ::
 (nat_lit 438,(⟨(.type "function"),none,.func (fnOf "names_in" "Web.names_in" (qk jd) (qj jd) (qd jd) .none .none .none (.str "onceroad.webs" 638) none (.ref 437) .none),#[]⟩:Obj)) ::
 (nat_lit 442,(⟨(.type "code"),none,.fields #[(.str "without" 759),(.str "Web.without" 760),(.str "/claim/cut.py" 761),(.int 257 0),(.int 2 0),(.int 0 0),(.int 0 0),(.int 3 0),(.ref 439),(.bool true),(.int 181 0),(.ref 440),.none,.none,.none,(.ref 441),(.int 762 0),(.int 257 0),(.str "/claim/cut.py" 763)],#[]⟩:Obj)) ::
 (nat_lit 443,(⟨(.type "function"),none,.func (fnOf "without" "Web.without" (qk q8) (qj q8) (qd q8) .none .none .none (.str "onceroad.webs" 638) none (.ref 442) .none),#[]⟩:Obj)) ::
 (nat_lit 456,(⟨(.type "code"),none,.fields #[(.str "with_tie" 773),(.str "Web.with_tie" 774),(.str "/claim/cut.py" 775),(.int 270 0),(.int 3 0),(.int 0 0),(.int 0 0),(.int 3 0),(.ref 451),(.bool true),(.int 181 0),(.ref 452),.none,(.ref 453),(.ref 454),(.ref 455),(.int 779 0),(.int 270 0),(.str "/claim/cut.py" 780)],#[]⟩:Obj)) ::
 (nat_lit 457,(⟨(.type "function"),none,.func (fnOf "with_tie" "Web.with_tie" (qk jq) (qj jq) (qd jq) .none .none .none (.str "onceroad.webs" 638) none (.ref 456) .none),#[]⟩:Obj)) ::
 (nat_lit 466,(⟨(.type "dict"),none,.dict #[en P "__module__" 651 (.str "onceroad.webs" 638),en P "__firstlineno__" 655 (.int 206 654),en P "__init__" 664 (.ref 356),en P "places" 671 (.ref 363),en P "ties" 681 (.ref 370),en P "how_many" 688 (.ref 377),en P "has_place" 696 (.ref 384),en P "has_tie" 704 (.ref 391),en P "number_of" 712 (.ref 398),en P "beside" 720 (.ref 405),en P "bits_beside" 728 (.ref 412),en P "tied" 738 (.ref 419),en P "pieces" 745 (.ref 426),en P "told" 752 (.ref 433),en P "names_in" 758 (.ref 438),en P "without" 764 (.ref 443),en P "with_place" 772 (.ref 450),en P "with_tie" 781 (.ref 457),en P "without_tie" 790 (.ref 464),en P "__static_attributes__" 794 (.ref 465),en P "__dict__" 796 (.ref 468),en P "__weakref__" 798 (.ref 469),en P "__doc__" 799 .none] 4,#[]⟩:Obj)) ::
 (nat_lit 467,(⟨(.type "type"),none,.cls { name:="Web",bases:=[(.type "object")],mro:=[(.ref 467),(.type "object")],ns:=466,qualname:="Web",hasDict:=true,slotNames:=[],subclasses:=[],abstract:=false,collection:=none,hasDel:=false },#[none,none,(some (.str "Web" 644)),(some (.str "Web" 652)),(some (.builtin "object.__new__")),(some (.bool true))]⟩:Obj)) ::
 (nat_lit 477,(⟨(.type "code"),none,.fields #[(.str "has_bit" 802),(.str "has_bit" 803),(.str "/claim/cut.py" 804),(.int 277 0),(.int 2 0),(.int 0 0),(.int 0 0),(.int 3 0),(.ref 472),(.bool true),(.int 181 0),(.ref 473),.none,(.ref 474),(.ref 475),(.ref 476),(.int 807 0),(.int 277 0),(.str "/claim/cut.py" 808)],#[]⟩:Obj)) ::
 (nat_lit 478,(⟨(.type "function"),none,.func (fnOf "has_bit" "has_bit" (qk zE) (qj zE) (qd zE) .none .none .none (.str "onceroad.webs" 638) none (.ref 477) .none),#[]⟩:Obj)) ::
 (nat_lit 484,(⟨(.type "code"),none,.fields #[(.str "is_place" 810),(.str "is_place" 811),(.str "/claim/cut.py" 812),(.int 279 0),(.int 2 0),(.int 0 0),(.int 0 0),(.int 3 0),(.ref 479),(.bool true),(.int 181 0),(.ref 480),.none,(.ref 481),(.ref 482),(.ref 483),(.int 815 0),(.int 279 0),(.str "/claim/cut.py" 816)],#[]⟩:Obj)) ::
 (nat_lit 485,(⟨(.type "function"),none,.func (fnOf "is_place" "is_place" (qk za) (qj za) (qd za) .none .none .none (.str "onceroad.webs" 638) none (.ref 484) .none),#[]⟩:Obj)) ::
 (nat_lit 491,(⟨(.type "code"),none,.fields #[(.str "are_two_places" 818),(.str "are_two_places" 819),(.str "/claim/cut.py" 820),(.int 281 0),(.int 2 0),(.int 0 0),(.int 0 0),(.int 3 0),(.ref 486),(.bool true),(.int 181 0),(.ref 487),.none,(.ref 488),(.ref 489),(.ref 490),(.int 824 0),(.int 281 0),(.str "/claim/cut.py" 825)],#[]⟩:Obj)) ::
 (nat_lit 492,(⟨(.type "function"),none,.func (fnOf "are_two_places" "are_two_places" (qk qZ) (qj qZ) (qd qZ) .none .none .none (.str "onceroad.webs" 638) none (.ref 491) .none),#[]⟩:Obj)) ::
 (nat_lit 498,(⟨(.type "code"),none,.fields #[(.str "numbers_of" 827),(.str "numbers_of" 828),(.str "/claim/cut.py" 829),(.int 286 0),(.int 1 0),(.int 0 0),(.int 0 0),(.int 3 0),(.ref 493),(.bool true),(.int 181 0),(.ref 494),.none,(.ref 495),(.ref 496),(.ref 497),(.int 833 0),(.int 286 0),(.str "/claim/cut.py" 834)],#[]⟩:Obj)) ::
 (nat_lit 499,(⟨(.type "function"),none,.func (fnOf "numbers_of" "numbers_of" (qk jM) (qj jM) (qd jM) .none .none .none (.str "onceroad.webs" 638) none (.ref 498) .none),#[]⟩:Obj)) ::
 (nat_lit 505,(⟨(.type "code"),none,.fields #[(.str "near_of" 836),(.str "near_of" 837),(.str "/claim/cut.py" 838),(.int 299 0),(.int 2 0),(.int 0 0),(.int 0 0),(.int 3 0),(.ref 500),(.bool true),(.int 181 0),(.ref 501),.none,(.ref 502),(.ref 503),(.ref 504),(.int 845 0),(.int 299 0),(.str "/claim/cut.py" 846)],#[]⟩:Obj)) ::
 (nat_lit 506,(⟨(.type "function"),none,.func (fnOf "near_of" "near_of" (qk zG) (qj zG) (qd zG) .none .none .none (.str "onceroad.webs" 638) none (.ref 505) .none),#[]⟩:Obj)) ::
 (nat_lit 512,(⟨(.type "code"),none,.fields #[(.str "_law_cell" 850),(.str "_law_cell" 851),(.str "/claim/cut.py" 852),(.int 316 0),(.int 2 0),(.int 0 0),(.int 0 0),(.int 3 0),(.ref 507),(.bool true),(.int 181 0),(.ref 508),.none,(.ref 509),(.ref 510),(.ref 511),(.int 855 0),(.int 316 0),(.str "/claim/cut.py" 856)],#[]⟩:Obj)) ::
 (nat_lit 513,(⟨(.type "function"),none,.func (fnOf "_law_cell" "_law_cell" (qk zX) (qj zX) (qd zX) .none .none .none (.str "law_onceroad_k36_whole_greatest_of_small_web" 848) none (.ref 512) .none),#[]⟩:Obj)) ::
 (nat_lit 519,(⟨(.type "code"),none,.fields #[(.str "_law_box" 858),(.str "_law_box" 859),(.str "/claim/cut.py" 860),(.int 320 0),(.int 1 0),(.int 0 0),(.int 0 0),(.int 3 0),(.ref 514),(.bool true),(.int 181 0),(.ref 515),.none,(.ref 516),(.ref 517),(.ref 518),(.int 862 0),(.int 320 0),(.str "/claim/cut.py" 863)],#[]⟩:Obj)) ::
 (nat_lit 520,(⟨(.type "function"),none,.func (fnOf "_law_box" "_law_box" (qk qaI) (qj qaI) (qd qaI) .none .none .none (.str "law_onceroad_k36_whole_greatest_of_small_web" 848) none (.ref 519) .none),#[]⟩:Obj)) ::
 (nat_lit 526,(⟨(.type "code"),none,.fields #[(.str "_law_take" 865),(.str "_law_take" 866),(.str "/claim/cut.py" 867),(.int 324 0),(.int 2 0),(.int 0 0),(.int 0 0),(.int 3 0),(.ref 521),(.bool true),(.int 181 0),(.ref 522),.none,(.ref 523),(.ref 524),(.ref 525),(.int 871 0),(.int 324 0),(.str "/claim/cut.py" 872)],#[]⟩:Obj)) ::
 (nat_lit 527,(⟨(.type "function"),none,.func (fnOf "_law_take" "_law_take" (qk zY) (qj zY) (qd zY) .none .none .none (.str "law_onceroad_k36_whole_greatest_of_small_web" 848) none (.ref 526) .none),#[]⟩:Obj)) ::
 (nat_lit 531,(⟨(.type "code"),none,.fields #[(.str "_law_names" 874),(.str "_law_names" 875),(.str "/claim/cut.py" 876),(.int 333 0),(.int 2 0),(.int 0 0),(.int 0 0),(.int 3 0),(.ref 528),(.bool true),(.int 181 0),(.ref 529),.none,.none,.none,(.ref 530),(.int 877 0),(.int 333 0),(.str "/claim/cut.py" 878)],#[]⟩:Obj)) ::
 (nat_lit 532,(⟨(.type "function"),none,.func (fnOf "_law_names" "_law_names" (qk j4) (qj j4) (qd j4) .none .none .none (.str "law_onceroad_k36_whole_greatest_of_small_web" 848) none (.ref 531) .none),#[]⟩:Obj)) ::
 (nat_lit 538,(⟨(.type "code"),none,.fields #[(.str "_law_ties" 880),(.str "_law_ties" 881),(.str "/claim/cut.py" 882),(.int 347 0),(.int 2 0),(.int 0 0),(.int 0 0),(.int 3 0),(.ref 533),(.bool true),(.int 181 0),(.ref 534),.none,(.ref 535),(.ref 536),(.ref 537),(.int 889 0),(.int 347 0),(.str "/claim/cut.py" 890)],#[]⟩:Obj)) ::
 (nat_lit 539,(⟨(.type "function"),none,.func (fnOf "_law_ties" "_law_ties" (qk qab) (qj qab) (qd qab) .none .none .none (.str "law_onceroad_k36_whole_greatest_of_small_web" 848) none (.ref 538) .none),#[]⟩:Obj)) ::
 (nat_lit 550,(⟨(.type "code"),none,.fields #[(.str "_law_shuffled" 902),(.str "_law_shuffled" 903),(.str "/claim/cut.py" 904),(.int 361 0),(.int 2 0),(.int 0 0),(.int 0 0),(.int 3 0),(.ref 547),(.bool true),(.int 181 0),(.ref 548),.none,.none,.none,(.ref 549),(.int 905 0),(.int 361 0),(.str "/claim/cut.py" 906)],#[]⟩:Obj)) ::
 (nat_lit 551,(⟨(.type "function"),none,.func (fnOf "_law_shuffled" "_law_shuffled" (qk jv) (qj jv) (qd jv) .none .none .none (.str "law_onceroad_k36_whole_greatest_of_small_web" 848) none (.ref 550) .none),#[]⟩:Obj)) ::
 (nat_lit 557,(⟨(.type "code"),none,.fields #[(.str "_law_partner" 908),(.str "_law_partner" 909),(.str "/claim/cut.py" 910),(.int 367 0),(.int 2 0),(.int 0 0),(.int 0 0),(.int 3 0),(.ref 552),(.bool true),(.int 181 0),(.ref 553),.none,(.ref 554),(.ref 555),(.ref 556),(.int 915 0),(.int 367 0),(.str "/claim/cut.py" 916)],#[]⟩:Obj)) ::
 (nat_lit 558,(⟨(.type "function"),none,.func (fnOf "_law_partner" "_law_partner" (qk jX) (qj jX) (qd jX) .none .none .none (.str "law_onceroad_k36_whole_greatest_of_small_web" 848) none (.ref 557) .none),#[]⟩:Obj)) ::
 (nat_lit 562,(⟨(.type "code"),none,.fields #[(.str "_law_singles" 918),(.str "_law_singles" 919),(.str "/claim/cut.py" 920),(.int 374 0),(.int 2 0),(.int 0 0),(.int 0 0),(.int 3 0),(.ref 559),(.bool true),(.int 181 0),(.ref 560),.none,.none,.none,(.ref 561),(.int 921 0),(.int 374 0),(.str "/claim/cut.py" 922)],#[]⟩:Obj)) ::
 (nat_lit 563,(⟨(.type "function"),none,.func (fnOf "_law_singles" "_law_singles" (qk jJ) (qj jJ) (qd jJ) .none .none .none (.str "law_onceroad_k36_whole_greatest_of_small_web" 848) none (.ref 562) .none),#[]⟩:Obj)) ::
 (nat_lit 569,(⟨(.type "code"),none,.fields #[(.str "_law_some_pairs" 924),(.str "_law_some_pairs" 925),(.str "/claim/cut.py" 926),(.int 376 0),(.int 2 0),(.int 0 0),(.int 0 0),(.int 3 0),(.ref 564),(.bool true),(.int 181 0),(.ref 565),.none,(.ref 566),(.ref 567),(.ref 568),(.int 932 0),(.int 376 0),(.str "/claim/cut.py" 933)],#[]⟩:Obj)) ::
 (nat_lit 570,(⟨(.type "function"),none,.func (fnOf "_law_some_pairs" "_law_some_pairs" (qk jp) (qj jp) (qd jp) .none .none .none (.str "law_onceroad_k36_whole_greatest_of_small_web" 848) none (.ref 569) .none),#[]⟩:Obj)) ::
 (nat_lit 576,(⟨(.type "code"),none,.fields #[(.str "_law_tied" 935),(.str "_law_tied" 936),(.str "/claim/cut.py" 937),(.int 383 0),(.int 3 0),(.int 0 0),(.int 0 0),(.int 3 0),(.ref 571),(.bool true),(.int 181 0),(.ref 572),.none,(.ref 573),(.ref 574),(.ref 575),(.int 941 0),(.int 383 0),(.str "/claim/cut.py" 942)],#[]⟩:Obj)) ::
 (nat_lit 577,(⟨(.type "function"),none,.func (fnOf "_law_tied" "_law_tied" (qk qae) (qj qae) (qd qae) .none .none .none (.str "law_onceroad_k36_whole_greatest_of_small_web" 848) none (.ref 576) .none),#[]⟩:Obj)) ::
 (nat_lit 581,(⟨(.type "code"),none,.fields #[(.str "_law_most" 944),(.str "_law_most" 945),(.str "/claim/cut.py" 946),(.int 385 0),(.int 2 0),(.int 0 0),(.int 0 0),(.int 3 0),(.ref 578),(.bool true),(.int 181 0),(.ref 579),.none,.none,.none,(.ref 580),(.int 947 0),(.int 385 0),(.str "/claim/cut.py" 948)],#[]⟩:Obj)) ::
 (nat_lit 582,(⟨(.type "function"),none,.func (fnOf "_law_most" "_law_most" (qk zP) (qj zP) (qd zP) .none .none .none (.str "law_onceroad_k36_whole_greatest_of_small_web" 848) none (.ref 581) .none),#[]⟩:Obj)) ::
 (nat_lit 586,(⟨(.type "code"),none,.fields #[(.str "_law_loose" 950),(.str "_law_loose" 951),(.str "/claim/cut.py" 952),(.int 394 0),(.int 2 0),(.int 0 0),(.int 0 0),(.int 3 0),(.ref 583),(.bool true),(.int 181 0),(.ref 584),.none,.none,.none,(.ref 585),(.int 953 0),(.int 394 0),(.str "/claim/cut.py" 954)],#[]⟩:Obj)) ::
 (nat_lit 587,(⟨(.type "function"),none,.func (fnOf "_law_loose" "_law_loose" (qk zu) (qj zu) (qd zu) .none .none .none (.str "law_onceroad_k36_whole_greatest_of_small_web" 848) none (.ref 586) .none),#[]⟩:Obj)) ::
 (nat_lit 593,(⟨(.type "code"),none,.fields #[(.str "_law_counted" 956),(.str "_law_counted" 957),(.str "/claim/cut.py" 958),(.int 397 0),(.int 4 0),(.int 0 0),(.int 0 0),(.int 3 0),(.ref 588),(.bool true),(.int 181 0),(.ref 589),.none,(.ref 590),(.ref 591),(.ref 592),(.int 967 0),(.int 397 0),(.str "/claim/cut.py" 968)],#[]⟩:Obj)) ::
 (nat_lit 594,(⟨(.type "function"),none,.func (fnOf "_law_counted" "_law_counted" (qk jY) (qj jY) (qd jY) .none .none .none (.str "law_onceroad_k36_whole_greatest_of_small_web" 848) none (.ref 593) .none),#[]⟩:Obj)) ::
 (nat_lit 598,(⟨(.type "code"),none,.fields #[(.str "_law_anew" 970),(.str "_law_anew" 971),(.str "/claim/cut.py" 972),(.int 406 0),(.int 3 0),(.int 0 0),(.int 0 0),(.int 3 0),(.ref 595),(.bool true),(.int 181 0),(.ref 596),.none,.none,.none,(.ref 597),(.int 973 0),(.int 406 0),(.str "/claim/cut.py" 974)],#[]⟩:Obj)) ::
 (nat_lit 599,(⟨(.type "function"),none,.func (fnOf "_law_anew" "_law_anew" (qk j0) (qj j0) (qd j0) .none .none .none (.str "law_onceroad_k36_whole_greatest_of_small_web" 848) none (.ref 598) .none),#[]⟩:Obj)) ::
 (nat_lit 603,(⟨(.type "code"),none,.fields #[(.str "_law_changed" 976),(.str "_law_changed" 977),(.str "/claim/cut.py" 978),(.int 415 0),(.int 4 0),(.int 0 0),(.int 0 0),(.int 3 0),(.ref 600),(.bool true),(.int 181 0),(.ref 601),.none,.none,.none,(.ref 602),(.int 979 0),(.int 415 0),(.str "/claim/cut.py" 980)],#[]⟩:Obj)) ::
 (nat_lit 604,(⟨(.type "function"),none,.func (fnOf "_law_changed" "_law_changed" (qk jK) (qj jK) (qd jK) .none .none .none (.str "law_onceroad_k36_whole_greatest_of_small_web" 848) none (.ref 603) .none),#[]⟩:Obj)) ::
 (nat_lit 610,(⟨(.type "code"),none,.fields #[(.str "law" 982),(.str "law" 983),(.str "/claim/cut.py" 984),(.int 426 0),(.int 1 0),(.int 0 0),(.int 0 0),(.int 3 0),(.ref 605),(.bool true),(.int 181 0),(.ref 606),.none,(.ref 607),(.ref 608),(.ref 609),(.int 991 0),(.int 426 0),(.str "/claim/cut.py" 992)],#[]⟩:Obj)) ::
 (nat_lit 611,(⟨(.type "function"),none,.func (fnOf "law" "law" (qk qbE) (qj qbE) (qd qbE) .none .none .none (.str "law_onceroad_k36_whole_greatest_of_small_web" 848) none (.ref 610) .none),#[]⟩:Obj)) ::
 []
def ks:List Addr:=[2,3,180,181,187,188,192,193,206,207,213,214,218,219,239,240,246,247,253,254,258,259,265,266,272,273,277,278,280,281,291,292,298,299,303,304,310,311,315,316,322,323,329,330,336,337,341,342,355,356,362,363,369,370,383,384,390,391,397,398,404,405,411,412,418,419,437,438,442,443,456,457,466,467,477,478,484,485,491,492,498,499,505,506,512,513,519,520,526,527,531,532,538,539,550,551,557,558,562,563,569,570,576,577,581,582,586,587,593,594,598,599,603,604,610,611]
theorem ks_eq:∀ P,ks=(Kf P).map (·.1):=fun P=>by kernel_rfl
noncomputable abbrev Hk:Hook:=kHook Kf ks ks_eq
noncomputable abbrev Xt (s:Shared):Bool:=xlAt Q [] s&&recOk [] s
noncomputable def runAt (w:World) (os:OsState):=Hd.lookT PySem.Challenge.pw_onceroad_k36_whole_greatest_of_small_web Q Xt (fun s=>ks.map s.heap.get?) NN w os
noncomputable def goodAt (w:World) (_:OsState):=some (openGood Q [],(Kf w.params).map fun p=>some p.2)
def tag {α:Type} (f g:World→OsState→α):Bool:=true
theorem tag1:tag runAt goodAt=true:=by k_qdec
theorem hl1 (w:World) (os:OsState):runAt w os=goodAt w os:=by
 rw [PySem.W.Fast.te12697103909777690636,PySem.W.Fast.te7902893075469022184]
 kernel_rfl
theorem hl:LeftO PySem.Challenge.pw_onceroad_k36_whole_greatest_of_small_web Q [] Xt (Hook.obs Hk) (Hook.val Hk) NN:=Hd.left_of (by kernel_rfl) (by decide) (fun s=>by kernel_rfl) fun w os=>hl1 w os
end K36
namespace L2
open PySem PySem.Spec PyProof.Rows
abbrev Key:=Sum Int Str
def qcf:Key→Value→Bool
 | .inl k,v=>Value.isInt k v
 | .inr x,v=>Value.isStrOf x v
def keyH (w:World):Key→Int
 | .inl k=>hashInt k
 | .inr x=>hashStr w x
theorem jc:∀ {k:Key} {v:Value},qcf k v=true→(∃ i t,k=Sum.inl i∧v=Value.int i t)∨(∃ x t,k=Sum.inr x∧v=Value.str x t)
 | .inl i,v,h=>by
  obtain ⟨t,e⟩:=Value.isInt_shape (k:=i) (v:=v) h
  exact .inl ⟨i,t,rfl,e⟩
 | .inr x,v,h=>by
  obtain ⟨t,e⟩:=Value.isStrOf_shape (x:=x) (v:=v) h
  exact .inr ⟨x,t,rfl,e⟩
theorem keyIs_int (i:Int) (t:Tok):qcf (.inl i) (.int i t)=true:=by simp [qcf,Value.isInt]
theorem keyIs_str (x:Str) (t:Tok):qcf (.inr x) (.str x t)=true:=by simp [qcf,Value.isStrOf]
theorem key_ll (a b:Int):decide ((Sum.inl a:Key)=Sum.inl b)=(a==b):=by
 by_cases e:a=b
 ·subst e;simp
 ·have h:¬ (Sum.inl a:Key)=Sum.inl b:=fun q=>e (Sum.inl.inj q)
  rw [yl h]
  exact (beq_eq_false_iff_ne.mpr e).symm
theorem key_rr (a b:Str):decide ((Sum.inr a:Key)=Sum.inr b)=decide (a=b):=by
 by_cases e:a=b
 ·subst e;simp
 ·have h:¬ (Sum.inr a:Key)=Sum.inr b:=fun q=>e (Sum.inr.inj q)
  rw [yl h,yl e]
theorem key_lr (a:Int) (b:Str):decide ((Sum.inl a:Key)=Sum.inr b)=false:=yl (fun q=>nomatch q)
theorem key_rl (a:Str) (b:Int):decide ((Sum.inr a:Key)=Sum.inl b)=false:=yl (fun q=>nomatch q)
def jE (prog:Program) (w:World):PySem.KeyKind prog w Key where
 is:=qcf
 hash:=keyH w
 inj:=fun v a b ha hb=>by
  rcases jc ha with ⟨i,t,rfl,rfl⟩ | ⟨x,t,rfl,rfl⟩
  ·rcases jc hb with ⟨j,u,rfl,e⟩ | ⟨y,u,rfl,e⟩
   ·injection e with e1 _;rw [e1]
   ·exact nomatch e
  ·rcases jc hb with ⟨j,u,rfl,e⟩ | ⟨y,u,rfl,e⟩
   ·exact nomatch e
   ·injection e with e1 _;rw [e1]
 byValue:=fun k v h=>by
  rcases jc h with ⟨i,t,rfl,rfl⟩ | ⟨x,t,rfl,rfl⟩<;>rfl
 pyHash:=fun hv h=>by
  rcases jc hv with ⟨i,t,rfl,rfl⟩ | ⟨x,t,rfl,rfl⟩
  ·exact wpAny_pyHash_int h
  ·exact wpAny_pyHash_str h
 eqBool:=fun hu hv h=>by
  rcases jc hu with ⟨i,t,rfl,rfl⟩ | ⟨x,t,rfl,rfl⟩
  ·rcases jc hv with ⟨j,u,rfl,rfl⟩ | ⟨y,u,rfl,rfl⟩
   ·rw [key_ll] at h;exact wpAny_eqBool_int h
   ·rw [key_lr] at h;exact SeqAt.EqAt.int_str i t y u _ _ _ _ h
  ·rcases jc hv with ⟨j,u,rfl,rfl⟩ | ⟨y,u,rfl,rfl⟩
   ·rw [key_rl] at h;exact SeqAt.EqAt.str_int x t j u _ _ _ _ h
   ·rw [key_rr] at h;exact wpAny_eqBool_str h
 «strs»:=fun k x t v h=>by
  rcases jc h with ⟨i,u,rfl,e⟩ | ⟨y,u,rfl,e⟩
  ·exact nomatch e
  ·injection e with e1 _
   subst e1
   cases v<;>rfl
theorem mixKind_int (prog:Program) (w:World) (i:Int) (t:Tok):(jE prog w).is (.inl i) (.int i t)=true:=keyIs_int i t
theorem mixKind_str (prog:Program) (w:World) (x:Str) (t:Tok):(jE prog w).is (.inr x) (.str x t)=true:=keyIs_str x t
inductive V where
 | non | bl (b:Bool) | int (i:Int) | str (x:Str) | byt (b:Array UInt8) | flt (b:UInt64) | ref (a:Addr) | ty (n:String)
 deriving DecidableEq
def RelV:V→Value→Prop
 | .non,u=>u=Value.none
 | .bl b,u=>u=Value.bool b
 | .int i,u=>∃ t,u=Value.int i t
 | .str x,u=>∃ t,u=Value.str x t
 | .byt b,u=>∃ t,u=Value.bytes b t
 | .flt b,u=>∃ t,u=Value.float b t
 | .ref a,u=>u=Value.ref a
 | .ty n,u=>u=Value.type n
abbrev Vals:List V→List Value→Prop:=Paired RelV
theorem Vals.length {xs:List V} {us:List Value} (r:Vals xs us):xs.length=us.length:=Paired.length r
theorem Vals.get:∀ {xs:List V} {us:List Value} {i:Nat} {x:V},Vals xs us→xs[i]?=some x→∃ u,us[i]?=some u∧RelV x u
 | _,_,_,_,.nil,e=>by simp at e
 | _,_,0,_,.cons r _,e=>by simp at e;subst e;exact ⟨_,rfl,r⟩
 | _,_,i + 1,x,.cons _ t,e=>by
  obtain ⟨u,h1,h2⟩:=Vals.get (i:=i) (x:=x) t (by simpa using e)
  exact ⟨u,by simpa using h1,h2⟩
theorem Vals.set {x:V} {u:Value} (r:RelV x u):∀ {xs:List V} {us:List Value} (i:Nat),Vals xs us→Vals (xs.set i x) (us.set i u)
 | _,_,_,.nil=>.nil
 | _,_,0,.cons _ t=>.cons r t
 | _,_,i + 1,.cons q t=>.cons q (Vals.set r i t)
theorem Vals.append:∀ {xs ys:List V} {us ws:List Value},Vals xs us→Vals ys ws→Vals (xs++ys) (us++ws)
 | _,_,_,_,.nil,s=>s
 | _,_,_,_,.cons r t,s=>.cons r (Vals.append t s)
theorem Vals.take:∀ {xs:List V} {us:List Value} (n:Nat),Vals xs us→Vals (xs.take n) (us.take n)
 | _,_,0,_=>.nil
 | _,_,_ + 1,.nil=>.nil
 | _,_,n + 1,.cons r t=>.cons r (Vals.take n t)
theorem Vals.drop:∀ {xs:List V} {us:List Value} (n:Nat),Vals xs us→Vals (xs.drop n) (us.drop n)
 | _,_,0,r=>r
 | _,_,_ + 1,.nil=>.nil
 | _,_,n + 1,.cons _ t=>Vals.drop n t
def RelO:Option V→Option Value→Prop
 | some v,some u=>RelV v u
 | none,none=>True
 | _,_=>False
def KV {κ:Type}:List (κ×V)→List (κ×Value)→Prop:=Paired fun (p:κ×V) (q:κ×Value)=>p.1=q.1∧RelV p.2 q.2
def kV:Key→V
 | .inl i=>.int i
 | .inr x=>.str x
inductive HO where
 /-- a list -/
 | lst (xs:List V)
 /-- a tuple (never changes) -/
 | tup (xs:List V)
 /-- a dict whose keys are ints and texts;one whose keys are tuples of ints and texts (the empty one is both) -/
 | dK (kvs:List (Key×V)) | dT (kvs:List (List Key×V))
 /-- a set of ints: its members,its size -/
 | set (S:Int→Bool) (n:Nat)
 /-- an instance of the class at C,its dict at dx,its attributes -/
 | ins (C dx:Addr) (fs:List (Str×V))
 /-- the dict of the instance at x -/
 | own (x:Addr)
 /-- the dict of an exception -/
 | xd (fs:List (Str×V))
 /-- a bound method,f of x -/
 | met (f x:Addr)
 /-- a range object lo,lo + 1,.. below hi -/
 | rng (lo hi:Int)
 /-- a thing that is known to the object (the script;a dict while a loop walks it): read,never written while it is so -/
 | frz (o:Obj) (u:HO)
 /-- a code object's table -/
 | tbl (ps:Array Value)
 /-- any other thing,by what is true of its one object (a def of one's own: SetO a S n:=HO.ext fun h=>..) -/
 | ext (φ:Heap→Prop)
abbrev Hp:=Addr→Option HO
def upd (H:Hp) (a:Addr) (o:HO):Hp:=fun b=>if b=a then some o else H b
theorem qb {H:Hp} {a:Addr} {o:HO}:upd H a o a=some o:=by unfold upd;rw [if_pos rfl]
theorem qg {H:Hp} {a b:Addr} {o:HO} (h:b≠a):upd H a o b=H b:=by unfold upd;rw [if_neg h]
theorem qal {H:Hp} {a b:Addr} {o u:HO} (h:H a=some o) (h':H b=some u) (d:o≠u):a≠b:=by
 intro e;subst e;rw [h] at h';exact d (ym h')
theorem qE {H:Hp} {a b:Addr} {o:HO} (h:H a=some o) (h':H b=none):a≠b:=by
 intro e;subst e;rw [h] at h';cases h'
section
variable (P:Program) (w:World)
def ObjOk (H:Hp) (h:Heap) (a:Addr):HO→Prop
 | .lst xs=>xs.length≤sizeLine∧∃ (its:List Value) (n:Nat),Vals xs its∧h.get? a=some { cls:=.type "list",data:=.seq its.toArray n }
 | .tup xs=>xs.length≤sizeLine∧∃ its:List Value,Vals xs its∧IsTup h a its.toArray
 | .dK kvs=>kvs.length≤sizeLine∧(a==sysModules)=false∧∃ vs,KV kvs vs∧h.DictOf (jE P w) a vs
 | .dT kvs=>kvs.length≤sizeLine∧(a==sysModules)=false∧∃ xs:List (List Key×Addr×Value),
   Paired (fun (p:List Key×V) (q:List Key×Addr×Value)=>p.1=q.1∧H q.2.1=some (.tup (p.1.map kV))∧RelV p.2 q.2.2) kvs xs ∧
   ∃ o es ep,h.get? a=some o∧o.ExactDict∧o.data=.dict es ep∧es.toList=xs.map (entryOfKey (tupleKind (jE P w)))∧(xs.map (·.1)).Nodup
 | .set S n=>h.SetOf (intKind P w) a S n
 | .ins C dx fs=>H dx=some (.own a)∧fs.length≤1000∧dx≠a∧h.get? a=some (PySem.W.instObj C dx) ∧
   ∃ mA,h.Ns1 dx mA∧(∀ f,RelO (fs.lookup f) (mA f))∧PySem.Within mA (fs.map (·.1))
 | .own _=>∃ o,h.get? a=some o
 | .xd fs=>∃ mA,h.Ns1 a mA∧∀ f,RelO (fs.lookup f) (mA f)
 | .rng lo hi=>∃ t u v,h.get? a=some { cls:=.type "range",data:=.fields #[.int lo t,.int hi u,.int 1 v] }
 | .frz o u=>h.get? a=some o∧ObjOk H h a u
 | .tbl ps=>h.get? a=some { cls:=.none,data:=.fields ps }
 | .met f x=>h.get? a=some (PySem.W.methodObj (.ref f) (.ref x))
 | .ext φ=>φ h∧(∃ o,h.get? a=some o)∧∀ h1 h2:Heap,φ h1→(∀ o,h1.get? a=some o→h2.get? a=some o)→φ h2
def HOk (H:Hp) (h:Heap):Prop:=∀ a o,H a=some o→ObjOk P w H h a o
end
section
variable {P:Program} {w:World} {H H':Hp} {h h':Heap} {a:Addr} {o:HO}
theorem ObjOk.lt (x:ObjOk P w H h a o):a < h.objs.size:=by
 cases o with
 | lst xs=>obtain ⟨_,_,_,_,e⟩:=x;exact Heap.lt_size e
 | tup xs=>obtain ⟨_,_,_,p⟩:=x;exact p.lt
 | dK kvs=>obtain ⟨_,_,_,_,o,_,_,e,_⟩:=x;exact Heap.lt_size e
 | dT kvs=>obtain ⟨_,_,_,_,o,_,_,e,_⟩:=x;exact Heap.lt_size e
 | set S n=>obtain ⟨o,_,_,_,e,_⟩:=x;exact Heap.lt_size e
 | ins C dx fs=>obtain ⟨_,_,_,e,_⟩:=x;exact Heap.lt_size e
 | own y=>obtain ⟨_,e⟩:=x;exact Heap.lt_size e
 | xd fs=>obtain ⟨_,⟨_,_,_,e,_⟩,_⟩:=x;exact Heap.lt_size e
 | rng lo hi=>obtain ⟨_,_,_,e⟩:=x;exact Heap.lt_size e
 | frz ob u=>obtain ⟨e,_⟩:=x;exact Heap.lt_size e
 | tbl ps=>exact Heap.lt_size (show h.get? a=some _ from x)
 | met f y=>exact Heap.lt_size (show h.get? a=some _ from x)
 | ext φ=>obtain ⟨_,⟨_,e⟩,_⟩:=x;exact Heap.lt_size e
theorem Paired.mapP {α β:Type} {F G:α→β→Prop}:∀ {l₁:List α} {l₂:List β},Paired F l₁ l₂→(∀ a b,F a b→G a b)→Paired G l₁ l₂
 | _,_,.nil,_=>.nil
 | _,_,.cons r t,f=>.cons (f _ _ r) (Paired.mapP t f)
theorem ObjOk.stay (x:ObjOk P w H h a o) (k:∀ b u,(b=a∨H b=some (.own a))→h.get? b=some u→h'.get? b=some u)
  (ho:∀ b,H b=some (.own a)→H' b=some (.own a)) (ht:∀ b xs,H b=some (.tup xs)→H' b=some (.tup xs)):ObjOk P w H' h' a o:=by
 induction o with
 | lst xs=>obtain ⟨z,its,n,r,e⟩:=x;exact ⟨z,its,n,r,k _ _ (.inl rfl) e⟩
 | tup xs=>obtain ⟨z,its,r,ob,e,c⟩:=x;exact ⟨z,its,r,ob,k _ _ (.inl rfl) e,c⟩
 | dK kvs=>obtain ⟨z,y,vs,r,ob,es,ep,e,c⟩:=x;exact ⟨z,y,vs,r,ob,es,ep,k _ _ (.inl rfl) e,c⟩
 | dT kvs =>
  obtain ⟨z,y,xs,r,ob,es,ep,e,c⟩:=x
  exact ⟨z,y,xs,Paired.mapP r fun p q z=>⟨z.1,ht _ _ z.2.1,z.2.2⟩,ob,es,ep,k _ _ (.inl rfl) e,c⟩
 | set S n=>obtain ⟨ob,es,ep,t,e,c⟩:=x;exact ⟨ob,es,ep,t,k _ _ (.inl rfl) e,c⟩
 | ins C dx fs =>
  obtain ⟨d,z,ne,e,mA,⟨od,es,ep,e2,c⟩,r⟩:=x
  exact ⟨ho _ d,z,ne,k _ _ (.inl rfl) e,mA,⟨od,es,ep,k _ _ (.inr d) e2,c⟩,r⟩
 | own y=>obtain ⟨ob,e⟩:=x;exact ⟨ob,k _ _ (.inl rfl) e⟩
 | xd fs=>obtain ⟨mA,⟨od,es,ep,e,c⟩,r⟩:=x;exact ⟨mA,⟨od,es,ep,k _ _ (.inl rfl) e,c⟩,r⟩
 | rng lo hi=>obtain ⟨t,u,v,e⟩:=x;exact ⟨t,u,v,k _ _ (.inl rfl) e⟩
 | frz ob u ih=>obtain ⟨e,q⟩:=x;exact ⟨k _ _ (.inl rfl) e,ih q⟩
 | tbl ps =>
  have e:h.get? a=some { cls:=.none,data:=.fields ps }:=x
  show h'.get? a=some { cls:=.none,data:=.fields ps }
  exact k a _ (.inl rfl) e
 | met f y =>
  have e:h.get? a=some (PySem.W.methodObj (.ref f) (.ref y)):=x
  show h'.get? a=some (PySem.W.methodObj (.ref f) (.ref y))
  exact k a _ (.inl rfl) e
 | ext φ=>obtain ⟨p,⟨o,e⟩,st⟩:=x;exact ⟨st _ _ p fun o q=>k _ _ (.inl rfl) q,⟨o,k _ _ (.inl rfl) e⟩,st⟩
theorem HOk.lt (x:HOk P w H h) (e:H a=some o):a < h.objs.size:=(x a o e).lt
theorem HOk.fresh (x:HOk P w H h) (e:h.objs.size≤a):H a=none:=by
 cases q:H a with
 | none=>rfl
 | some u=>exact absurd (yj (x.lt q) e) (Nat.lt_irrefl _)
theorem HOk.kept (x:HOk P w H h) (k:∀ b u,h.get? b=some u→h'.get? b=some u):HOk P w H h':=fun a o e =>
 (x a o e).stay (fun b u _ q=>k b u q) (fun _ q=>q) fun _ _ q=>q
theorem HOk.laid (x:HOk P w H h) (k:∀ b u,h.get? b=some u→h'.get? b=some u) (hp:h.objs.size≤a) (new:ObjOk P w (upd H a o) h' a o):HOk P w (upd H a o) h':=fun b u e=>by
 have hn:=x.fresh hp
 by_cases hb:b=a
 ·subst hb;rw [qb] at e;cases e;exact new
 ·rw [qg hb] at e
  exact (x b u e).stay (fun c v _ q=>k c v q) (fun c q=>by rw [qg (qE q hn)];exact q) fun c xs q=>by rw [qg (qE q hn)];exact q
end
def Rd (H:Hp) (a:Addr) (u:HO):Prop:=H a=some u∨∃ o,H a=some (.frz o u)
theorem Rd.ok {P:Program} {w:World} {H:Hp} {h:Heap} {a:Addr} {u:HO} (r:Rd H a u) (x:HOk P w H h):ObjOk P w H h a u:=by
 rcases r with r | ⟨o,r⟩
 ·exact x a u r
 ·obtain ⟨_,q⟩:=x a _ r
  exact q
def Mut:Option HO→Prop
 | some (.lst _)=>True
 | some (.dK _)=>True
 | some (.dT _)=>True
 | some (.set _ _)=>True
 | some (.ins _ _ _)=>True
 | some (.ext _)=>True
 | _=>False
section
variable {P:Program} {w:World} {H:Hp} {h h':Heap} {x e:Addr} {o':HO}
theorem HOk.write (ok:HOk P w H h) (mu:Mut (H x)) (he:e=x∨H e=some (.own x)) (k:∀ b u,b≠e→h.get? b=some u→h'.get? b=some u) (heo:∃ u,h'.get? e=some u)
  (new:ObjOk P w (upd H x o') h' x o'):HOk P w (upd H x o') h':=fun b u q=>by
 have nown:∀ c y,H c=some (.own y)→c≠x:=fun c y r z=>by subst z;rw [r] at mu;exact mu
 have ntup:∀ c xs,H c=some (.tup xs)→c≠x:=fun c xs r z=>by subst z;rw [r] at mu;exact mu
 by_cases hb:b=x
 ·subst hb;rw [qb] at q;cases q;exact new
 ·rw [qg hb] at q
  by_cases hbe:b=e
  ·have q':H b=some (.own x):=by
    rcases he with z | z
    ·exact absurd (hbe.trans z) hb
    ·rw [hbe];exact z
   rw [q] at q';cases q'
   obtain ⟨v,hv⟩:=heo
   exact ⟨v,by rw [hbe];exact hv⟩
  ·refine (ok b u q).stay (fun c v hc r=>k c v ?_ r) (fun c r=>by rw [qg (nown c b r)];exact r) fun c xs r=>by rw [qg (ntup c xs r)];exact r
   rcases hc with rfl | hc
   ·exact hbe
   ·rintro rfl
    rcases he with z | z
    ·exact nown c b hc z
    ·rw [hc] at z;cases z;exact hb rfl
end
structure Un (fs ex:List Addr) (H H':Hp) (h h':Heap):Prop where
 keep:∀ b o,h.get? b=some o→H b=none→b∉fs→b∉ex→h'.get? b=some o
 slot:∀ b o,h.get? b=some o→H b=none→b∈fs→b∉ex→∃ sl,h'.get? b=some { o with slots:=sl }
 free:∀ b o,h.get? b=some o→H b=none→b∉ex→H' b=none
 there:∀ b o,h.get? b=some o→b∉ex→∃ o',h'.get? b=some o'
 tups:∀ b xs,H b=some (.tup xs)→H' b=some (.tup xs)
 frzs:∀ b o u,H b=some (.frz o u)→H' b=some (.frz o u)
 tbls:∀ b ps,H b=some (.tbl ps)→∃ more,H' b=some (.tbl (ps++more))
section
variable {fs fs' ex ex':List Addr} {H H1 H2:Hp} {h h1 h2 h':Heap} {a x e:Addr} {o:HO}
theorem Un.any (u:Un fs ex H H1 h h1) {b:Addr} {ob:Obj} (q:h.get? b=some ob) (n:H b=none) (hx:b∉ex):∃ sl,h1.get? b=some { ob with slots:=sl }:=by
 by_cases hb:b∈fs
 ·exact u.slot b ob q n hb hx
 ·exact ⟨ob.slots,u.keep b ob q n hb hx⟩
theorem Un.kept (k:∀ b u,h.get? b=some u→h'.get? b=some u):Un fs ex H H h h':=
 ⟨fun b ob q _ _ _=>k b ob q,fun b ob q _ _ _=>⟨ob.slots,k b ob q⟩,fun _ _ _ n _=>n,fun b ob q _=>⟨ob,k b ob q⟩,fun _ _ q=>q,fun _ _ _ q=>q,fun _ ps q=>⟨#[],by rw [q];simp⟩⟩
theorem Un.refl:Un fs ex H H h h:=Un.kept fun _ _ q=>q
theorem Un.laid (k:∀ b u,h.get? b=some u→h'.get? b=some u) (hp:h.objs.size≤a) (hn:H a=none):Un fs ex H (upd H a o) h h' where
 keep:=fun b u q _ _ _=>k b u q
 slot:=fun b u q _ _ _=>⟨u.slots,k b u q⟩
 free:=fun b u q n _=>by rw [qg (Nat.ne_of_lt (yj (Heap.lt_size q) hp))];exact n
 there:=fun b u q _=>⟨u,k b u q⟩
 tups:=fun b xs q=>by rw [qg (qE q hn)];exact q
 frzs:=fun b u xs q=>by rw [qg (qE q hn)];exact q
 tbls:=fun b ps q=>⟨#[],by rw [qg (qE q hn),q];simp⟩
theorem Un.write (mu:Mut (H x)) (he:e=x∨H e=some (.own x)) (k:∀ b u,b≠e→h.get? b=some u→h'.get? b=some u) (heo:∃ u,h'.get? e=some u):Un fs ex H (upd H x o) h h':=by
 have hx:∀ b,H b=none→b≠x:=fun b n z=>by subst z;rw [n] at mu;exact mu
 have hb:∀ b,H b=none→b≠e:=fun b n z=>by
  subst z
  rcases he with r | r
  ·exact hx b n r
  ·rw [n] at r;cases r
 have hm:∀ b u,H b=some u→¬ Mut (some u)→b≠x:=fun b u q nm z=>by subst z;rw [q] at mu;exact nm mu
 refine ⟨fun b u q n _ _=>k b u (hb b n) q,fun b u q n _ _=>⟨u.slots,k b u (hb b n) q⟩,fun b u q n _=>by rw [qg (hx b n)];exact n,fun b u q _=>?_,
  fun b xs q=>by rw [qg (hm b _ q fun z=>z)];exact q,fun b u xs q=>by rw [qg (hm b _ q fun z=>z)];exact q,fun b ps q=>⟨#[],by rw [qg (hm b _ q fun z=>z),q];simp⟩⟩
 by_cases hbe:b=e
 ·subst hbe;exact heo
 ·exact ⟨u,k b u hbe q⟩
end
def trk (h:Heap) (H:Hp):List Addr:=(List.range h.objs.size).filter fun a=>(H a).isSome
def qdL (h:Heap) (H:Hp):Heap:=PySem.W.hideAll h (trk h H)
theorem hidT_size (h:Heap) (H:Hp):(qdL h H).objs.size=h.objs.size:=PySem.W.hideAll_size _ _
theorem hidT_get {h:Heap} {H:Hp} {b:Addr} {o:Obj} (e:h.get? b=some o) (n:H b=none):(qdL h H).get? b=some o:=
 PySem.W.hideAll_get _ e fun hm=>by
  have q:(H b).isSome=true:=(yp.mp hm).2
  rw [n] at q;simp at q
theorem of_hidT {h:Heap} {H:Hp} {b:Addr} {o:Obj} (e:(qdL h H).get? b=some o):h.get? b=some o∧H b=none:=by
 have e':h.get? b=some o:=PySem.W.of_hideAll (trk h H) e
 refine ⟨e',?_⟩
 cases q:H b with
 | none=>rfl
 | some x =>
  have hm:b∈trk h H:=yp.mpr ⟨List.mem_range.mpr (Heap.lt_size e'),by simp [q]⟩
  have z:(qdL h H).get? b=none:=PySem.W.hideAll_none (trk h H) hm
  rw [z] at e;cases e
def allNews (g h:Heap) (L:Addr):List (Addr×Obj):=(List.range h.objs.size).filterMap fun a=>if a=L∨(g.get? a).isSome=true then none else (h.get? a).map fun o=>(a,o)
def qcg (g h:Heap) (L d:Addr):List (Addr×Obj):=(allNews g h L).filter fun p=>decide (p.1≠d)
structure Mod (K:yg) (mg:Str→Option Value) (base:Heap):Prop where
 kin:K.In base
 glob:base.Ns mainGlobals mg
 blt:∃ mb,base.Ns builtinsNs mb∧∀ x:Str,x≠"__name__"→mb x=bootBuiltins x
 nolimit:base.NoLimit
structure Cx where
 prog:Program
 w:World
 K:yg
 mg:Str→Option Value
 base:Heap
 A:Around
 N:List Str
 s₀:Shared
 H₀:Hp
 env:Env
 outer:List Env
 stack:List Env
 ex:List Addr
 fn:Str→Bool
 calm:Bool
 pn:List (Addr×Obj)
 xe:Value→Shared→Prop
def frs (l:List Env):List Addr:=l.filterMap (·.frame)
abbrev Cx.fs (X:Cx):List Addr:=frs X.outer
def Vis (sc:Scope) (x:Str):Prop:=sc.names.lookup x=some .local∨sc.names.lookup x=some .cell∨sc.names.lookup x=some .free
def Loc (sc:Scope) (x:Str):Prop:=sc.names.lookup x=some .local∨sc.names.lookup x=some .cell
def Look (env:Env) (h:Heap) (m:Str→Option Value) (x:Str) (u:Value):Prop:=
 (env.kindOf x=some .local∧m x=some u)∨((env.kindOf x=some .cell∨env.kindOf x=some .free)∧∃ c,env.cells.lookup x=some c∧h.IsCell c (some u))
structure Cx.Ok (X:Cx):Prop where
 mod:Mod X.K X.mg X.base
 kind:X.env.scope.kind=.function
 glob:X.env.globals=mainGlobals
 blt:X.env.builtins=builtinsNs
 above:X.s₀.heap.objs.size≤X.env.locals
 inj:∀ x y c,X.env.cells.lookup x=some c→X.env.cells.lookup y=some c→x=y
 has:∀ x,(X.env.kindOf x=some .cell∨X.env.kindOf x=some .free)→∃ c,X.env.cells.lookup x=some c
 cab:∀ x c,X.fn x=true→X.env.cells.lookup x=some c→X.s₀.heap.objs.size≤c
 hd:X.calm=true→X.A.handled=none
 frames:X.A.frames=some X.stack
 stk:X.stack=X.outer∨(X.stack=X.env::X.outer∧X.env.frame=some X.env.locals)
 exf:∀ b∈X.ex,b≠X.env.locals∧∀ x c,X.env.cells.lookup x=some c→c≠b
 bs:∀ b o,X.base.get? b=some o→X.s₀.heap.get? b=some o∧X.H₀ b=none
 bsz:X.base.objs.size≤X.s₀.heap.objs.size
 noex:∀ b o,X.base.get? b=some o→b∉X.ex
 exfs:∀ b∈X.ex,b∉X.fs
 funs:X.s₀.heap.FunFrames X.base X.outer
 frf:∀ b∈X.fs,X.H₀ b=none
structure Inv (X:Cx) (pins:List (Addr×Obj)) (σ:List (Option V)) (H:Hp) (s:Shared):Prop where
 ok:X.Ok
 os:s.os=X.s₀.os
 bare:AllBare s.gens
 base:Un X.fs X.ex X.H₀ H X.s₀.heap s.heap
 loc:∃ m,s.heap.Ns X.env.locals m∧∀ (i:Nat) (x:Str) (v:V),X.N[i]?=some x→σ[i]?=some (some v)→Vis X.env.scope x→∃ u,RelV v u∧Look X.env s.heap m x u
 cell:∀ x c,X.env.cells.lookup x=some c→∃ v,s.heap.IsCell c v
 free:H X.env.locals=none
 freeC:∀ x c,X.env.cells.lookup x=some c→H c=none
 pin:∀ p∈X.pn++pins,s.heap.get? p.1=some p.2∧H p.1=none∧p.1≠X.env.locals∧p.1∉X.fs∧∀ v,p.2.data≠.cell v
 hok:HOk X.prog X.w H s.heap
 len:σ.length=X.N.length
section
variable {X:Cx} {pins:List (Addr×Obj)} {σ:List (Option V)} {H H':Hp} {s:Shared} {h':Heap}
theorem Cx.Ok.nofr (ok:X.Ok) {b:Addr} {o:Obj} (e:X.base.get? b=some o):b∉X.fs:=fun hb=>by
 have:=(ok.funs.mem hb).1
 rw [e] at this;cases this
theorem Inv.bs (I:Inv X pins σ H s):∀ b o,X.base.get? b=some o→s.heap.get? b=some o∧H b=none:=fun b o e =>
 ⟨I.base.keep b o (I.ok.bs b o e).1 (I.ok.bs b o e).2 (I.ok.nofr e) (I.ok.noex b o e),I.base.free b o (I.ok.bs b o e).1 (I.ok.bs b o e).2 (I.ok.noex b o e)⟩
theorem Inv.bk (I:Inv X pins σ H s):∀ b o,X.base.get? b=some o→s.heap.get? b=some o:=fun b o e=>(I.bs b o e).1
theorem Inv.mod (I:Inv X pins σ H s):Mod X.K X.mg X.base:=I.ok.mod
theorem Inv.kIn (I:Inv X pins σ H s):X.K.In s.heap:=I.ok.mod.kin.keeps I.bk
theorem Inv.lt (I:Inv X pins σ H s):X.env.locals < s.heap.objs.size:=let ⟨_,hn,_⟩:=I.loc;hn.lt
theorem Inv.sz (I:Inv X pins σ H s):X.s₀.heap.objs.size≤s.heap.objs.size:=yi I.ok.above (Nat.le_of_lt I.lt)
theorem Inv.nofs (I:Inv X pins σ H s) {a:Addr} (h:s.heap.objs.size≤a):a∉X.fs:=fun hb=>by
 obtain ⟨_,o,ho,_⟩:=I.ok.funs.mem hb
 exact absurd (yj (Heap.lt_size ho) (yi I.sz h)) (Nat.lt_irrefl _)
theorem Inv.cne (I:Inv X pins σ H s):∀ x c,X.env.cells.lookup x=some c→c≠X.env.locals:=fun x c e z=>by
 obtain ⟨v,o,ho,hd⟩:=I.cell x c e
 obtain ⟨m,⟨o',es,ep,ho',hd',_⟩,_⟩:=I.loc
 rw [z,ho'] at ho;cases ho;rw [hd'] at hd;cases hd
theorem Inv.funs (I:Inv X pins σ H s):s.heap.FunFrames X.base X.outer:=by
 have all:∀ (l:List Env),(∀ b∈frs l,b∈X.fs)→X.s₀.heap.FunFrames X.base l→s.heap.FunFrames X.base l:=by
  intro l
  induction l with
  | nil=>intro _ _;trivial
  | cons env r ih =>
   intro hs hl
   obtain ⟨hk,⟨L,o,hf,hn,ho,hd⟩,hr⟩:=hl
   have hL:L∈X.fs:=hs L (by unfold frs;rw [List.filterMap_cons,hf];exact List.mem_cons_self)
   obtain ⟨sl,e⟩:=I.base.slot L o ho (I.ok.frf L hL) hL fun z=>I.ok.exfs L z hL
   exact ⟨hk,⟨L,_,hf,hn,e,hd⟩,ih (fun b hb=>hs b (by unfold frs;rw [List.filterMap_cons,hf];exact List.mem_cons_of_mem _ hb)) hr⟩
 exact all X.outer (fun _ hb=>hb) I.ok.funs
theorem Inv.stack (I:Inv X pins σ H s):s.heap.FunFrames X.base X.stack:=by
 rcases I.ok.stk with e | ⟨e,hf⟩
 ·rw [e];exact I.funs
 ·rw [e]
  obtain ⟨m,hn,_⟩:=I.loc
  refine .cons (by rw [I.ok.kind];decide) hf hn ?_ I.funs
  exact Heap.get?_none_of_le (yi I.ok.bsz I.ok.above)
theorem Inv.stkSub (I:Inv X pins σ H s):∀ b∈frs X.stack,b∈X.env.locals::X.fs:=fun b hb=>by
 rcases I.ok.stk with e | ⟨e,hf⟩
 ·rw [e] at hb;exact List.mem_cons_of_mem _ hb
 ·rw [e] at hb
  unfold frs at hb
  rw [List.filterMap_cons,hf] at hb
  exact hb
theorem Inv.stkFree (I:Inv X pins σ H s):∀ b∈frs X.stack,H b=none:=fun b hb=>by
 rcases List.mem_cons.mp (I.stkSub b hb) with e | hb
 ·rw [e];exact I.free
 ·obtain ⟨_,o,ho,_⟩:=I.ok.funs.mem hb
  exact I.base.free b o ho (I.ok.frf b hb) fun z=>I.ok.exfs b z hb
theorem Inv.step {g':Array GenState} {t':Nat} {d':Drawn} {ch:List Addr} (I:Inv X pins σ H s)
  (hch:∀ b∈ch,(b∈X.ex∨X.s₀.heap.objs.size≤b)∧b≠X.env.locals∧(∀ x c,X.env.cells.lookup x=some c→c≠b)∧∀ p∈X.pn++pins,p.1≠b)
  (keep:∀ b o,b≠X.env.locals→b∉X.fs→b∉ch→s.heap.get? b=some o→H b=none→h'.get? b=some o)
  (slot:∀ b o,b≠X.env.locals→b∈X.fs→b∉ch→s.heap.get? b=some o→H b=none→∃ sl,h'.get? b=some { o with slots:=sl }) (free:∀ b o,b∉ch→s.heap.get? b=some o→H b=none→H' b=none)
  (there:∀ b o,b∉ch→s.heap.get? b=some o→∃ o',h'.get? b=some o')
  (tups:∀ b xs,H b=some (.tup xs)→H' b=some (.tup xs)) (frzs:∀ b o u,H b=some (.frz o u)→H' b=some (.frz o u)) (tbls:∀ b ps,H b=some (.tbl ps)→∃ more,H' b=some (.tbl (ps++more)))
  (ns:∀ m,s.heap.Ns X.env.locals m→h'.Ns X.env.locals m) (hok:HOk X.prog X.w H' h') (hg:AllBare g') :
  Inv X pins σ H' { s with heap:=h',gens:=g',drawn:=d',toks:=t' }:=by
 have neL:∀ b o,X.s₀.heap.get? b=some o→b≠X.env.locals:=fun b o e=>Nat.ne_of_lt (yj (Heap.lt_size e) I.ok.above)
 have neC:∀ b o,X.s₀.heap.get? b=some o→b∉X.ex→b∉ch:=fun b o e hx hb=>by
  rcases (hch b hb).1 with z | z
  ·exact hx z
  ·exact absurd (yj (Heap.lt_size e) z) (Nat.lt_irrefl _)
 have cellK:∀ x c,X.env.cells.lookup x=some c→∀ v,s.heap.IsCell c v→h'.IsCell c v:=fun x c e v ⟨o,ho,hd⟩=>by
  have nch:c∉ch:=fun z=>(hch c z).2.2.1 x c e rfl
  by_cases hc:c∈X.fs
  ·obtain ⟨sl,q⟩:=slot c o (I.cne x c e) hc nch ho (I.freeC x c e)
   exact ⟨_,q,hd⟩
  ·exact ⟨o,keep c o (I.cne x c e) hc nch ho (I.freeC x c e),hd⟩
 refine ⟨I.ok,I.os,hg,⟨fun b o e n hb hx=>?_,fun b o e n hb hx=>?_,fun b o e n hx=>?_,fun b o e hx=>?_,fun b xs e=>tups b xs (I.base.tups b xs e),fun b o xs e=>frzs b o xs (I.base.frzs b o xs e),fun b ps e=>?_⟩,?_,fun x c e=>?_,?_,fun x c e=>?_,fun p hp=>?_,hok,I.len⟩
 ·exact keep b o (neL b o e) hb (neC b o e hx) (I.base.keep b o e n hb hx) (I.base.free b o e n hx)
 ·obtain ⟨sl,e1⟩:=I.base.slot b o e n hb hx
  obtain ⟨sl',e2⟩:=slot b _ (neL b o e) hb (neC b o e hx) e1 (I.base.free b o e n hx)
  exact ⟨sl',e2⟩
 ·obtain ⟨o',e1⟩:=I.base.there b o e hx
  exact free b o' (neC b o e hx) e1 (I.base.free b o e n hx)
 ·obtain ⟨o',e1⟩:=I.base.there b o e hx
  exact there b o' (neC b o e hx) e1
 ·obtain ⟨m1,e1⟩:=I.base.tbls b ps e
  obtain ⟨m2,e2⟩:=tbls b _ e1
  exact ⟨m1++m2,by rw [e2,Array.append_assoc]⟩
 ·obtain ⟨m,hn,hl⟩:=I.loc
  refine ⟨m,ns m hn,fun i x v e1 e2 e3=>?_⟩
  obtain ⟨u,r,l⟩:=hl i x v e1 e2 e3
  refine ⟨u,r,?_⟩
  rcases l with l | ⟨k,c,e,z⟩
  ·exact .inl l
  ·exact .inr ⟨k,c,e,cellK x c e _ z⟩
 ·obtain ⟨v,z⟩:=I.cell x c e
  exact ⟨v,cellK x c e v z⟩
 ·obtain ⟨m,⟨o,_,_,ho,_⟩,_⟩:=I.loc
  exact free _ o (fun z=>(hch _ z).2.1 rfl) ho I.free
 ·obtain ⟨v,o,ho,hd⟩:=I.cell x c e
  exact free c o (fun z=>(hch c z).2.2.1 x c e rfl) ho (I.freeC x c e)
 ·obtain ⟨e,n,ne,nf,d⟩:=I.pin p hp
  have nch:p.1∉ch:=fun z=>(hch p.1 z).2.2.2 p hp rfl
  exact ⟨keep p.1 p.2 ne nf nch e n,free p.1 p.2 nch e n,ne,nf,d⟩
theorem Inv.un {t':Nat} (I:Inv X pins σ H s) (u:Un X.fs [] H H' s.heap h') (hok:HOk X.prog X.w H' h'):Inv X pins σ H' { s with heap:=h',toks:=t' }:=by
 obtain ⟨m,⟨o,es,ep,ho,r⟩,_⟩:=id I.loc
 obtain ⟨sl,hL⟩:=u.any ho I.free (by simp)
 exact I.step (g':=s.gens) (d':=s.drawn) (ch:=[]) (fun _ z=>nomatch z) (fun b o _ hb _ e n=>u.keep b o e n hb (by simp)) (fun b o _ hb _ e n=>u.slot b o e n hb (by simp)) (fun b o _ e n=>u.free b o e n (by simp)) (fun b o _ e=>u.there b o e (by simp)) u.tups u.frzs u.tbls (fun m' hm=>by
  obtain ⟨o',es',ep',ho',r'⟩:=hm
  rw [ho] at ho';cases ho'
  exact ⟨_,es',ep',hL,r'⟩) hok I.bare
theorem Inv.call {g':Array GenState} {t':Nat} {d':Drawn} {ch:List Addr} (I:Inv X pins σ H s) (u:Un (frs X.stack) ch H H' s.heap h') (hok:HOk X.prog X.w H' h') (hg:AllBare g')
  (hch:∀ b∈ch,(b∈X.ex∨X.s₀.heap.objs.size≤b)∧b≠X.env.locals∧(∀ x c,X.env.cells.lookup x=some c→c≠b)∧∀ p∈X.pn++pins,p.1≠b) :
  Inv X pins σ H' { s with heap:=h',gens:=g',drawn:=d',toks:=t' }:=by
 obtain ⟨m,⟨o,es,ep,ho,r⟩,_⟩:=id I.loc
 obtain ⟨sl,hL⟩:=u.any ho I.free fun z=>(hch _ z).2.1 rfl
 exact I.step (ch:=ch) hch (fun b o hL hb hc e n=>u.keep b o e n (fun z=>(List.mem_cons.mp (I.stkSub b z)).elim hL hb) hc) (fun b o _ _ hc e n=>u.any e n hc) (fun b o hc e n=>u.free b o e n hc) (fun b o hc e=>u.there b o e hc) u.tups u.frzs u.tbls (fun m' hm=>by
  obtain ⟨o',es',ep',ho',r'⟩:=hm
  rw [ho] at ho';cases ho'
  exact ⟨_,es',ep',hL,r'⟩) hok hg
theorem Inv.turned {t':Nat} {it:Addr} (I:Inv X pins σ H s) (k:∀ b o,b≠it→s.heap.get? b=some o→h'.get? b=some o) (hn:H it=none) (hL:it≠X.env.locals)
  (h1:it∈X.ex∨X.s₀.heap.objs.size≤it) (h2:∀ x c,X.env.cells.lookup x=some c→c≠it) (h3:∀ p∈X.pn++pins,p.1≠it):Inv X pins σ H { s with heap:=h',toks:=t' }:=by
 have nit:∀ b u,H b=some u→b≠it:=fun b u e z=>by rw [z,hn] at e;cases e
 refine I.step (g':=s.gens) (d':=s.drawn) (ch:=[it]) (fun b hb=>?_) (fun b o _ _ hc e _=>k b o (fun z=>hc (by simp [z])) e) (fun b o _ _ hc e _=>⟨o.slots,k b o (fun z=>hc (by simp [z])) e⟩) (fun _ _ _ _ n=>n)
  (fun b o hc e=>⟨o,k b o (fun z=>hc (by simp [z])) e⟩) (fun _ _ e=>e) (fun _ _ _ e=>e) (fun b ps e=>⟨#[],by rw [e];simp⟩) (fun m hm=>?_) (fun b u e=>?_) I.bare
 ·have e:b=it:=by simpa using hb
  subst e
  exact ⟨h1,hL,h2,h3⟩
 ·obtain ⟨o,es,ep,ho,r⟩:=hm
  exact ⟨o,es,ep,k _ o (Ne.symm hL) ho,r⟩
 ·refine (I.hok b u e).stay (fun c v hc q=>k c v ?_ q) (fun _ q=>q) fun _ _ q=>q
  rcases hc with z | z
  ·rw [z];exact nit b u e
  ·exact nit c _ z
theorem Inv.tok (I:Inv X pins σ H s) (t:Nat):Inv X pins σ H { s with toks:=t }:=I.un (h':=s.heap) (t':=t) Un.refl I.hok
theorem Inv.kept {t':Nat} (I:Inv X pins σ H s) (k:∀ b u,s.heap.get? b=some u→h'.get? b=some u):Inv X pins σ H { s with heap:=h',toks:=t' }:=I.un (Un.kept k) (I.hok.kept k)
theorem Inv.laid {a:Addr} {o:HO} {t':Nat} (I:Inv X pins σ H s) (k:∀ b u,s.heap.get? b=some u→h'.get? b=some u) (hp:s.heap.objs.size≤a) (new:ObjOk X.prog X.w (upd H a o) h' a o) :
  Inv X pins σ (upd H a o) { s with heap:=h',toks:=t' }:=I.un (Un.laid k hp (I.hok.fresh hp)) (I.hok.laid k hp new)
theorem Inv.write {x e:Addr} {o:HO} {t':Nat} (I:Inv X pins σ H s) (mu:Mut (H x)) (he:e=x∨H e=some (.own x)) (k:∀ b u,b≠e→s.heap.get? b=some u→h'.get? b=some u) (heo:∃ u,h'.get? e=some u)
  (new:ObjOk X.prog X.w (upd H x o) h' x o):Inv X pins σ (upd H x o) { s with heap:=h',toks:=t' }:=I.un (Un.write mu he k heo) (I.hok.write mu he k heo new)
theorem Inv.weak {σ':List (Option V)} (I:Inv X pins σ H s) (hl:σ'.length=σ.length) (w:∀ (i:Nat) v,σ'[i]?=some (some v)→σ[i]?=some (some v)):Inv X pins σ' H s:=
 ⟨I.ok,I.os,I.bare,I.base,let ⟨m,hn,hl'⟩:=I.loc;⟨m,hn,fun i x v e1 e2 e3=>hl' i x v e1 (w i v e2) e3⟩,I.cell,I.free,I.freeC,I.pin,I.hok,hl.trans I.len⟩
theorem Inv.pins_of {pins':List (Addr×Obj)} (I:Inv X pins σ H s) (h:∀ p∈pins',s.heap.get? p.1=some p.2∧H p.1=none∧p.1≠X.env.locals∧p.1∉X.fs∧∀ v,p.2.data≠.cell v):Inv X pins' σ H s:=
 ⟨I.ok,I.os,I.bare,I.base,I.loc,I.cell,I.free,I.freeC,fun p hp=>(List.mem_append.mp hp).elim (fun z=>I.pin p (List.mem_append_left _ z)) (h p),I.hok,I.len⟩
theorem qcy {N:List Str} (hN:N.Nodup) {i j:Nat} {x:Str} (a:N[i]?=some x) (b:N[j]?=some x):i=j:=by
 obtain ⟨h1,e1⟩:=yc.mp a
 obtain ⟨h2,e2⟩:=yc.mp b
 exact (List.getElem_inj hN).mp (e1.trans e2.symm)
theorem qbF {M:Model} {A:Around} {E:Value→Shared→Prop} {i:Nat} {x:Str} {v:V} {u:Value} {Q:Unit→Shared→Prop} (I:Inv X pins σ H s) (hN:X.N.Nodup) (hi:X.N[i]?=some x) (hx:Loc X.env.scope x) (r:RelV v u)
  (h:∀ s',Inv X pins (σ.set i (some v)) H s'→(∃ a,Heap.SameBut a s.heap s'.heap∧(a=X.env.locals∨X.env.cells.lookup x=some a))→Q () s') (hf:X.fn x=true∨X.env.scope.names.lookup x=some .local:=by first | exact .inl rfl | exact .inr rfl | assumption):wpAny M A (storeName X.env x u) Q E s:=by
 obtain ⟨m,hn,hl⟩:=id I.loc
 have hcls:(X.env.scope.kind==.class||(X.env.scope.kind==.module&&X.env.locals != X.env.globals))=false:=by rw [I.ok.kind];rfl
 have hiσ:i < σ.length:=by rw [I.len];exact (yc.mp hi).1
 have cne:=I.cne
 have tracked:∀ {a:Addr} {h':Heap},(∃ o,s.heap.get? a=some o∧H a=none)→Heap.SameBut a s.heap h'→HOk X.prog X.w H h':=fun {a h'} ha hs b ob e=>by
  obtain ⟨_,_,hfree⟩:=ha
  refine (I.hok b ob e).stay (fun c w' hc q=>(hs.2 c ?_).trans q) (fun _ q=>q) fun _ _ q=>q
  rintro rfl
  rcases hc with rfl | hc
  ·rw [hfree] at e;cases e
  ·rw [hfree] at hc;cases hc
 rcases hx with hk | hk
 ·refine wpAny_storeName_local hk hn (fun h' hn' hs=>?_) hcls
  obtain ⟨oL,_,_,hoL,_⟩:=id hn
  refine h _ ⟨I.ok,I.os,I.bare,⟨fun b o e n hb hx=>?_,fun b o e n hb hx=>?_,I.base.free,fun b o e hx=>?_,I.base.tups,I.base.frzs,I.base.tbls⟩,⟨_,hn',fun j y v' e1 e2 e3=>?_⟩,fun y c e=>?_,I.free,I.freeC,fun p hp=>?_,tracked ⟨oL,hoL,I.free⟩ hs,by simpa using I.len⟩ ⟨_,hs,.inl rfl⟩
  ·exact (hs.2 b (Nat.ne_of_lt (yj (Heap.lt_size e) I.ok.above))).trans (I.base.keep b o e n hb hx)
  ·obtain ⟨sl,e1⟩:=I.base.slot b o e n hb hx
   exact ⟨sl,(hs.2 b (Nat.ne_of_lt (yj (Heap.lt_size e) I.ok.above))).trans e1⟩
  ·obtain ⟨o',e1⟩:=I.base.there b o e hx
   exact ⟨o',(hs.2 b (Nat.ne_of_lt (yj (Heap.lt_size e) I.ok.above))).trans e1⟩
  ·by_cases hj:j=i
   ·subst hj
    rw [hi] at e1;cases e1
    rw [List.getElem?_set_self hiσ] at e2
    cases e2
    exact ⟨u,r,.inl ⟨hk,by simp⟩⟩
   ·rw [List.getElem?_set_ne (Ne.symm hj)] at e2
    obtain ⟨u',r',q⟩:=hl j y v' e1 e2 e3
    refine ⟨u',r',?_⟩
    rcases q with ⟨k,e⟩ | ⟨k,c,e,z⟩
    ·refine .inl ⟨k,?_⟩
     have:y≠x:=fun e=>hj (qcy hN e1 (e ▸ hi))
     simp [this,e]
    ·exact .inr ⟨k,c,e,z.sameBut hs (cne y c e)⟩
  ·obtain ⟨w',z⟩:=I.cell y c e
   exact ⟨w',z.sameBut hs (cne y c e)⟩
  ·obtain ⟨e,n,ne,nf,d⟩:=I.pin p hp
   exact ⟨(hs.2 p.1 ne).trans e,n,ne,nf,d⟩
 ·have hfn:X.fn x=true:=by
   rcases hf with z | z
   ·exact z
   ·rw [z] at hk;cases hk
  obtain ⟨c,hc⟩:=I.ok.has x (.inl hk)
  obtain ⟨w',z⟩:=I.cell x c hc
  refine wpAny_storeName_cell I.ok.kind hk hc z (fun h' hc' hs=>?_)
  obtain ⟨oc,hoc,hocd⟩:=id z
  refine h { s with heap:=h' } ⟨I.ok,I.os,I.bare,⟨fun b o e n hb hx=>?_,fun b o e n hb hx=>?_,I.base.free,fun b o e hx=>?_,I.base.tups,I.base.frzs,I.base.tbls⟩,⟨m,hn.sameBut hs (Ne.symm (cne x c hc)),fun j y v' e1 e2 e3=>?_⟩,fun y c' e=>?_,I.free,I.freeC,fun p hp=>?_,tracked ⟨oc,hoc,I.freeC x c hc⟩ hs,by simpa using I.len⟩ ⟨c,hs,.inr hc⟩
  ·exact (hs.2 b (Nat.ne_of_lt (yj (Heap.lt_size e) (I.ok.cab x c hfn hc)))).trans (I.base.keep b o e n hb hx)
  ·obtain ⟨sl,e1⟩:=I.base.slot b o e n hb hx
   exact ⟨sl,(hs.2 b (Nat.ne_of_lt (yj (Heap.lt_size e) (I.ok.cab x c hfn hc)))).trans e1⟩
  ·obtain ⟨o',e1⟩:=I.base.there b o e hx
   exact ⟨o',(hs.2 b (Nat.ne_of_lt (yj (Heap.lt_size e) (I.ok.cab x c hfn hc)))).trans e1⟩
  ·by_cases hj:j=i
   ·subst hj
    rw [hi] at e1;cases e1
    rw [List.getElem?_set_self hiσ] at e2
    cases e2
    exact ⟨u,r,.inr ⟨.inl hk,c,hc,hc'⟩⟩
   ·rw [List.getElem?_set_ne (Ne.symm hj)] at e2
    obtain ⟨u',r',q⟩:=hl j y v' e1 e2 e3
    refine ⟨u',r',?_⟩
    rcases q with q | ⟨k,c',e,z'⟩
    ·exact .inl q
    ·refine .inr ⟨k,c',e,z'.sameBut hs ?_⟩
     rintro rfl
     exact hj (qcy hN e1 (I.ok.inj _ _ _ e hc ▸ hi))
  ·by_cases hcc:c'=c
   ·subst hcc;exact ⟨_,hc'⟩
   ·obtain ⟨w2,z2⟩:=I.cell y c' e
    exact ⟨w2,z2.sameBut hs hcc⟩
  ·obtain ⟨e,n,ne,nf,d⟩:=I.pin p hp
   refine ⟨(hs.2 p.1 ?_).trans e,n,ne,nf,d⟩
   intro q
   rw [q,hoc] at e
   have q':oc=p.2:=ym e
   exact d w' (by rw [← q'];exact hocd)
theorem qcz {M:Model} {A:Around} {E:Value→Shared→Prop} {i:Nat} {x:Str} {v:V} {u:Value} {Q:Unit→Shared→Prop} (I:Inv X pins σ H s) (hN:X.N.Nodup) (hi:X.N[i]?=some x) (hx:Loc X.env.scope x) (r:RelV v u)
  (h:∀ s',Inv X pins (σ.set i (some v)) H s'→Q () s') (hf:X.fn x=true∨X.env.scope.names.lookup x=some .local:=by first | exact .inl rfl | exact .inr rfl | assumption):wpAny M A (storeName X.env x u) Q E s:=
 qbF I hN hi hx r (fun s' I' _=>h s' I') hf
theorem Inv.call' {s':Shared} {ch:List Addr} (I:Inv X pins σ H s) (ho:s'.os=s.os) (u:Un (frs X.stack) ch H H' s.heap s'.heap) (hok:HOk X.prog X.w H' s'.heap) (hg:AllBare s'.gens)
  (hch:∀ b∈ch,(b∈X.ex∨X.s₀.heap.objs.size≤b)∧b≠X.env.locals∧(∀ x c,X.env.cells.lookup x=some c→c≠b)∧∀ p∈X.pn++pins,p.1≠b):Inv X pins σ H' s':=by
 obtain ⟨h',g',d',t',o'⟩:=s'
 have e:o'=s.os:=ho
 subst e
 exact I.call (g':=g') (t':=t') (d':=d') u hok hg hch
end
abbrev XK:=Value→Option Addr→Hp→Prop
abbrev St:=List (Option V)
abbrev VK:=V→Hp→Prop
abbrev TE:=St→Hp→VK→Prop
abbrev TT:=St→Hp→(Bool→Hp→Prop)→Prop
abbrev TA:=St→Hp→(List V→Hp→Prop)→Prop
structure Ends where
 nx:St→Hp→Prop
 rt:VK
 bk:St→Hp→Prop:=fun _ _=>False
 ct:St→Hp→Prop:=fun _ _=>False
abbrev TS:=Ends→St→Hp→Prop
def EP (X:Cx) (pins:List (Addr×Obj)) (σ:St) (Q:VK) (u:Value) (s':Shared):Prop:=∃ v H',Inv X pins σ H' s'∧RelV v u∧Q v H'
def TP (X:Cx) (pins:List (Addr×Obj)) (σ:St) (Q:Bool→Hp→Prop) (b:Bool) (s':Shared):Prop:=∃ H',Inv X pins σ H' s'∧Q b H'
def AP (X:Cx) (pins:List (Addr×Obj)) (σ:St) (Q:List V→Hp→Prop) (us:List Value) (s':Shared):Prop:=∃ vs H',Inv X pins σ H' s'∧Vals vs us∧Q vs H'
def SP (X:Cx) (pins:List (Addr×Obj)) (D:Ends) (f:Flow) (s':Shared):Prop:=
 match f with
 | .next=>∃ σ' H',Inv X pins σ' H' s'∧D.nx σ' H'
 | .brk=>∃ σ' H',Inv X pins σ' H' s'∧D.bk σ' H'
 | .cont=>∃ σ' H',Inv X pins σ' H' s'∧D.ct σ' H'
 | .ret u=>∃ v σ' H',Inv X pins σ' H' s'∧RelV v u∧D.rt v H'
def PE (X:Cx) (e:Expr) (t:TE):Prop:=
 ∀ (pins:List (Addr×Obj)) (s:Shared) (σ:St) (H:Hp) (Q:VK),Inv X pins σ H s→t σ H Q→wpAny (model X.prog X.w) X.A (eval e X.env) (EP X pins σ Q) X.xe s
def PT (X:Cx) (e:Expr) (t:TT):Prop:=
 ∀ (pins:List (Addr×Obj)) (s:Shared) (σ:St) (H:Hp) (Q:Bool→Hp→Prop),Inv X pins σ H s→t σ H Q→wpAny (model X.prog X.w) X.A (isTrue e X.env (eval e X.env)) (TP X pins σ Q) X.xe s
def PW (X:Cx) (e:Expr) (t:TT):Prop:=
 ∀ (whole:Sem Value) (pins:List (Addr×Obj)) (s:Shared) (σ:St) (H:Hp) (Q:Bool→Hp→Prop),Inv X pins σ H s→t σ H Q→wpAny (model X.prog X.w) X.A (isTrue e X.env whole) (TP X pins σ Q) X.xe s
theorem PW.pt {X:Cx} {e:Expr} {t:TT} (h:PW X e t):PT X e t:=h _
def PA (X:Cx) (es:List Expr) (t:TA):Prop:=
 ∀ (pos:Pos) (pins:List (Addr×Obj)) (s:Shared) (σ:St) (H:Hp) (Q:List V→Hp→Prop),Inv X pins σ H s→t σ H Q→wpAny (model X.prog X.w) X.A (spliced (backTo pos (starEach es X.env))) (AP X pins σ Q) X.xe s
def PS (X:Cx) (st:Stmt) (t:TS):Prop:=
 ∀ (pins:List (Addr×Obj)) (s:Shared) (σ:St) (H:Hp) (D:Ends),Inv X pins σ H s→t D σ H→wpAny (model X.prog X.w) X.A (exec st X.env) (SP X pins D) X.xe s
def PSs (X:Cx) (st:List Stmt) (t:TS):Prop:=
 ∀ (pins:List (Addr×Obj)) (s:Shared) (σ:St) (H:Hp) (D:Ends),Inv X pins σ H s→t D σ H→wpAny (model X.prog X.w) X.A (execs st X.env) (SP X pins D) X.xe s
theorem thn {α:Type} {t:Sem α} {Q Q':α→Shared→Prop} {M:Model} {A:Around} {E:Value→Shared→Prop} {s:Shared} (h:wpAny M A t Q E s) (hQ:∀ a s,Q a s→Q' a s):wpAny M A t Q' E s:=wpAny_mono h hQ fun _ _ x=>x
section
variable {X:Cx}
def qe9 (i:Nat):TE:=fun σ H Q=>∃ v,σ[i]?=some (some v)∧Q v H
def tC (v:V):TE:=fun _ H Q=>Q v H
theorem pe_var {i:Nat} {x:Str} {pos:Pos} (hN:X.N[i]?=some x) (hv:Vis X.env.scope x) (hd:(x==("__debug__":Str))=false:=by decide) (hcd:(x==("__classdict__":Str))=false:=by decide):PE X (.Name x pos) (qe9 i):=by
 intro pins s σ H Q I h
 obtain ⟨v,e,h⟩:=h
 obtain ⟨m,hn,hl⟩:=I.loc
 obtain ⟨u,r,l⟩:=hl i x v hN e hv
 have fin:EP X pins σ Q u s:=⟨v,H,I,r,h⟩
 rcases l with ⟨hk,hm⟩ | ⟨hk,c,hc,hcell⟩
 ·exact wpAny_Name (wpAny_loadName_local I.ok.kind hk hn hm fin) hd
 ·rcases hk with hk | hk
  ·exact wpAny_Name (wpAny_loadName_cell I.ok.kind hk hc hcell fin) hd
  ·exact wpAny_Name (wpAny_loadName_free I.ok.kind hk hc hcell fin hcd) hd
theorem qi {i j pos}:PE X (.Constant (.int i) j pos) (tC (.int i)):=fun _ _ _ H _ I h=>wpAny_Constant_int ⟨.int i,H,I.tok _,⟨_,rfl⟩,h⟩
theorem j5 {b j pos}:PE X (.Constant (.bool b) j pos) (tC (.bl b)):=fun _ _ _ H _ I h=>Constant_bool ⟨.bl b,H,I,rfl,h⟩
theorem zD {j pos}:PE X (.Constant .none j pos) (tC .non):=fun _ _ _ H _ I h=>Constant_none ⟨.non,H,I,rfl,h⟩
theorem qbd {x j pos}:PE X (.Constant (.str x) j pos) (tC (.str x)):=fun _ _ _ H _ I h=>Calls.Constant_str ⟨.str x,H,I.tok _,⟨_,rfl⟩,h⟩
def Gl (X:Cx) (x:Str):Prop:=X.env.kindOf x=some .globalImplicit
theorem qch {E:Value→Shared→Prop} {pins:List (Addr×Obj)} {s:Shared} {σ:St} {H:Hp} {x:Str} {u:Value} {pos:Pos} {Q:Value→Shared→Prop} (I:Inv X pins σ H s) (hg:Gl X x) (hm:X.mg x=some u) (h:Q u s)
  (hd:(x==("__debug__":Str))=false:=by decide):wpAny (model X.prog X.w) X.A (eval (.Name x pos) X.env) Q E s:=
 Calls.Name_function_global I.ok.kind hg (Calls.loadGlobal_global (by rw [I.ok.glob];exact I.mod.glob.keeps I.bk) hm h) hd
theorem qaR {E:Value→Shared→Prop} {pins:List (Addr×Obj)} {s:Shared} {σ:St} {H:Hp} {x:Str} {u:Value} {pos:Pos} {Q:Value→Shared→Prop} (I:Inv X pins σ H s) (hg:Gl X x) (hm:X.mg x=none) (hv:bootBuiltins x=some u) (h:Q u s)
  (hn:x≠"__name__":=by decide) (hd:(x==("__debug__":Str))=false:=by decide):wpAny (model X.prog X.w) X.A (eval (.Name x pos) X.env) Q E s:=by
 obtain ⟨mb,h1,h2⟩:=I.mod.blt
 exact Calls.Name_function_global I.ok.kind hg (Calls.loadGlobal_builtin (by rw [I.ok.glob];exact I.mod.glob.keeps I.bk) hm (by rw [I.ok.blt];exact h1.keeps I.bk) ((h2 x hn).trans hv) h) hd
theorem pe_glob {x:Str} {v:V} {u:Value} {pos:Pos} (hg:Gl X x) (hm:X.mg x=some u) (r:RelV v u) (hd:(x==("__debug__":Str))=false:=by decide):PE X (.Name x pos) (tC v):=
 fun _ _ _ H _ I h=>qch I hg hm ⟨v,H,I,r,h⟩ hd
theorem zB {x:Str} {v:V} {u:Value} {pos:Pos} (hg:Gl X x) (hm:X.mg x=none) (hv:bootBuiltins x=some u) (r:RelV v u) (hn:x≠"__name__":=by decide) (hd:(x==("__debug__":Str))=false:=by decide):PE X (.Name x pos) (tC v):=
 fun _ _ _ H _ I h=>qaR I hg hm hv ⟨v,H,I,r,h⟩ hn hd
variable {a b:Expr} {ta tb:TE} {pos:Pos}
def tB (t:TE):TT:=fun σ H Q=>t σ H fun x H1=>∃ c,x=.bl c∧Q c H1
theorem jg {e:Expr} {t:TE} (h:PE X e t) (he:∀ whole,isTrue e X.env whole=(do let v ← whole;standAt e.pos;holding [v] (truthy v)):=by intro _;rfl):PT X e (tB t):=by
 intro pins s σ H Q I hw
 refine isTrue_plain (thn (h pins s σ H _ I hw) fun v s1 ⟨x,H1,I1,r1,q1⟩=>?_) (he _)
 obtain ⟨d,rfl,q⟩:=q1
 cases r1
 exact wpAny_truthy_bool ⟨H1,I1,q⟩
variable {tA tB':TT} {qcg:List Expr}
def qfl (t u:TT):TT:=fun σ H Q=>t σ H fun c H1=>if c=true then u σ H1 Q else Q false H1
def tOr (t u:TT):TT:=fun σ H Q=>t σ H fun c H1=>if c=true then Q true H1 else u σ H1 Q
def qfm (t:TT):TT:=fun σ H Q=>t σ H fun c H1=>Q (!c) H1
theorem qaS (ha:PT X a tA):PW X (.BoolOp .And [a] pos) tA:=by
 intro wh pins s σ H Q I h
 refine isTrue_and (thn (ha pins s σ H Q I h) fun c s1 e=>?_)
 cases c with
 | true=>exact isTrue_and_nil e
 | false=>exact e
theorem qaq (ha:PT X a tA):PW X (.BoolOp .Or [a] pos) tA:=by
 intro wh pins s σ H Q I h
 refine isTrue_or (thn (ha pins s σ H Q I h) fun c s1 e=>?_)
 cases c with
 | false=>exact isTrue_or_nil e
 | true=>exact e
theorem qbG (ha:PT X a tA) (hb:PW X (.BoolOp .And (b::qcg) pos) tB'):PW X (.BoolOp .And (a::b::qcg) pos) (qfl tA tB'):=by
 intro wh pins s σ H Q I h
 refine isTrue_and (thn (ha pins s σ H _ I h) fun c s1 ⟨H1,I1,q1⟩=>?_)
 cases c with
 | true=>exact hb wh pins s1 σ H1 Q I1 q1
 | false=>exact ⟨H1,I1,q1⟩
theorem qaT (ha:PT X a tA) (hb:PW X (.BoolOp .Or (b::qcg) pos) tB'):PW X (.BoolOp .Or (a::b::qcg) pos) (tOr tA tB'):=by
 intro wh pins s σ H Q I h
 refine isTrue_or (thn (ha pins s σ H _ I h) fun c s1 ⟨H1,I1,q1⟩=>?_)
 cases c with
 | true=>exact ⟨H1,I1,q1⟩
 | false=>exact hb wh pins s1 σ H1 Q I1 q1
theorem js (ha:PT X a tA):PT X (.UnaryOp .Not a pos) (qfm tA):=by
 intro pins s σ H Q I h
 exact isTrue_not (ha pins s σ H (fun c H1=>Q (!c) H1) I h)
def qeA (ta tb:TE):TE:=fun σ H Q=>ta σ H fun x H1=>∃ c,x=.bl c∧if c=true then tb σ H1 Q else Q (.bl false) H1
def qfn (ta tb:TE):TE:=fun σ H Q=>ta σ H fun x H1=>∃ c,x=.bl c∧if c=true then Q (.bl true) H1 else tb σ H1 Q
def tNotV (ta:TE):TE:=fun σ H Q=>ta σ H fun x H1=>∃ c,x=.bl c∧Q (.bl (!c)) H1
theorem qbe {op} {t:TE} (h:PE X a t):PE X (.BoolOp op [a] pos) t:=fun pins s σ H Q I hw=>BoolOp_one (h pins s σ H Q I hw)
theorem qbH (ha:PE X a ta) (hb:PE X (.BoolOp .And (b::qcg) pos) tb):PE X (.BoolOp .And (a::b::qcg) pos) (qeA ta tb):=by
 intro pins s σ H Q I h
 refine BoolOp_and (thn (ha pins s σ H _ I h) fun v s1 ⟨x,H1,I1,r1,q1⟩=>?_)
 obtain ⟨c,rfl,q1⟩:=q1
 cases r1
 refine wpAny_truthy_bool ?_
 cases c with
 | true=>exact hb pins s1 σ H1 Q I1 q1
 | false=>exact ⟨.bl false,H1,I1,rfl,q1⟩
theorem pe_or (ha:PE X a ta) (hb:PE X (.BoolOp .Or (b::qcg) pos) tb):PE X (.BoolOp .Or (a::b::qcg) pos) (qfn ta tb):=by
 intro pins s σ H Q I h
 refine BoolOp_or (thn (ha pins s σ H _ I h) fun v s1 ⟨x,H1,I1,r1,q1⟩=>?_)
 obtain ⟨c,rfl,q1⟩:=q1
 cases r1
 refine wpAny_truthy_bool ?_
 cases c with
 | false=>exact hb pins s1 σ H1 Q I1 q1
 | true=>exact ⟨.bl true,H1,I1,rfl,q1⟩
def tIf (t:TT) (ta tb:TE):TE:=fun σ H Q=>t σ H fun c H1=>if c=true then ta σ H1 Q else tb σ H1 Q
theorem pe_ifExp {c:Expr} (hc:PT X c tA) (ha:PE X a ta) (hb:PE X b tb):PE X (.IfExp c a b pos) (tIf tA ta tb):=by
 intro pins s σ H Q I h
 refine wpAny_IfExp (thn (hc pins s σ H _ I h) fun d s1 ⟨H1,I1,q1⟩=>?_)
 cases d with
 | true=>exact ha pins s1 σ H1 Q I1 q1
 | false=>exact hb pins s1 σ H1 Q I1 q1
end
def SqL (K:yg) (H:Hp) (a:Addr) (xs:List V):Prop:=
 Rd H a (.lst xs) ∨
  ∃ (o:Obj) (its:Array Value) (n:Nat),K.lookup a=some o∧o.cls=.type "list"∧o.dict=none∧o.data=.seq its n∧its.size≤sizeLine∧Vals xs its.toList
def SqT (K:yg) (H:Hp) (a:Addr) (xs:List V):Prop:=
 Rd H a (.tup xs) ∨
  ∃ (o:Obj) (its:Array Value) (n:Nat),K.lookup a=some o∧o.cls=.type "tuple"∧o.data=.seq its n∧its.size≤sizeLine∧Vals xs its.toList
def absV:Value→Option V
 | .none=>some .non
 | .bool b=>some (.bl b)
 | .int i _=>some (.int i)
 | .str x _=>some (.str x)
 | .bytes b _=>some (.byt b)
 | .float b _=>some (.flt b)
 | .ref a=>some (.ref a)
 | .type n=>some (.ty n)
 | _=>none
theorem RelV.abs {x:V} {u:Value} (r:RelV x u):absV u=some x:=by
 cases x with
 | non=>cases r;rfl
 | bl _=>cases r;rfl
 | int _=>obtain ⟨t,rfl⟩:=r;rfl
 | str _=>obtain ⟨t,rfl⟩:=r;rfl
 | byt _=>obtain ⟨t,rfl⟩:=r;rfl
 | flt _=>obtain ⟨t,rfl⟩:=r;rfl
 | ref _=>cases r;rfl
 | ty _=>cases r;rfl
theorem RelV.inj {x y:V} {u:Value} (r:RelV x u) (q:RelV y u):x=y:=ym (r.abs.symm.trans q.abs)
theorem Vals.inj:∀ {xs ys:List V} {us:List Value},Vals xs us→Vals ys us→xs=ys
 | _,_,_,.nil,.nil=>rfl
 | _,_,_,.cons r t,.cons r' t'=>by rw [r.inj r',Vals.inj t t']
section
variable {X:Cx} {pins:List (Addr×Obj)} {σ:St} {H:Hp} {s:Shared} {a:Addr} {xs ys:List V}
theorem SqL.of {K:yg} (h:H a=some (.lst xs)):SqL K H a xs:=.inl (.inl h)
theorem SqT.of {K:yg} (h:H a=some (.tup xs)):SqT K H a xs:=.inl (.inl h)
theorem Inv.list (I:Inv X pins σ H s) (h:SqL X.K H a xs):∃ its:List Value,Vals xs its∧PlainL s.heap a its.toArray∧xs.length≤sizeLine:=by
 rcases h with h | ⟨o,its,n,hk,hc,hd,hs,hz,r⟩
 ·obtain ⟨z,its,n,r,e⟩:=h.ok I.hok
  exact ⟨its,r,⟨_,n,e,rfl,rfl,rfl⟩,z⟩
 ·refine ⟨its.toList,r,⟨o,n,I.kIn a o hk,hc,hd,by simpa using hs⟩,?_⟩
  have e:=r.length
  simp only [Array.length_toList] at e
  omega
theorem Inv.tuple (I:Inv X pins σ H s) (h:SqT X.K H a xs):∃ its:List Value,Vals xs its∧IsTup s.heap a its.toArray∧xs.length≤sizeLine:=by
 rcases h with h | ⟨o,its,n,hk,hc,hs,hz,r⟩
 ·obtain ⟨z,its,r,p⟩:=h.ok I.hok
  exact ⟨its,r,p,z⟩
 ·refine ⟨its.toList,r,⟨o,I.kIn a o hk,hc,n,by simpa using hs⟩,?_⟩
  have e:=r.length
  simp only [Array.length_toList] at e
  omega
theorem Inv.list_inj (I:Inv X pins σ H s) (h:SqL X.K H a xs) (h':SqL X.K H a ys):xs=ys:=by
 obtain ⟨its,r,⟨o,n,e,_,_,d⟩,_⟩:=I.list h
 obtain ⟨its',r',⟨o',n',e',_,_,d'⟩,_⟩:=I.list h'
 rw [e] at e';cases e'
 rw [d] at d'
 injection d' with d1 _
 have:its=its':=by simpa using congrArg Array.toList d1
 subst this
 exact r.inj r'
theorem Inv.tuple_inj (I:Inv X pins σ H s) (h:SqT X.K H a xs) (h':SqT X.K H a ys):xs=ys:=by
 obtain ⟨its,r,⟨o,e,_,n,d⟩,_⟩:=I.tuple h
 obtain ⟨its',r',⟨o',e',_,n',d'⟩,_⟩:=I.tuple h'
 rw [e] at e';cases e'
 rw [d] at d'
 injection d' with d1 _
 have:its=its':=by simpa using congrArg Array.toList d1
 subst this
 exact r.inj r'
end
abbrev Cx.wish (X:Cx) (E:Value→Shared→Prop):Cx:={ X with xe:=E }
abbrev Cx.nox (X:Cx):Cx:=X.wish fun _ _=>False
theorem Cx.Ok.wish {X:Cx} (ok:X.Ok) (E:Value→Shared→Prop):(X.wish E).Ok:=
 ⟨ok.mod,ok.kind,ok.glob,ok.blt,ok.above,ok.inj,ok.has,ok.cab,ok.hd,ok.frames,ok.stk,ok.exf,ok.bs,ok.bsz,ok.noex,ok.exfs,ok.funs,ok.frf⟩
theorem Cx.Ok.unwish {X:Cx} {E:Value→Shared→Prop} (ok:(X.wish E).Ok):X.Ok:=
 ⟨ok.mod,ok.kind,ok.glob,ok.blt,ok.above,ok.inj,ok.has,ok.cab,ok.hd,ok.frames,ok.stk,ok.exf,ok.bs,ok.bsz,ok.noex,ok.exfs,ok.funs,ok.frf⟩
section
variable {X:Cx} {pins:List (Addr×Obj)} {σ:St} {H:Hp} {s:Shared} {E:Value→Shared→Prop}
theorem Inv.wish (I:Inv X pins σ H s) (E:Value→Shared→Prop):Inv (X.wish E) pins σ H s:=⟨I.ok.wish E,I.os,I.bare,I.base,I.loc,I.cell,I.free,I.freeC,I.pin,I.hok,I.len⟩
theorem Inv.unwish (I:Inv (X.wish E) pins σ H s):Inv X pins σ H s:=⟨I.ok.unwish,I.os,I.bare,I.base,I.loc,I.cell,I.free,I.freeC,I.pin,I.hok,I.len⟩
theorem SP.unwish {D:Ends} {f:Flow} {s':Shared} (h:SP (X.wish E) pins D f s'):SP X pins D f s':=by
 cases f with
 | next=>obtain ⟨σ',H',I,q⟩:=h;exact ⟨σ',H',I.unwish,q⟩
 | brk=>obtain ⟨σ',H',I,q⟩:=h;exact ⟨σ',H',I.unwish,q⟩
 | cont=>obtain ⟨σ',H',I,q⟩:=h;exact ⟨σ',H',I.unwish,q⟩
 | ret u=>obtain ⟨v,σ',H',I,r,q⟩:=h;exact ⟨v,σ',H',I.unwish,r,q⟩
theorem PSs.nox {st:List Stmt} {t:TS} (h:PSs X.nox st t):PSs X st t:=fun pins s σ H D I hw =>
 wpAny_mono (h pins s σ H D (I.wish _) hw) (fun _ _ q=>q.unwish) fun _ _ z=>False.elim z
end
section
variable {X:Cx} {st:Stmt} {qcg:List Stmt} {t u:TS} {e:Expr} {te:TE} {pos:Pos}
def qeB:TS:=fun D σ H=>D.nx σ H
def qfa (t u:TS):TS:=fun D σ H=>t { D with nx:=u D } σ H
theorem qu:PSs X [] qeB:=fun _ _ σ H _ I h=>wpAny_execs_nil ⟨σ,H,I,h⟩
theorem qc (h1:PS X st t) (h2:PSs X qcg u):PSs X (st::qcg) (qfa t u):=by
 intro pins s σ H D I h
 refine wpAny_execs_cons (thn (h1 pins s σ H { D with nx:=u D } I h) fun f s1 q=>?_)
 cases f with
 | next =>
  obtain ⟨σ',H',I',q⟩:=q
  exact h2 pins s1 σ' H' D I' q
 | ret v=>exact q
 | brk=>exact q
 | cont=>exact q
theorem qf (h1:PS X st t):PSs X [st] t:=by
 intro pins s σ H D I h
 refine wpAny_execs_cons (thn (h1 pins s σ H D I h) fun f s1 q=>?_)
 cases f with
 | next=>exact wpAny_execs_nil q
 | ret v=>exact q
 | brk=>exact q
 | cont=>exact q
theorem Inv.quiet {pins:List (Addr×Obj)} {σ:St} {H:Hp} {s:Shared} (I:Inv X pins σ H s):interactive X.env=false:=by simp [interactive,I.ok.kind]
def qeC (te:TE):TS:=fun D σ H=>te σ H fun _ H1=>D.nx σ H1
theorem jr (he:PE X e te) (hs:swapsWith e none pos.line X.env=pure false:=by rfl):PS X (.Expr e pos) (qeC te):=by
 intro pins s σ H D I h
 exact wpAny_Expr_any (thn (he pins s σ H _ I h) fun v s1 ⟨x,H1,I1,r1,q1⟩=>⟨σ,H1,I1,q1⟩) I.quiet hs
def qfo (te:TE):TS:=fun D σ H=>te σ H D.rt
theorem qm (he:PE X e te):PS X (.Return (some e) pos) (qfo te):=by
 intro pins s σ H D I h
 exact wpAny_Return_some (thn (he pins s σ H _ I h) fun v s1 ⟨x,H1,I1,r1,q1⟩=>⟨x,σ,H1,I1,r1,q1⟩)
def qeD:TS:=fun D _ H=>D.rt .non H
theorem ps_retN:PS X (.Return none pos) qeD:=fun _ _ σ H _ I h=>wpAny_Return_none ⟨.non,σ,H,I,rfl,h⟩
def qfp (c:TT) (t u:TS):TS:=fun D σ H=>c σ H fun b H1=>if b=true then t D σ H1 else u D σ H1
theorem qV {c:Expr} {a b:List Stmt} {tc:TT} (hc:PT X c tc) (ha:PSs X a t) (hb:PSs X b u):PS X (.If c a b pos) (qfp tc t u):=by
 intro pins s σ H D I h
 refine wpAny_If (thn (hc pins s σ H _ I h) fun d s1 ⟨H1,I1,q1⟩=>?_)
 cases d with
 | true=>exact ha pins s1 σ H1 D I1 q1
 | false=>exact hb pins s1 σ H1 D I1 q1
def tNever:TS:=fun _ _ _=>False
theorem jx:PS X st tNever:=fun _ _ _ _ _ _ h=>h.elim
end
abbrev TG:=V→St→Hp→(St→Hp→Prop)→Prop
abbrev TGs:=List V→St→Hp→(St→Hp→Prop)→Prop
def PG (X:Cx) (target:Expr) (t:TG):Prop:=
 ∀ (pins:List (Addr×Obj)) (s:Shared) (σ:St) (H:Hp) (v:V) (u:Value) (Q:St→Hp→Prop),Inv X pins σ H s→RelV v u→t v σ H Q →
  wpAny (model X.prog X.w) X.A (assign target X.env u) (fun _ s'=>∃ σ' H',Inv X pins σ' H' s'∧Q σ' H') X.xe s
def PGs (X:Cx) (ts:List Expr) (t:TGs):Prop:=
 ∀ (pins:List (Addr×Obj)) (s:Shared) (σ:St) (H:Hp) (vs:List V) (us:List Value) (Q:St→Hp→Prop),Inv X pins σ H s→Vals vs us→t vs σ H Q →
  wpAny (model X.prog X.w) X.A (assignInOrder ((assignEach ts X.env).map (·.2)) us) (fun _ s'=>∃ σ' H',Inv X pins σ' H' s'∧Q σ' H') X.xe s
abbrev qeE:=V→V→V→Hp→(Hp→Prop)→Prop
def qfb (X:Cx) (t:qeE):Prop:=
 ∀ (pins:List (Addr×Obj)) (s:Shared) (σ:St) (H:Hp) (o i v:V) (ov iv u:Value) (Q:Hp→Prop),Inv X pins σ H s→RelV o ov→RelV i iv→RelV v u→t o i v H Q →
  wpAny (model X.prog X.w) X.A (setItem ov iv u) (fun _ s'=>∃ H',Inv X pins σ H' s'∧Q H') X.xe s
section
variable {X:Cx} {pos:Pos}
def qbp (i:Nat):TG:=fun v σ H Q=>Q (σ.set i (some v)) H
theorem qq {i:Nat} {x:Str} (hN:X.N.Nodup) (hi:X.N[i]?=some x) (hx:Loc X.env.scope x) (hf:X.fn x=true∨X.env.scope.names.lookup x=some .local:=by first | exact .inl rfl | exact .inr rfl | assumption):PG X (.Name x pos) (qbp i):=by
 intro pins s σ H v u Q I r h
 exact wpAny_assign_Name (qcz I hN hi hx r (fun s' I'=>⟨_,H,I',h⟩) hf)
def qfq:TGs:=fun vs σ H Q=>vs=[]∧Q σ H
def qei (t:TG) (u:TGs):TGs:=fun vs σ H Q=>∃ v r,vs=v::r∧t v σ H fun σ' H'=>u r σ' H' Q
theorem qaU:PGs X [] qfq:=by
 intro pins s σ H vs us Q I r h
 obtain ⟨e,h⟩:=h
 subst e
 cases r
 exact assignInOrder_nil ⟨σ,H,I,h⟩
theorem jZ {e:Expr} {es:List Expr} {t:TG} {u:TGs} (h1:PG X e t) (h2:PGs X es u)
  (hs:(assignEach (e::es) X.env).map (·.2)=assign e X.env::(assignEach es X.env).map (·.2):=by rfl):PGs X (e::es) (qei t u):=by
 intro pins s σ H vs us Q I r h
 obtain ⟨v,vr,e1,h⟩:=h
 subst e1
 cases r with
 | cons r rr =>
  rw [hs]
  refine assignInOrder_cons (thn (h1 pins s σ H _ _ _ I r h) fun _ s1 ⟨σ1,H1,I1,q1⟩=>?_)
  exact h2 pins s1 σ1 H1 _ _ Q I1 rr q1
def qeZ (K:yg) (n:Nat) (t:TGs):TG:=fun v σ H Q=>∃ a xs,v=.ref a∧SqT K H a xs∧xs.length=n∧t xs σ H Q
theorem qbI {es:List Expr} {k:Nat} {t:TGs} {n:Nat} (hc:X.calm=true) (h:PGs X es t)
  (hn:(assignEach es X.env).length=n:=by rfl) (hst:(assignEach es X.env).findIdx? (·.1)=none:=by rfl):PG X (.Tuple es k pos) (qeZ X.K n t):=by
 intro pins s σ H v u Q I r hw
 obtain ⟨a,xs,e1,hq,hl,hw⟩:=hw
 subst e1
 cases r
 obtain ⟨its,rv,ht,hz⟩:=I.tuple hq
 refine assign_Tuple_tuple (I.ok.hd hc) ht (by simp [hn,← hl,rv.length]) hst fun h' hx=>?_
 have I1:Inv X pins σ H { s with heap:=h' }:=I.kept (t':=s.toks) fun b o e=>hx b o (Nat.ne_of_lt (Heap.lt_size e)) e
 exact h pins _ σ H xs _ Q I1 (by simpa using rv) hw
def qfr (to ti:TE) (t:qeE):TG:=fun v σ H Q=>to σ H fun o H1=>ti σ H1 fun i H2=>t o i v H2 fun H3=>Q σ H3
theorem zi {o i:Expr} {to ti:TE} {t:qeE} (ho:PE X o to) (hi:PE X i ti) (hs:qfb X t)
  (ha:∀ v,assign (.Subscript o i pos) X.env v=(do
   let ov ← holding [v] (eval o X.env)
   let iv ← holding [v,ov] (eval i X.env)
   standAt pos
   holding [v,ov,iv] (setItem ov iv v)
   release [v,ov,iv] []):=by intro _;rfl):PG X (.Subscript o i pos) (qfr to ti t):=by
 intro pins s σ H v u Q I r h
 rw [ha]
 refine wpAny_bind (wpAny_holding (thn (ho pins s σ H _ I h) fun ov s1 ⟨x,H1,I1,r1,q1⟩=>?_))
 refine wpAny_bind (wpAny_holding (thn (hi pins s1 σ H1 _ I1 q1) fun iv s2 ⟨y,H2,I2,r2,q2⟩=>?_))
 refine wpAny_bind (wpAny_standAt (wpAny_bind (wpAny_holding (thn (hs pins s2 σ H2 x y v ov iv u _ I2 r1 r2 r q2) fun _ s3 ⟨H3,I3,q3⟩=>?_))))
 exact wpAny_release ⟨σ,H3,I3,q3⟩
def qew (te:TE) (g:TG):TS:=fun D σ H=>te σ H fun x H1=>g x σ H1 D.nx
theorem j7 {tg e:Expr} {te:TE} {g:TG} (he:PE X e te) (hg:PG X tg g) (hs:swapsWithSole [tg] e pos.line X.env=pure false:=by rfl) (hw:swappedStores [tg] e X.env=pure none:=by rfl)
  (h1:(assignEach [tg] X.env).map (·.2)=[assign tg X.env]:=by rfl):PS X (.Assign [tg] e pos) (qew te g):=by
 intro pins s σ H D I h
 refine wpAny_Assign_stores (thn (he pins s σ H _ I h) fun v s1 ⟨x,H1,I1,r1,q1⟩=>?_) hs hw
 rw [h1]
 exact thn (hg pins s1 σ H1 x v _ I1 r1 q1) fun _ s2 q=>q
theorem qr {i:Nat} {x:Str} {e:Expr} {te:TE} {pos':Pos} (hN:X.N.Nodup) (hi:X.N[i]?=some x) (hx:Loc X.env.scope x) (he:PE X e te) (hs:swapsWith e (some (.Name x pos')) pos.line X.env=pure false:=by rfl) (hf:X.fn x=true∨X.env.scope.names.lookup x=some .local:=by first | exact .inl rfl | exact .inr rfl | assumption) :
  PS X (.Assign [.Name x pos'] e pos) (qew te (qbp i)):=by
 intro pins s σ H D I h
 refine wpAny_Assign_Name (thn (he pins s σ H _ I h) fun v s1 ⟨y,H1,I1,r1,q1⟩=>?_) hs
 exact qcz I1 hN hi hx r1 (fun s2 I2=>⟨_,H1,I2,q1⟩) hf
end
section
variable {X:Cx} {pos:Pos}
def tWhile (c:TT) (tb:TS):TS:=fun D σ H=>∃ W:Nat→St→Hp→Prop,(∃ m,W m σ H)∧∀ m σ H,W m σ H →
 c σ H fun b H1=>if b=true then ∃ N:St→Hp→Prop,(∀ σ' H',N σ' H'→∃ m',m' < m∧W m' σ' H')∧tb { D with nx:=N,ct:=N,bk:=D.nx } σ H1 else D.nx σ H1
theorem qaL {c:Expr} {body:List Stmt} {tc:TT} {tb:TS} (hp:PassesOwn (model X.prog X.w) X.A X.env X.xe) (hc:PT X c tc) (hb:PSs X body tb):PS X (.While c body [] pos) (tWhile tc tb):=by
 intro pins s σ H D I h
 obtain ⟨W,⟨m0,w0⟩,turn⟩:=h
 refine wpAny_While (codeAny_whileLoop (fun n s'=>∃ σ' H',Inv X pins σ' H' s'∧W n σ' H') ?_ m0 ⟨σ,H,I,w0⟩)
 rintro n s1 ⟨σ1,H1,I1,w1⟩
 refine wpAny_passesOwn hp (thn (hc pins s1 σ1 H1 _ I1 (turn n σ1 H1 w1)) fun b s2 ⟨H2,I2,q2⟩=>?_)
 cases b with
 | true =>
  obtain ⟨N,hN,q2⟩:=q2
  rw [if_pos rfl]
  refine wpAny_passesOwn hp (thn (hb pins s2 σ1 H2 _ I2 q2) fun f s3 q3=>?_)
  cases f with
  | next =>
   obtain ⟨σ3,H3,I3,n3⟩:=q3
   obtain ⟨m',hm,w3⟩:=hN σ3 H3 n3
   exact ⟨m',hm,σ3,H3,I3,w3⟩
  | cont =>
   obtain ⟨σ3,H3,I3,n3⟩:=q3
   obtain ⟨m',hm,w3⟩:=hN σ3 H3 n3
   exact ⟨m',hm,σ3,H3,I3,w3⟩
  | brk=>exact q3
  | ret v=>exact q3
 | false =>
  rw [if_neg Bool.false_ne_true]
  exact wpAny_execs_nil ⟨σ1,H2,I2,q2⟩
end
structure It where
 go:Nat→Hp→Prop
 yld:Nat→Hp→V→Hp→Prop
 stop:Nat→Hp→Prop
def qci (X:Cx) (pins:List (Addr×Obj)) (H:Hp) (b:Addr):Prop:=
 H b=none∧b≠X.env.locals∧b∉X.fs∧(b∈X.ex∨X.s₀.heap.objs.size≤b)∧(∀ x c,X.env.cells.lookup x=some c→c≠b)∧∀ p∈X.pn++pins,p.1≠b
theorem Inv.fpOk {X:Cx} {pins:List (Addr×Obj)} {σ:St} {H H':Hp} {s:Shared} {b:Addr} (I:Inv X pins σ H s) (hb:s.heap.objs.size≤b) (hn:H' b=none):qci X pins H' b:=by
 refine ⟨hn,Nat.ne_of_gt (yj I.lt hb),I.nofs hb,.inr (yi I.sz hb),fun x c e z=>?_,fun p hp z=>?_⟩
 ·obtain ⟨v,q⟩:=I.cell x c e
  exact absurd (yj q.lt (by rw [z];exact hb)) (Nat.lt_irrefl _)
 ·exact absurd (yj (Heap.lt_size (I.pin p hp).1) (by rw [z];exact hb)) (Nat.lt_irrefl _)
structure Turn (P:Program) (w:World) (K:yg) (tg:Expr) (J:It) (fp:List Addr) (it:Addr) (tn:Nat→Heap→Prop):Prop where
 mem:it∈fp
 obj:∀ i h,tn i h→∀ b∈fp,∃ o,h.get? b=some o∧∀ v,o.data≠.cell v
 keep:∀ i h h',tn i h→(∀ b∈fp,∀ o,h.get? b=some o→h'.get? b=some o)→tn i h'
 item:∀ (X:Cx),X.prog=P→X.w=w→X.K=K→X.calm=true→∀ (i:Nat) (pins:List (Addr×Obj)) (s:Shared) (σ:St) (H:Hp) (E:Value→Shared→Prop),Inv X pins σ H s→(∀ b∈fp,qci X pins H b)→tn i s.heap→J.go i H →
  wpAny (model P w) X.A (pyNext (.ref it)) (fun r s1=>∃ u,r=some u ∧
   wpAny (model P w) X.A (letOwnedTupleGo tg (.ref it) u) (fun _ s2=>∃ x H',Inv X pins σ H' s2∧RelV x u∧J.yld i H x H'∧tn (i + 1) s2.heap∧∀ b∈fp,H' b=none) E s1) E s
 done:∀ (X:Cx),X.prog=P→X.w=w→X.K=K→X.calm=true→∀ (i:Nat) (pins:List (Addr×Obj)) (s:Shared) (σ:St) (H:Hp) (E:Value→Shared→Prop),Inv X pins σ H s→(∀ b∈fp,qci X pins H b)→tn i s.heap→J.stop i H →
  wpAny (model P w) X.A (pyNext (.ref it)) (fun r s1=>r=none∧Inv X pins σ H s1) E s
 self:∀ (A:Around) (i:Nat) (s:Shared) (Q:Value→Shared→Prop) (E:Value→Shared→Prop),tn i s.heap→Q (.ref it) s→wpAny (model P w) A (pyIter (.ref it)) Q E s
abbrev TI:=St→Hp→(It→Hp→Prop)→Prop
def PIE (X:Cx) (pins:List (Addr×Obj)) (σ:St) (tg:Expr) (R:It→Hp→Prop) (itv:Value) (s2:Shared):Prop:=
 ∃ (it:Addr) (fp:List Addr) (tn:Nat→Heap→Prop) (J:It) (H':Hp),itv=.ref it∧Inv X pins σ H' s2∧Turn X.prog X.w X.K tg J fp it tn∧tn 0 s2.heap∧(∀ b∈fp,qci X pins H' b)∧R J H'
def PI (X:Cx) (tg iter:Expr) (wi:TI):Prop:=
 ∀ (pins:List (Addr×Obj)) (s:Shared) (σ:St) (H:Hp) (R:It→Hp→Prop),Inv X pins σ H s→wi σ H R →
  wpAny (model X.prog X.w) X.A (eval iter X.env) (fun v s1=>wpAny (model X.prog X.w) X.A (pyIter v) (PIE X pins σ tg R) X.xe s1) X.xe s
theorem qej {M:Model} {A:Around} {E:Value→Shared→Prop} {s:Shared} {tg:Expr} {it:Addr} {u:Value} {o:Obj} {n:String} {vs:Array Value} {Q:Unit→Shared→Prop} (ho:s.heap.get? it=some o) (hc:o.cls=.type n) (hd:o.data=.fields vs)
    (hn:["enumerate", "zip", "dict_itemiterator", "dict_reverseitemiterator", "odict_iterator", "itertools.zip_longest", "itertools.pairwise"].contains n=false) (hQ:Q () s):wpAny M A (letOwnedTupleGo tg (.ref it) u) Q E s:=by
  unfold letOwnedTupleGo
  cases tg<;>first
    | exact wpAny_pure hQ
    | (cases u<;>first
        | exact wpAny_pure hQ
        | (refine wpAny_bind (wpAny_load ho ?_)
           rw [hc,hd]
           show wpAny M A (if (["enumerate", "zip", "dict_itemiterator", "dict_reverseitemiterator", "odict_iterator", "itertools.zip_longest", "itertools.pairwise"].contains n&&vs[0]?==some (rawInt _))=true then _ else _) Q E s
           rw [if_neg (by intro h;rw [hn,Bool.false_and] at h;cases h)]
           exact wpAny_pure hQ))
def Itl (K:yg) (a:Addr):It:=
 ⟨fun i H=>∃ xs x,SqL K H a xs∧xs[i]?=some x,fun i H x H'=>H'=H∧∀ xs,SqL K H a xs→xs[i]?=some x,fun i H=>∃ xs,SqL K H a xs∧xs.length≤i⟩
def Itt (K:yg) (a:Addr):It:=
 ⟨fun i H=>∃ xs x,SqT K H a xs∧xs[i]?=some x,fun i H x H'=>H'=H∧∀ xs,SqT K H a xs→xs[i]?=some x,fun i H=>∃ xs,SqT K H a xs∧xs.length≤i⟩
def Itr (lo:Int) (n:Nat):It:=⟨fun i _=>i < n,fun i H x H'=>H'=H∧x=.int (lo + i),fun i _=>n≤i⟩
theorem qbJ {P:Program} {w:World} {K:yg} {tg:Expr} (a it:Addr):Turn P w K tg (Itl K a) [it] it (fun i h=>h.IsListIter it a i) where
 mem:=by simp
 obj:=fun i h st b hb=>by
  have e:b=it:=by simpa using hb
  subst e
  obtain ⟨o,e,c,d⟩:=st
  exact ⟨o,e,fun v z=>by rw [d] at z;cases z⟩
 keep:=fun i h h' st k=>st.at fun o e=>k it (by simp) o e
 item:=by
  intro X hP hw hK hc i pins s σ H E I hf st hg
  subst hP hw hK
  obtain ⟨xs,x,hq,hx⟩:=hg
  obtain ⟨its,rv,p,hz⟩:=I.list hq
  obtain ⟨u,hu,ru⟩:=rv.get hx
  obtain ⟨f0,f1,f2,f3,f4,f5⟩:=hf it (by simp)
  refine wpAny_pyNext_list_item st p.isList (x:=u) (by simpa using hu) fun h' st' sb=>?_
  have I1:Inv X pins σ H { s with heap:=h' }:=I.turned (t':=s.toks) (fun b o hb e=>(sb.2 b hb).trans e) f0 f1 f3 f4 f5
  obtain ⟨o,e,c,d⟩:=id st'
  exact ⟨u,rfl,qej (s:={ s with heap:=h' }) e c d (by decide) ⟨x,H,I1,ru,⟨rfl,fun ys hy=>by rw [I.list_inj hy hq];exact hx⟩,st',fun b hb=>(hf b hb).1⟩⟩
 done:=by
  intro X hP hw hK hc i pins s σ H E I hf st hg
  subst hP hw hK
  obtain ⟨xs,hq,hx⟩:=hg
  obtain ⟨its,rv,p,hz⟩:=I.list hq
  obtain ⟨f0,f1,f2,f3,f4,f5⟩:=hf it (by simp)
  have hl:=rv.length
  exact wpAny_pyNext_list_end (I.ok.hd hc) st p.isList (by simp;omega) fun h' eb=>⟨rfl,I.turned (t':=s.toks) (fun b o hb e=>eb b o hb e) f0 f1 f3 f4 f5⟩
 self:=fun _ _ _ _ _ st h=>wpAny_pyIter_listiter st h
theorem turn_tuple {P:Program} {w:World} {K:yg} {tg:Expr} (a it:Addr):Turn P w K tg (Itt K a) [it] it (fun i h=>h.IsTupleIter it a i) where
 mem:=by simp
 obj:=fun i h st b hb=>by
  have e:b=it:=by simpa using hb
  subst e
  obtain ⟨o,e,c,d⟩:=st
  exact ⟨o,e,fun v z=>by rw [d] at z;cases z⟩
 keep:=fun i h h' st k=>st.at fun o e=>k it (by simp) o e
 item:=by
  intro X hP hw hK hc i pins s σ H E I hf st hg
  subst hP hw hK
  obtain ⟨xs,x,hq,hx⟩:=hg
  obtain ⟨its,rv,p,hz⟩:=I.tuple hq
  obtain ⟨u,hu,ru⟩:=rv.get hx
  obtain ⟨f0,f1,f2,f3,f4,f5⟩:=hf it (by simp)
  refine wpAny_pyNext_tuple_item st (show s.heap.IsTuple a its.toArray from p) (x:=u) (by simpa using hu) fun h' st' sb=>?_
  have I1:Inv X pins σ H { s with heap:=h' }:=I.turned (t':=s.toks) (fun b o hb e=>(sb.2 b hb).trans e) f0 f1 f3 f4 f5
  obtain ⟨o,e,c,d⟩:=id st'
  exact ⟨u,rfl,qej (s:={ s with heap:=h' }) e c d (by decide) ⟨x,H,I1,ru,⟨rfl,fun ys hy=>by rw [I.tuple_inj hy hq];exact hx⟩,st',fun b hb=>(hf b hb).1⟩⟩
 done:=by
  intro X hP hw hK hc i pins s σ H E I hf st hg
  subst hP hw hK
  obtain ⟨xs,hq,hx⟩:=hg
  obtain ⟨its,rv,p,hz⟩:=I.tuple hq
  obtain ⟨f0,f1,f2,f3,f4,f5⟩:=hf it (by simp)
  have hl:=rv.length
  exact wpAny_pyNext_tuple_end (I.ok.hd hc) st (show s.heap.IsTuple a its.toArray from p) (by simp;omega) fun h' eb=>⟨rfl,I.turned (t':=s.toks) (fun b o hb e=>eb b o hb e) f0 f1 f3 f4 f5⟩
 self:=fun _ _ _ _ _ st h=>wpAny_pyIter_tupleiter st h
theorem turn_range {P:Program} {w:World} {K:yg} {tg:Expr} (it:Addr) (lo:Int) (n:Nat):Turn P w K tg (Itr lo n) [it] it (fun i h=>IsRangeIter h it (lo + (i:Nat) * 1) ((n:Int) - (i:Nat)) 1) where
 mem:=by simp
 obj:=fun i h st b hb=>by
  have e:b=it:=by simpa using hb
  subst e
  exact ⟨_,st,fun v z=>by
   have z':Data.fields _=Data.cell v:=z
   cases z'⟩
 keep:=fun i h h' st k=>k it (by simp) _ st
 item:=by
  intro X hP hw hK hc i pins s σ H E I hf st hg
  subst hP hw hK
  obtain ⟨f0,f1,f2,f3,f4,f5⟩:=hf it (by simp)
  have W:=Walks.range (prog:=X.prog) (w:=X.w) (I.ok.hd hc) it lo 1 n
  refine W.item i s _ _ hg st fun v h' tk hv st' kk=>?_
  obtain ⟨t,rfl⟩:=hv
  have I1:Inv X pins σ H { s with heap:=h',toks:=tk }:=I.turned (fun b o hb e=>kk b o (by simpa using hb) e) f0 f1 f3 f4 f5
  refine ⟨_,rfl,qej (s:={ s with heap:=h',toks:=tk }) (n:="range_iterator") st' rfl rfl (by decide) ⟨.int (lo + i),H,I1,⟨t,?_⟩,⟨rfl,rfl⟩,st',fun b hb=>(hf b hb).1⟩⟩
  rw [Int.mul_one]
 done:=by
  intro X hP hw hK hc i pins s σ H E I hf st hg
  subst hP hw hK
  obtain ⟨f0,f1,f2,f3,f4,f5⟩:=hf it (by simp)
  exact wpAny_pyNext_range_end (I.ok.hd hc) st (by have:n≤i:=hg;omega) fun h' eb=>⟨rfl,I.turned (t':=s.toks) (fun b o hb e=>eb b o hb e) f0 f1 f3 f4 f5⟩
 self:=fun _ _ _ _ _ st h=>wpAny_pyIter_rangeiter st h
section
variable {X:Cx} {tg:Expr}
theorem range_it {pins:List (Addr×Obj)} {σ:St} {H:Hp} {s:Shared} {R:It→Hp→Prop} {E:Value→Shared→Prop} {lo hi:Int} {t u v:Tok} {tk:Nat} (I:Inv X pins σ H s) (h1:-(2 ^ 62)≤lo) (h2:lo < 2 ^ 62) (h3:-(2 ^ 62)≤hi) (h4:hi < 2 ^ 62)
  (q:R (Itr lo (hi - lo).toNat) H):wpAny (model X.prog X.w) X.A (pyIter (.ref s.heap.objs.size)) (PIE X pins σ tg R) E { s with heap:=s.heap.push { cls:=.type "range",data:=.fields #[.int lo t,.int hi u,.int 1 v] },toks:=tk }:=by
 refine wpAny_pyIter_range (IsRange.new ..) (small_one h1 h2 h3 h4) ?_
 have I1:Inv X pins σ H { s with heap:=s.heap.push { cls:=.type "range",data:=.fields #[.int lo t,.int hi u,.int 1 v] },toks:=tk }:=I.kept fun b o e=>Heap.get?_push_of_some _ e
 refine ⟨(s.heap.push { cls:=.type "range",data:=.fields #[.int lo t,.int hi u,.int 1 v] }).objs.size,[(s.heap.push { cls:=.type "range",data:=.fields #[.int lo t,.int hi u,.int 1 v] }).objs.size],_,_,H,rfl,
  I1.kept (t':=tk) fun b o e=>Heap.get?_push_of_some _ e,turn_range _ lo (hi - lo).toNat,?_,fun b hb=>?_,q⟩
 ·have e1:lo + ((0:Nat):Int) * 1=lo:=by simp
  have e2:(((hi - lo).toNat:Nat):Int) - ((0:Nat):Int)=Builtin.Range.rangeSize lo hi 1:=by rw [rangeSize_one];split<;>omega
  show IsRangeIter _ _ (lo + ((0:Nat):Int) * 1) ((((hi - lo).toNat:Nat):Int) - ((0:Nat):Int)) 1
  rw [e1,e2]
  exact Heap.get?_push_size _ rfl
 ·have e:b=(s.heap.push { cls:=.type "range",data:=.fields #[.int lo t,.int hi u,.int 1 v] }).objs.size:=by simpa using hb
  subst e
  exact I1.fpOk (yh _) (I1.hok.fresh (yh _))
def qeF (ta:TA):TI:=fun σ H R=>ta σ H fun vs H1=>∃ j:Int,vs=[.int j]∧-(2 ^ 62)≤j∧j < 2 ^ 62∧R (Itr 0 j.toNat) H1
theorem zj {a:Expr} {ta:TA} {p pos:Pos} (hg:Gl X "range") (hm:X.mg "range"=none) (ha:PA X [a] ta) (hs:starEach [a] X.env=[(false,eval a X.env)]:=by rfl):PI X tg (.Call (.Name "range" p) [a] [] pos) (qeF ta):=by
 intro pins s σ H R I h
 refine Call_ (qaR I hg hm boot_range (PyProof.Rows.callWith_type1 (thn (ha pos pins s σ H _ I h) fun us s1 ⟨vs,H1,I1,r1,q1⟩=>?_) hs rfl))
 obtain ⟨j,e,q1,q2,q⟩:=q1
 subst e
 cases r1 with
 | cons r rr =>
  cases rr
  obtain ⟨t,rfl⟩:=r
  exact call_range_1 (range_it I1 (by omega) (by omega) q1 q2 (by simpa using q))
def qfs (wi:TI) (g:TG) (tb:TS):TS:=fun D σ H=>wi σ H fun J H1=>∃ W:Nat→Nat→St→Hp→Prop,(∃ m,W 0 m σ H1)∧∀ i m σ H,W i m σ H →
 (J.stop i H∧D.nx σ H)∨(J.go i H∧∃ N:St→Hp→Prop,(∀ σ' H',N σ' H'→∃ m',m' < m∧W (i + 1) m' σ' H')∧∀ x H',J.yld i H x H'→g x σ H' fun σ2 H2=>tb { D with nx:=N,ct:=N,bk:=D.nx } σ2 H2)
def qbK (fp:List Addr) (h:Heap):List (Addr×Obj):=fp.filterMap fun b=>(h.get? b).map fun o=>(b,o)
theorem zT {fp:List Addr} {h:Heap} {b:Addr} {o:Obj} (hb:b∈fp) (e:h.get? b=some o):(b,o)∈qbK fp h:=List.mem_filterMap.mpr ⟨b,hb,by rw [e];rfl⟩
theorem of_pinsAt {fp:List Addr} {h:Heap} {p:Addr×Obj} (hp:p∈qbK fp h):p.1∈fp∧h.get? p.1=some p.2:=by
 obtain ⟨b,hb,e⟩:=List.mem_filterMap.mp hp
 cases q:h.get? b with
 | none=>rw [q] at e;cases e
 | some o =>
  rw [q] at e
  have e':(b,o)=p:=ym e
  subst e'
  exact ⟨hb,q⟩
theorem Inv.pinned {pins:List (Addr×Obj)} {σ:St} {H:Hp} {s:Shared} {fp:List Addr} (I:Inv X pins σ H s) (hf:∀ b∈fp,qci X pins H b) (ho:∀ b∈fp,∃ o,s.heap.get? b=some o∧∀ v,o.data≠.cell v):Inv X (pins++qbK fp s.heap) σ H s:=
 I.pins_of fun p hp=>(List.mem_append.mp hp).elim (fun z=>I.pin p (List.mem_append_right _ z)) fun z=>by
  obtain ⟨hb,e⟩:=of_pinsAt z
  obtain ⟨f0,f1,f2,_⟩:=hf p.1 hb
  obtain ⟨o,e',d⟩:=ho p.1 hb
  rw [e] at e';cases e'
  exact ⟨e,f0,f1,f2,d⟩
theorem Inv.unpinned {pins pl:List (Addr×Obj)} {σ:St} {H:Hp} {s:Shared} (I:Inv X (pins++pl) σ H s):Inv X pins σ H s:=I.pins_of fun p hp=>I.pin p (List.mem_append_right _ (List.mem_append_left _ hp))
theorem jL {iter:Expr} {body:List Stmt} {wi:TI} {g:TG} {tb:TS} {pos:Pos} (hp:PassesOwn (model X.prog X.w) X.A X.env X.xe) (hc:X.calm=true) (hi:PI X tg iter wi) (hg:PG X tg g) (hb:PSs X body tb)
  (hs:∀ x,foldedSetIterable iter X.env x=pure x:=by intro _;rfl):PS X (.For tg iter body [] pos) (qfs wi g tb):=by
 intro pins s σ H D I h
 refine wpAny_For (thn (hi pins s σ H _ I h) fun v s1 h1=>thn h1 fun itv s2 h2=>?_) hs
 obtain ⟨it,fp,tn,J,H2,e,I2,T,st2,f2,W,⟨m0,w0⟩,turn⟩:=h2
 subst e
 have stat:∀ {H':Hp},(∀ b∈fp,H' b=none)→∀ b∈fp,qci X pins H' b:=fun hn b hb=>⟨hn b hb,(f2 b hb).2⟩
 refine codeAny_forLoop_any (fun n s'=>∃ i σ' H',Inv X pins σ' H' s'∧tn i s'.heap∧(∀ b∈fp,H' b=none)∧W i n σ' H') ?_ m0 ⟨0,σ,H2,I2,st2,fun b hb=>(f2 b hb).1,w0⟩
 rintro n s3 ⟨i,σ3,H3,I3,st3,fr3,w3⟩
 rcases turn i n σ3 H3 w3 with ⟨stop,qn⟩ | ⟨go,N,hN,step⟩
 ·refine wpAny_passesOwn hp (thn (T.done X rfl rfl rfl hc i pins s3 σ3 H3 X.xe I3 (stat fr3) st3 stop) fun r s4 ⟨hr,I4⟩=>?_)
  subst hr
  exact wpAny_execs_nil ⟨σ3,H3,I4,qn⟩
 ·refine wpAny_passesOwn hp (thn (T.item X rfl rfl rfl hc i pins s3 σ3 H3 X.xe I3 (stat fr3) st3 go) fun r s4 ⟨u,hr,h4⟩=>?_)
  subst hr
  refine wpAny_passesOwn hp (thn h4 fun _ s5 ⟨x,H5,I5,r5,y5,st5,fr5⟩=>?_)
  have I5':=I5.pinned (stat fr5) (T.obj _ _ st5)
  refine wpAny_passesOwn hp (thn (hg _ s5 σ3 H5 x u _ I5' r5 (step x H5 y5)) fun _ s6 ⟨σ6,H6,I6,q6⟩=>?_)
  refine wpAny_passesOwn hp (thn (hb _ s6 σ6 H6 _ I6 q6) fun f s7 q7=>?_)
  have again:∀ {σ7:St} {H7:Hp},Inv X (pins++qbK fp s5.heap) σ7 H7 s7→N σ7 H7→∃ m,m < n∧∃ i σ' H',Inv X pins σ' H' s7∧tn i s7.heap∧(∀ b∈fp,H' b=none)∧W i m σ' H':=fun {σ7 H7} I7 n7=>by
   obtain ⟨m',hm,w7⟩:=hN σ7 H7 n7
   refine ⟨m',hm,i + 1,σ7,H7,I7.unpinned,T.keep _ _ _ st5 fun b hb o e=>(I7.pin (b,o) (List.mem_append_right _ (List.mem_append_right _ (zT hb e)))).1,fun b hb=>?_,w7⟩
   obtain ⟨o,e,d⟩:=T.obj _ _ st5 b hb
   exact (I7.pin (b,o) (List.mem_append_right _ (List.mem_append_right _ (zT hb e)))).2.1
  cases f with
  | next=>obtain ⟨σ7,H7,I7,n7⟩:=q7;exact again I7 n7
  | cont=>obtain ⟨σ7,H7,I7,n7⟩:=q7;exact again I7 n7
  | brk=>obtain ⟨σ7,H7,I7,q7⟩:=q7;exact ⟨σ7,H7,I7.unpinned,q7⟩
  | ret v=>obtain ⟨x7,σ7,H7,I7,r7,q7⟩:=q7;exact ⟨x7,σ7,H7,I7.unpinned,r7,q7⟩
end
theorem jf {K:yg} {a:Addr} {xs:List V} {g:TG} {tb:TS} {D:Ends} {σ:St} {H:Hp} (Pv:Nat→St→Hp→Prop) (h0:Pv 0 σ H) (hl:∀ i σ H,i≤xs.length→Pv i σ H→SqL K H a xs)
  (hs:∀ i x σ H,xs[i]?=some x→Pv i σ H→g x σ H fun σ2 H2=>tb { D with nx:=Pv (i + 1),ct:=Pv (i + 1),bk:=D.nx } σ2 H2) (hd:∀ σ H,Pv xs.length σ H→D.nx σ H) :
  ∃ W:Nat→Nat→St→Hp→Prop,(∃ m,W 0 m σ H)∧∀ i m σ H,W i m σ H →
   ((Itl K a).stop i H∧D.nx σ H)∨((Itl K a).go i H∧∃ N:St→Hp→Prop,(∀ σ' H',N σ' H'→∃ m',m' < m∧W (i + 1) m' σ' H')∧∀ x H',(Itl K a).yld i H x H'→g x σ H' fun σ2 H2=>tb { D with nx:=N,ct:=N,bk:=D.nx } σ2 H2):=by
 refine ⟨fun i m σ H=>m=xs.length - i∧i≤xs.length∧Pv i σ H,⟨xs.length,by simp,Nat.zero_le _,h0⟩,?_⟩
 rintro i m σ H ⟨rfl,hi,p⟩
 have q:=hl i σ H hi p
 by_cases hlt:i < xs.length
 ·refine .inr ⟨⟨xs,xs[i],q,by simp [hlt]⟩,Pv (i + 1),fun σ' H' p'=>⟨xs.length - (i + 1),by omega,rfl,hlt,p'⟩,fun x H' y=>?_⟩
  obtain ⟨e,y⟩:=y
  subst e
  exact hs i x σ _ (y xs q) p
 ·have e:i=xs.length:=by omega
  subst e
  exact .inl ⟨⟨xs,q,yh _⟩,hd σ H p⟩
theorem qar {lo:Int} {n:Nat} {g:TG} {tb:TS} {D:Ends} {σ:St} {H:Hp} (Pv:Nat→St→Hp→Prop) (h0:Pv 0 σ H)
  (hs:∀ i σ H,i < n→Pv i σ H→g (.int (lo + i)) σ H fun σ2 H2=>tb { D with nx:=Pv (i + 1),ct:=Pv (i + 1),bk:=D.nx } σ2 H2) (hd:∀ σ H,Pv n σ H→D.nx σ H) :
  ∃ W:Nat→Nat→St→Hp→Prop,(∃ m,W 0 m σ H)∧∀ i m σ H,W i m σ H →
   ((Itr lo n).stop i H∧D.nx σ H)∨((Itr lo n).go i H∧∃ N:St→Hp→Prop,(∀ σ' H',N σ' H'→∃ m',m' < m∧W (i + 1) m' σ' H')∧∀ x H',(Itr lo n).yld i H x H'→g x σ H' fun σ2 H2=>tb { D with nx:=N,ct:=N,bk:=D.nx } σ2 H2):=by
 refine ⟨fun i m σ H=>m=n - i∧i≤n∧Pv i σ H,⟨n,by simp,Nat.zero_le _,h0⟩,?_⟩
 rintro i m σ H ⟨rfl,hi,p⟩
 by_cases hlt:i < n
 ·refine .inr ⟨hlt,Pv (i + 1),fun σ' H' p'=>⟨n - (i + 1),by omega,rfl,hlt,p'⟩,fun x H' y=>?_⟩
  obtain ⟨e,y⟩:=y
  subst e y
  exact hs i σ _ hlt p
 ·have e:i=n:=by omega
  subst e
  exact .inl ⟨yh _,hd σ H p⟩
abbrev R2:=V→V→Hp→VK→Prop
def OpR (X:Cx) (f:Value→Value→Sem Value) (r:R2):Prop:=
 ∀ (pins:List (Addr×Obj)) (s:Shared) (σ:St) (H:Hp) (x y:V) (v u:Value) (Q:VK),Inv X pins σ H s→RelV x v→RelV y u→r x y H Q →
  wpAny (model X.prog X.w) X.A (f v u) (EP X pins σ Q) X.xe s
def UnR (X:Cx) (f:Value→Sem Value) (r:V→Hp→VK→Prop):Prop:=
 ∀ (pins:List (Addr×Obj)) (s:Shared) (σ:St) (H:Hp) (x:V) (v:Value) (Q:VK),Inv X pins σ H s→RelV x v→r x H Q →
  wpAny (model X.prog X.w) X.A (f v) (EP X pins σ Q) X.xe s
def qaf (X:Cx) (f:Value) (r:List V→Hp→VK→Prop):Prop:=
 ∀ (pins:List (Addr×Obj)) (s:Shared) (σ:St) (H:Hp) (xs:List V) (us:List Value) (Q:VK),Inv X pins σ H s→Vals xs us→r xs H Q →
  wpAny (model X.prog X.w) X.A (call f us) (EP X pins σ Q) X.xe s
def tOp (r:R2) (ta tb:TE):TE:=fun σ H Q=>ta σ H fun x H1=>tb σ H1 fun y H2=>r x y H2 Q
def tUn (r:V→Hp→VK→Prop) (ta:TE):TE:=fun σ H Q=>ta σ H fun x H1=>r x H1 Q
def rI (C:Int→Int→Prop) (g:Int→Int→V):R2:=fun x y H Q=>∃ i j,x=.int i∧y=.int j∧C i j∧Q (g i j) H
def rI0 (g:Int→Int→V):R2:=fun x y H Q=>∃ i j,x=.int i∧y=.int j∧Q (g i j) H
def rU (g:Int→V):V→Hp→VK→Prop:=fun x H Q=>∃ i,x=.int i∧Q (g i) H
section
variable {X:Cx} {a b c:Expr} {ta tb tc:TE} {pos:Pos}
theorem qfc (ha:PE X a ta) (hb:PE X b tb) {pins:List (Addr×Obj)} {s:Shared} {σ:St} {H:Hp} {R:V→V→Hp→Prop} (I:Inv X pins σ H s)
  (h:ta σ H fun x H1=>tb σ H1 fun y H2=>R x y H2) {Q:Value→Shared→Prop} {f:Value→Value→Sem Value}
  (hf:∀ v u s2 x y H2,Inv X pins σ H2 s2→RelV x v→RelV y u→R x y H2→wpAny (model X.prog X.w) X.A (f v u) Q X.xe s2) :
  wpAny (model X.prog X.w) X.A (eval a X.env) (fun v s₁=>wpAny (model X.prog X.w) X.A (eval b X.env) (fun u s₂=>wpAny (model X.prog X.w) X.A (f v u) Q X.xe s₂) X.xe s₁) X.xe s:=by
 refine thn (ha pins s σ H _ I h) fun v s1 ⟨x,H1,I1,r1,q1⟩=>?_
 refine thn (hb pins s1 σ H1 _ I1 q1) fun u s2 ⟨y,H2,I2,r2,q2⟩=>?_
 exact hf v u s2 x y H2 I2 r1 r2 q2
theorem qP {op:Operator} {r:R2} (ho:OpR X (binaryOp op) r) (ha:PE X a ta) (hb:PE X b tb):PE X (.BinOp a op b pos) (tOp r ta tb):=by
 intro pins s σ H Q I h
 exact wpAny_BinOp (qfc ha hb I h fun v u s2 x y H2 I2 rx ry q=>ho pins s2 σ H2 x y v u Q I2 rx ry q)
theorem qbq {op:UnaryOp} {r:V→Hp→VK→Prop} (ho:UnR X (unaryOp op) r) (ha:PE X a ta):PE X (.UnaryOp op a pos) (tUn r ta):=by
 intro pins s σ H Q I h
 exact UnaryOp_ (thn (ha pins s σ H _ I h) fun v s1 ⟨x,H1,I1,r1,q1⟩=>ho pins s1 σ H1 x v Q I1 r1 q1)
theorem opI {f:Value→Value→Sem Value} {C:Int→Int→Prop} {g:Int→Int→Int}
  (rule:∀ (i j:Int) (t u:Tok) (s:Shared) (Q:Value→Shared→Prop) (E:Value→Shared→Prop),C i j→Q (.int (g i j) s.toks) { s with toks:=s.toks + 1 }→wpAny (model X.prog X.w) X.A (f (.int i t) (.int j u)) Q E s) :
  OpR X f (rI C fun i j=>.int (g i j)):=by
 intro pins s σ H x y v u Q I rx ry h
 obtain ⟨i,j,rfl,rfl,hc,q⟩:=h
 obtain ⟨t,rfl⟩:=rx
 obtain ⟨t',rfl⟩:=ry
 exact rule i j t t' s _ _ hc ⟨.int (g i j),H,I.tok _,⟨_,rfl⟩,q⟩
theorem qe0 {f:Value→Value→Sem Value} {g:Int→Int→Int}
  (rule:∀ (i j:Int) (t u:Tok) (s:Shared) (Q:Value→Shared→Prop) (E:Value→Shared→Prop),Q (.int (g i j) s.toks) { s with toks:=s.toks + 1 }→wpAny (model X.prog X.w) X.A (f (.int i t) (.int j u)) Q E s) :
  OpR X f (rI0 fun i j=>.int (g i j)):=by
 intro pins s σ H x y v u Q I rx ry h
 obtain ⟨i,j,rfl,rfl,q⟩:=h
 obtain ⟨t,rfl⟩:=rx
 obtain ⟨t',rfl⟩:=ry
 exact rule i j t t' s _ _ ⟨.int (g i j),H,I.tok _,⟨_,rfl⟩,q⟩
theorem qe1 {f:Value→Value→Sem Value} {g:Int→Int→Bool}
  (rule:∀ (i j:Int) (t u:Tok) (s:Shared) (Q:Value→Shared→Prop) (E:Value→Shared→Prop),Q (.bool (g i j)) s→wpAny (model X.prog X.w) X.A (f (.int i t) (.int j u)) Q E s) :
  OpR X f (rI0 fun i j=>.bl (g i j)):=by
 intro pins s σ H x y v u Q I rx ry h
 obtain ⟨i,j,rfl,rfl,q⟩:=h
 obtain ⟨t,rfl⟩:=rx
 obtain ⟨t',rfl⟩:=ry
 exact rule i j t t' s _ _ ⟨.bl (g i j),H,I,rfl,q⟩
def CDiv (i j:Int):Prop:=0 < j∧j < 1073741824
def qft (i j:Int):Prop:=0≤j∧j≤1000000∧i.natAbs < 2 ^ 64
def CMul (i j:Int):Prop:=(-(2 ^ 64) < i∧i < 2 ^ 64)∨(-(2 ^ 64) < j∧j < 2 ^ 64)
theorem CMul.ok {i j:Int} (h:CMul i j):IntMulOk i j:=by
 rcases h with ⟨h1,h2⟩ | ⟨h1,h2⟩
 ·exact .of_left (intBits_le_64 h1 h2)
 ·exact .of_right (intBits_le_64 h1 h2)
theorem two_pow_nn (k:Nat):(0:Int)≤2 ^ k:=by
 rw [two_pow_cast]
 exact Int.natCast_nonneg _
theorem op_add:OpR X (binaryOp .Add) (rI0 fun i j=>.int (i + j)):=qe0 fun _ _ _ _ _ _ _ q=>add_int q
theorem qcA:OpR X (binaryOp .Sub) (rI0 fun i j=>.int (i - j)):=qe0 fun _ _ _ _ _ _ _ q=>sub_int q
theorem op_mul:OpR X (binaryOp .Mult) (rI CMul fun i j=>.int (i * j)):=opI fun _ _ _ _ _ _ _ hc q=>mul_int q hc.ok
theorem qc7:OpR X (binaryOp .FloorDiv) (rI CDiv fun i j=>.int (i / j)):=opI fun i j _ _ _ _ _ hc q=>by
 have h1:(0:Int) < j:=hc.1
 have h2:j < 1073741824:=hc.2
 exact floordiv_int (by omega) (by rw [Int.fdiv_eq_ediv_of_nonneg i (by omega)];exact q) (.inl (PyProof.noPylong_small (by omega)))
theorem qak:OpR X (binaryOp .Mod) (rI (fun _ j=>0 < j) fun i j=>.int (i % j)):=opI fun i j _ _ _ _ _ hc q=>by
 have h1:(0:Int) < j:=hc
 exact mod_int' (by omega) (by rw [Int.fmod_eq_emod_of_nonneg i (by omega)];exact q)
theorem op_pow:OpR X (binaryOp .Pow) (rI qft fun i j=>.int (i ^ j.toNat)):=opI fun _ _ _ _ _ _ _ hc q=>pow_int_small hc.1 hc.2.1 hc.2.2 q
theorem qdX:OpR X (binaryOp .LShift) (rI qft fun i j=>.int (i * 2 ^ j.toNat)):=opI fun _ _ _ _ _ _ _ hc q=>lshift_int_small hc.1 hc.2.1 hc.2.2 q
theorem op_shr:OpR X (binaryOp .RShift) (rI (fun _ j=>0≤j) fun i j=>.int (i / 2 ^ j.toNat)):=opI fun i j _ _ _ _ _ hc q =>
 rshift_int hc (by rw [Int.fdiv_eq_ediv_of_nonneg i (two_pow_nn _)];exact q)
theorem op_and:OpR X (binaryOp .BitAnd) (rI0 fun i j=>.int (Builtin.bitAnd i j)):=qe0 fun _ _ _ _ _ _ _ q=>and_int q
theorem qeG:OpR X (binaryOp .BitOr) (rI0 fun i j=>.int (Builtin.bitOr i j)):=qe0 fun _ _ _ _ _ _ _ q=>or_int q
theorem unI {f:Value→Sem Value} {g:Int→Int}
  (rule:∀ (i:Int) (t:Tok) (s:Shared) (Q:Value→Shared→Prop) (E:Value→Shared→Prop),Q (.int (g i) s.toks) { s with toks:=s.toks + 1 }→wpAny (model X.prog X.w) X.A (f (.int i t)) Q E s) :
  UnR X f (rU fun i=>.int (g i)):=by
 intro pins s σ H x v Q I rx h
 obtain ⟨i,rfl,q⟩:=h
 obtain ⟨t,rfl⟩:=rx
 exact rule i t s _ _ ⟨.int (g i),H,I.tok _,⟨_,rfl⟩,q⟩
theorem qas:UnR X (unaryOp .USub) (rU fun i=>.int (-i)):=unI fun _ _ _ _ _ q=>neg_int q
end
def scal:V→V→Bool
 | .non,.non=>true | .non,.int _=>true | .int _,.non=>true | .non,.bl _=>true | .bl _,.non=>true | .non,.str _=>true | .str _,.non=>true
 | .int _,.int _=>true | .bl _,.bl _=>true | .str _,.str _=>true | .byt _,.byt _=>true
 | .int _,.str _=>true | .str _,.int _=>true | .bl _,.str _=>true | .str _,.bl _=>true
 | _,_=>false
def rEq:R2:=fun x y H Q=>scal x y=true∧Q (.bl (decide (x=y))) H
theorem dec_bl {i j:Bool}:decide (V.bl i=V.bl j)=(i==j):=by
 rw [Bool.eq_iff_iff]
 simp
section
variable {X:Cx} {a b c:Expr} {ta tb tc:TE} {pos:Pos}
theorem qcB {pins:List (Addr×Obj)} {σ:St} {H:Hp} {s:Shared} {Q:VK} {k k':Bool} (I:Inv X pins σ H s) (q:Q (.bl k) H) (e:k=k'):EP X pins σ Q (.bool k') s:=by
 subst e
 exact ⟨.bl k,H,I,rfl,q⟩
theorem qc8:OpR X (compareOp .Lt) (rI0 fun i j=>.bl (decide (i < j))):=qe1 fun _ _ _ _ _ _ _ q=>lt_int q
theorem op_le:OpR X (compareOp .LtE) (rI0 fun i j=>.bl (decide (i≤j))):=qe1 fun _ _ _ _ _ _ _ q=>le_int q
theorem qc9:OpR X (compareOp .Gt) (rI0 fun i j=>.bl (decide (j < i))):=qe1 fun _ _ _ _ _ _ _ q=>gt_int q
theorem op_ge:OpR X (compareOp .GtE) (rI0 fun i j=>.bl (decide (j≤i))):=qe1 fun _ _ _ _ _ _ _ q=>ge_int q
theorem op_isN:OpR X (compareOp .Is) (fun x y H Q=>y=.non∧Q (.bl (decide (x=.non))) H):=by
 intro pins s σ H x y v u Q I rx ry h
 obtain ⟨rfl,q⟩:=h
 cases ry
 refine is_none_gen (qcB I q ?_)
 cases x<;>first
  | (cases rx;rfl)
  | (obtain ⟨t,rfl⟩:=rx;rfl)
theorem qcj:OpR X (compareOp .IsNot) (fun x y H Q=>y=.non∧Q (.bl (!decide (x=.non))) H):=by
 intro pins s σ H x y v u Q I rx ry h
 obtain ⟨rfl,q⟩:=h
 cases ry
 refine isnot_none_gen (qcB I q ?_)
 cases x<;>first
  | (cases rx;rfl)
  | (obtain ⟨t,rfl⟩:=rx;rfl)
theorem qB (b:Expr) {op:CmpOp} (h:op≠.In:=by decide) (h2:op≠.NotIn:=by decide):behindInMarks op b=false:=by
 have e1:(op==CmpOp.In)=false:=by cases op<;>first | rfl | exact absurd rfl h
 have e2:(op==CmpOp.NotIn)=false:=by cases op<;>first | rfl | exact absurd rfl h2
 cases b<;>simp [behindInMarks,e1,e2]
theorem jt {op:CmpOp} {r:R2} (ho:OpR X (compareOp op) r) (ha:PE X a ta) (hb:PE X b tb) (hm:behindInMarks op b=false):PE X (.Compare a [op] [b] pos) (tOp r ta tb):=by
 intro pins s σ H Q I h
 exact wpAny_Compare1 (qfc ha hb I h fun v u s2 x y H2 I2 rx ry q=>ho pins s2 σ H2 x y v u Q I2 rx ry q) hm
def qek (t:TE):TT:=fun σ H Q=>t σ H fun x H'=>∃ k,x=.bl k∧Q k H'
theorem qo {op:CmpOp} {r:R2} (ho:OpR X (compareOp op) r) (ha:PE X a ta) (hb:PE X b tb) (hm:behindInMarks op b=false):PT X (.Compare a [op] [b] pos) (qek (tOp r ta tb)):=by
 intro pins s σ H Q I h
 refine wpAny_isTrue_Compare1 (thn (ha pins s σ H _ I h) fun v s1 ⟨x,H1,I1,r1,q1⟩=>thn (hb pins s1 σ H1 _ I1 q1) fun u s2 ⟨y,H2,I2,r2,q2⟩ =>
  thn (ho pins s2 σ H2 x y v u _ I2 r1 r2 q2) fun c s3 ⟨z,H3,I3,r3,k,e,q3⟩=>?_) hm
 subst e
 cases r3
 exact wpAny_truthy_bool ⟨H3,I3,q3⟩
def qda (r r':R2) (ta tb tc:TE):TE:=fun σ H Q=>ta σ H fun x H1=>tb σ H1 fun y H2=>r x y H2 fun z H3=>∃ k,z=.bl k ∧
 (if k=true then tc σ H3 fun w' H4=>r' y w' H4 Q else Q (.bl false) H3)
theorem pe_chain {op op':CmpOp} {r r':R2} (ho:OpR X (compareOp op) r) (ho':OpR X (compareOp op') r') (ha:PE X a ta) (hb:PE X b tb) (hc:PE X c tc)
  (hm:lastMarks [op,op'] [b,c]=false:=by with_unfolding_all rfl):PE X (.Compare a [op,op'] [b,c] pos) (qda r r' ta tb tc):=by
 intro pins s σ H Q I h
 refine Compare_chain (thn (ha pins s σ H _ I h) fun v s1 ⟨x,H1,I1,r1,q1⟩=>chain_link (thn (hb pins s1 σ H1 _ I1 q1) fun u s2 ⟨y,H2,I2,r2,q2⟩ =>
  thn (ho pins s2 σ H2 x y v u _ I2 r1 r2 q2) fun d s3 ⟨z,H3,I3,r3,k,e,q3⟩=>?_)) hm
 subst e
 cases r3
 refine wpAny_truthy_bool ?_
 cases k with
 | false=>exact ite_ff ⟨.bl false,H3,I3,rfl,q3⟩
 | true=>exact ite_tt (chain_last (thn (hc pins s3 σ H3 _ I3 q3) fun w' s4 ⟨z',H4,I4,r4,q4⟩=>ho' pins s4 σ H4 y z' u w' Q I4 r2 r4 q4))
theorem pt_chain {op op':CmpOp} {r r':R2} (ho:OpR X (compareOp op) r) (ho':OpR X (compareOp op') r') (ha:PE X a ta) (hb:PE X b tb) (hc:PE X c tc)
  (hm:lastMarks [op,op'] [b,c]=false:=by with_unfolding_all rfl):PT X (.Compare a [op,op'] [b,c] pos) (qek (qda r r' ta tb tc)):=by
 intro pins s σ H Q I h
 refine isTrue_chain (thn (ha pins s σ H _ I h) fun v s1 ⟨x,H1,I1,r1,q1⟩=>test_link (thn (hb pins s1 σ H1 _ I1 q1) fun u s2 ⟨y,H2,I2,r2,q2⟩ =>
  thn (ho pins s2 σ H2 x y v u _ I2 r1 r2 q2) fun d s3 ⟨z,H3,I3,r3,k,e,q3⟩=>?_)) hm
 subst e
 cases r3
 refine wpAny_truthy_bool ?_
 cases k with
 | false =>
  obtain ⟨k',e',q'⟩:=q3
  cases e'
  exact ite_ff ⟨H3,I3,q'⟩
 | true =>
  refine ite_tt (test_last (thn (hc pins s3 σ H3 _ I3 q3) fun w' s4 ⟨z',H4,I4,r4,q4⟩=>thn (ho' pins s4 σ H4 y z' u w' _ I4 r2 r4 q4) fun d' s5 ⟨z2,H5,I5,r5,k2,e2,q5⟩=>?_))
  subst e2
  cases r5
  exact wpAny_truthy_bool ⟨H5,I5,q5⟩
theorem qbf:(sizeLine:Nat) < 2 ^ 63:=by rw [sizeLine_eq];decide
theorem op_add_str:OpR X (binaryOp .Add) (fun x y H Q=>∃ i j,x=.str i∧y=.str j∧i.length + j.length≤sizeLine∧Q (.str (i++j)) H):=by
 intro pins s σ H x y v u Q I rx ry h
 obtain ⟨i,j,rfl,rfl,hz,q⟩:=h
 obtain ⟨t,rfl⟩:=rx
 obtain ⟨t',rfl⟩:=ry
 exact add_str (fun t' tk=>⟨.str (i++j),H,I.tok _,⟨_,rfl⟩,q⟩) hz
theorem qbr {x:V} {us:List Value} (r:Vals [x] us):∃ u,us=[u]∧RelV x u:=by
 cases r with
 | cons r1 r2=>cases r2;exact ⟨_,rfl,r1⟩
theorem qdb {x y:V} {us:List Value} (r:Vals [x,y] us):∃ u w',us=[u,w']∧RelV x u∧RelV y w':=by
 cases r with
 | cons r1 r2 =>
  cases r2 with
  | cons r3 r4=>cases r4;exact ⟨_,_,rfl,r1,r3⟩
theorem qbL (hc:X.calm=true):qaf X (.builtin "max") (fun xs H Q=>∃ i j,xs=[.int i,.int j]∧Q (.int (if j > i then j else i)) H):=by
 intro pins s σ H xs us Q I r h
 obtain ⟨i,j,rfl,q⟩:=h
 obtain ⟨u,w',rfl,⟨t,rfl⟩,⟨t',rfl⟩⟩:=qdb r
 refine max_two_ints (I.ok.hd hc) fun h' tk k=>⟨_,H,I.kept k,?_,q⟩
 by_cases hj:j > i
 ·rw [if_pos hj,if_pos hj];exact ⟨_,rfl⟩
 ·rw [if_neg hj,if_neg hj];exact ⟨_,rfl⟩
theorem call_min2 (hc:X.calm=true):qaf X (.builtin "min") (fun xs H Q=>∃ i j,xs=[.int i,.int j]∧Q (.int (if j < i then j else i)) H):=by
 intro pins s σ H xs us Q I r h
 obtain ⟨i,j,rfl,q⟩:=h
 obtain ⟨u,w',rfl,⟨t,rfl⟩,⟨t',rfl⟩⟩:=qdb r
 refine min_two_ints (I.ok.hd hc) fun h' tk k=>⟨_,H,I.kept k,?_,q⟩
 by_cases hj:j < i
 ·rw [if_pos hj,if_pos hj];exact ⟨_,rfl⟩
 ·rw [if_neg hj,if_neg hj];exact ⟨_,rfl⟩
theorem qbM:qaf X (.type "int") (fun xs H Q=>(∃ i,xs=[.int i]∧Q (.int i) H)∨∃ k,xs=[.bl k]∧Q (.int (if k then 1 else 0)) H):=by
 intro pins s σ H xs us Q I r h
 rcases h with ⟨i,rfl,q⟩ | ⟨k,rfl,q⟩
 ·obtain ⟨u,rfl,t,rfl⟩:=qbr r
  exact call_int_int ⟨.int i,H,I,⟨_,rfl⟩,q⟩
 ·obtain ⟨u,rfl,r1⟩:=qbr r
  cases r1
  exact call_int_bool ⟨.int (if k then 1 else 0),H,I.tok _,⟨_,rfl⟩,q⟩
end
structure ObjM (h:Heap) (x dx C:Addr) (mA:Str→Option Value):Prop where
 obj:h.get? x=some (PySem.W.instObj C dx)
 ns:h.Ns1 dx mA
 ne:dx≠x
theorem qbN {h:Heap} {dx:Addr} {mA:Str→Option Value} (n:h.Ns1 dx mA):∃ od,h.get? dx=some od∧∀ name,PySem.W.lookIn name od=some (mA name):=by
 obtain ⟨o,es,ep,ho,hd,hk,_,hm⟩:=n
 refine ⟨o,ho,fun name=>?_⟩
 have e:=hm name
 unfold nsFind findBy at e
 rw [← Array.find?_toList] at e
 unfold PySem.W.lookIn
 rw [hd]
 dsimp only
 split
 ·rename_i y q
  rw [q] at e
  exact congrArg some e
 ·rename_i q
  rw [q] at e
  have a:es.toList.any (·.refKey)=false:=by
   rw [List.any_eq_false]
   intro y hy
   obtain ⟨z,t,hkey⟩:=hk y (Array.mem_toList_iff.mp hy)
   simp [DictEntry.refKey,hkey]
  have a':¬ es.toList.any (·.refKey)=true:=by rw [a];exact Bool.false_ne_true
  rw [if_neg a']
  exact congrArg some e
theorem ObjM.look {h:Heap} {x dx C:Addr} {mA:Str→Option Value} (I:ObjM h x dx C mA):∃ od,PySem.W.InstAt h x (PySem.W.instObj C dx) C (some od)∧∀ name,PySem.W.lookIn name od=some (mA name):=
 let ⟨od,ho,hl⟩:=qbN I.ns
 ⟨od,⟨I.obj,rfl,rfl,ho⟩,hl⟩
section
variable {prog:Program} {w:World} {A:Around} {E:Value→Shared→Prop} {s:Shared} {K:yg} {x dx C f:Addr} {mA:Str→Option Value} {name:Str} {v:Value}
theorem get_map {expr:Bool} {Q:Value→Shared→Prop} (X:K.In s.heap) (I:ObjM s.heap x dx C mA) (hg:PySem.W.plainGet K C name=true) (hh:PySem.W.hasDictIn K C=true)
  (ha:PySem.W.findIn K (.ref C) name=some none) (hv:mA name=some v) (hv':PySem.W.handedIn v=true) (h:Q v { s with toks:=s.toks + 1 }) :
  wpAny (model prog w) A (getAttr (.ref x) name expr) Q E s:=by
 obtain ⟨od,J,hl⟩:=I.look
 exact PySem.W.get_value X J (PySem.W.plainGet_of hg).1 (PySem.W.findObj_own hh ha rfl (by rw [hl,hv])) hv' h
theorem get_meth {pl:Sem Bool} {Q:Value×List Value→Shared→Prop} (X:K.In s.heap) (I:ObjM s.heap x dx C mA) (hg:PySem.W.plainGet K C name=true)
  (hf:PySem.W.findIn K (.ref C) name=some (some (.ref f))) (ht:PySem.W.isFn K (.ref f)=true) (hv:mA name=none) (h:Q (.ref f,[.ref x]) s) :
  wpAny (model prog w) A (getMethod (.ref x) name pl) Q E s:=by
 obtain ⟨od,J,hl⟩:=I.look
 exact PySem.W.method_fn X J (PySem.W.plainGet_of hg).1 (PySem.W.plainGet_of hg).2 hf (beq_iff_eq.mp ht) (by show (PySem.W.lookIn name od).map (·.isSome)=some false;rw [hl,hv];rfl) h
theorem set_map {ns:List Str} {Q:Unit→Shared→Prop} (X:K.In s.heap) (I:ObjM s.heap x dx C mA)
  (hs:PySem.W.findIn K (.ref C) "__setattr__"=some (some (.builtin "object.__setattr__"))) (hp:PySem.W.plainOver K C=true) (ht:PySem.W.takerIn K C name=some none) (hh:PySem.W.hasDictIn K C=true)
  (hw:PySem.Within mA ns) (hsz:ns.length≤sizeLine)
  (h:∀ h',ObjM h' x dx C (fun y=>if y=name then some v else mA y)→Heap.SameBut dx s.heap h'→Q () { s with heap:=h',toks:=s.toks + 2 }) :
  wpAny (model prog w) A (setAttr (.ref x) name v) Q E s:=by
 obtain ⟨od,J,hl⟩:=I.look
 refine PySem.W.set_plain X J hs (PySem.W.osa_open (s:={ s with toks:=s.toks + 1 }) (r:=none) X J hp ht fun b=>?_)
 obtain ⟨cd,hc,hd'⟩:=PySem.W.any_some hh
 have hx:s.heap.get? x=some ⟨.ref C,some dx,.plain,#[]⟩:=I.obj
 refine wpAny_bind (wpAny_pure (wpAny_bind (wpAny_bind (wpAny_loadPart hx (wpAny_bind (PySem.W.Looks.here (s:={ s with toks:=s.toks + 1 }) (PySem.W.looks_clsIn X hc) ?_))))))
 rw [hd']
 refine wpAny_pure (a:=some dx) (wpAny_bind (wpAny_pure (wpAny_bind ?_)))
 refine wpAny_nsSet1 (s:={ s with toks:=s.toks + 1 }) I.ns fun h' hn2 hs2=>?_
 obtain ⟨oD,esD,epD,hoD,hdD,hcD⟩:=hn2.count (PySem.Within.cons name v hw)
 refine wpAny_bind (wpAny_lookBehind hoD (by rw [hdD];exact pastItsLine_dict (yi hcD (by rw [List.length_cons];omega))) ?_)
 exact wpAny_pure (h _ ⟨(hs2.2 _ (Ne.symm I.ne)).trans I.obj,hn2,I.ne⟩ hs2)
theorem make_map {R:Result→Shared→Prop} {vs:List Value} {kw:List (Str×Value)} (X:K.In s.heap) (hm:PySem.W.makesIn K C=true)
  (hi:PySem.W.findIn K (.ref C) "__init__"=some (some (.ref f))) (hf:PySem.W.typeIn K (.ref f)=some (.type "function"))
  (h:codeAny (model prog w) (A.under (.builtin "type.__call__" ⟨.ref C::vs,kw⟩)) (.call (.ref f) ⟨.ref (s.heap.objs.size + 1)::vs,kw⟩) (PySem.W.InitBack (s.heap.objs.size + 1) R)
   { s with heap:=(s.heap.push PySem.W.emptyDict).push (PySem.W.instObj C s.heap.objs.size) }) :
  codeAny (model prog w) A (.call (.ref C) ⟨vs,kw⟩) R s:=by
 obtain ⟨hh,g,d,t,os⟩:=s
 exact PySem.W.make_core (PySem.W.makes_of X hm) (PySem.W.looks_findIn X hi) (fun self=>PySem.W.bind_fn X self hf) (.inl rfl) h
end
def qI (f:Str) (v:V):List (Str×V)→List (Str×V)
 | []=>[(f,v)]
 | (g,x)::r=>if g=f then (g,v)::r else (g,x)::qI f v r
theorem qG (f g:Str) (v:V):∀ fs:List (Str×V),(qI f v fs).lookup g=if g=f then some v else fs.lookup g
 | []=>by
  show List.lookup g [(f,v)]=_
  by_cases h:g=f
  ·have hb:(g==f)=true:=beq_iff_eq.mpr h
   simp only [List.lookup,hb,if_pos h]
  ·have hb:(g==f)=false:=beq_eq_false_iff_ne.mpr h
   simp only [List.lookup,hb,if_neg h]
 | (k,x)::r=>by
  have ih:=qG f g v r
  rw [show qI f v ((k,x)::r)=(if k=f then (k,v)::r else (k,x)::qI f v r) from rfl]
  by_cases hk:k=f
  ·rw [if_pos hk]
   by_cases h:g=k
   ·have hb:(g==k)=true:=beq_iff_eq.mpr h
    simp only [List.lookup,hb,if_pos (h.trans hk)]
   ·have hb:(g==k)=false:=beq_eq_false_iff_ne.mpr h
    simp only [List.lookup,hb,if_neg (fun e:g=f=>h (e.trans hk.symm))]
  ·rw [if_neg hk]
   by_cases h:g=k
   ·have hb:(g==k)=true:=beq_iff_eq.mpr h
    simp only [List.lookup,hb,if_neg (fun e:g=f=>hk (h.symm.trans e))]
   ·have hb:(g==k)=false:=beq_eq_false_iff_ne.mpr h
    simp only [List.lookup,hb]
    exact ih
theorem qaV (f:Str) (v:V):∀ fs:List (Str×V),f∈(qI f v fs).map (·.1)∧∀ g,g∈fs.map (·.1)→g∈(qI f v fs).map (·.1)
 | []=>⟨by simp [qI],fun g h=>by simp at h⟩
 | (k,x)::r=>by
  obtain ⟨i1,i2⟩:=qaV f v r
  rw [show qI f v ((k,x)::r)=(if k=f then (k,v)::r else (k,x)::qI f v r) from rfl]
  by_cases hk:k=f
  ·rw [if_pos hk]
   subst hk
   exact ⟨by simp,fun g h=>by simpa using h⟩
  ·rw [if_neg hk]
   refine ⟨?_,fun g h=>?_⟩
   ·rw [List.map_cons]
    exact List.mem_cons_of_mem _ i1
   ·rw [List.map_cons] at h ⊢
    rcases List.mem_cons.mp h with e | e
    ·exact List.mem_cons.mpr (.inl e)
    ·exact List.mem_cons_of_mem _ (i2 g e)
theorem jH (f:Str) (v:V):∀ fs:List (Str×V),(qI f v fs).length≤fs.length + 1
 | []=>by simp [qI]
 | (k,x)::r=>by
  have ih:=jH f v r
  rw [show qI f v ((k,x)::r)=(if k=f then (k,v)::r else (k,x)::qI f v r) from rfl]
  by_cases hk:k=f
  ·rw [if_pos hk,List.length_cons,List.length_cons];omega
  ·rw [if_neg hk,List.length_cons,List.length_cons];omega
theorem RelO.some_of {v:V} {o:Option Value} (r:RelO (some v) o):∃ u,o=some u∧RelV v u:=by
 cases o with
 | none=>exact (show False from r).elim
 | some u=>exact ⟨u,rfl,r⟩
theorem RelO.none_of {o:Option Value} (r:RelO none o):o=none:=by
 cases o with
 | none=>rfl
 | some u=>exact (show False from r).elim
theorem qbO {v:V} {u:Value} (r:RelV v u):PySem.W.handedIn u=true:=by
 cases v with
 | non=>cases (show u=Value.none from r);rfl
 | bl b=>cases (show u=Value.bool b from r);rfl
 | int i=>obtain ⟨t,e⟩:=(show ∃ t,u=Value.int i t from r);cases e;rfl
 | str x=>obtain ⟨t,e⟩:=(show ∃ t,u=Value.str x t from r);cases e;rfl
 | byt b=>obtain ⟨t,e⟩:=(show ∃ t,u=Value.bytes b t from r);cases e;rfl
 | flt b=>obtain ⟨t,e⟩:=(show ∃ t,u=Value.float b t from r);cases e;rfl
 | ref a=>cases (show u=Value.ref a from r);rfl
 | ty n=>cases (show u=Value.type n from r);rfl
section
variable {P:Program} {w:World} {H H':Hp} {h h':Heap} {a C dx:Addr} {fs fs':List (Str×V)}
theorem qaE (hok:HOk P w H h) (e:H a=some (.ins C dx fs)):∃ mA,ObjM h a dx C mA∧(∀ f,RelO (fs.lookup f) (mA f))∧PySem.Within mA (fs.map (·.1))∧fs.length≤1000∧H dx=some (.own a):=by
 obtain ⟨d,z,ne,ob,mA,n,r,q⟩:=(show ObjOk P w H h a (.ins C dx fs) from hok a _ e)
 exact ⟨mA,⟨ob,n,ne⟩,r,q,z,d⟩
end
structure Cls (K:yg) (C:Addr):Prop where
 pg:PySem.W.plainGet K C Str.empty=true
 hd:PySem.W.hasDictIn K C=true
 po:PySem.W.plainOver K C=true
 sa:PySem.W.findIn K (.ref C) "__setattr__"=some (some (.builtin "object.__setattr__"))
theorem Cls.get {K:yg} {C:Addr} (c:Cls K C) (f:Str):PySem.W.plainGet K C f=true:=c.pg
def NoAttr (K:yg) (C:Addr) (f:Str):Prop:=PySem.W.findIn K (.ref C) f=some none
theorem NoAttr.taker {K:yg} {C:Addr} {f:Str} (n:NoAttr K C f):PySem.W.takerIn K C f=some none:=by
 unfold PySem.W.takerIn
 rw [show PySem.W.findIn K (.ref C) f=some none from n]
 rfl
structure Con (K:yg) (C:Addr) (f:Str) (v:V) (u:Value):Prop where
 at_:PySem.W.findIn K (.ref C) f=some (some u)
 rel:RelV v u
 get:PySem.W.specialIn K u "__get__"=some none
 cp:PySem.W.copiedNames.contains f=false
structure Meth (K:yg) (C:Addr) (m:Str) (f:Addr):Prop where
 at_:PySem.W.findIn K (.ref C) m=some (some (.ref f))
 fn:PySem.W.isFn K (.ref f)=true
 kp:PySem.W.keepIn K (.ref f)=true
section
variable {X:Cx} {pins:List (Addr×Obj)} {σ:St} {H:Hp} {s:Shared} {a C dx:Addr} {fs:List (Str×V)} {f:Str} {v:V} {A:Around} {E:Value→Shared→Prop}
theorem getattr_ok {b:Bool} {Q:Value→Shared→Prop} (I:Inv X pins σ H s) (e:H a=some (.ins C dx fs)) (c:Cls X.K C) (n:NoAttr X.K C f) (l:fs.lookup f=some v)
  (h:∀ u s',Inv X pins σ H s'→RelV v u→Q u s'):wpAny (model X.prog X.w) A (getAttr (.ref a) f b) Q E s:=by
 obtain ⟨mA,O,r,_,_,_⟩:=qaE I.hok e
 obtain ⟨u,hu,ru⟩:=RelO.some_of (v:=v) (o:=mA f) (by rw [← l];exact r f)
 exact get_map I.kIn O (c.get f) c.hd n hu (qbO ru) (h u _ (I.tok _) ru)
theorem qbg {m:Str} {g:Addr} {pl:Sem Bool} {Q:Value×List Value→Shared→Prop} (I:Inv X pins σ H s) (e:H a=some (.ins C dx fs)) (c:Cls X.K C) (k:Meth X.K C m g) (l:fs.lookup m=none)
  (h:Q (.ref g,[.ref a]) s):wpAny (model X.prog X.w) A (getMethod (.ref a) m pl) Q E s:=by
 obtain ⟨mA,O,r,_,_,_⟩:=qaE I.hok e
 have hn:mA m=none:=RelO.none_of (by rw [← l];exact r m)
 exact get_meth I.kIn O (c.get m) k.at_ k.fn hn h
theorem setattr_ok {y:V} {u:Value} {Q:Unit→Shared→Prop} (I:Inv X pins σ H s) (e:H a=some (.ins C dx fs)) (c:Cls X.K C) (n:NoAttr X.K C f) (hl:fs.length < 1000) (ry:RelV y u)
  (h:∀ s',Inv X pins σ (upd H a (.ins C dx (qI f y fs))) s'→Q () s'):wpAny (model X.prog X.w) A (setAttr (.ref a) f u) Q E s:=by
 obtain ⟨mA,O,r,wi,_,ho⟩:=qaE I.hok e
 have hz:(fs.map (·.1)).length≤sizeLine:=by rw [ya,sizeLine_eq];omega
 refine set_map I.kIn O c.sa c.po n.taker c.hd wi hz fun h' O' sb=>h _ ?_
 have hd:∃ o,h'.get? dx=some o:=let ⟨o,_,_,e',_⟩:=O'.ns;⟨o,e'⟩
 refine I.write (x:=a) (e:=dx) (by rw [e];exact True.intro) (.inr ho) (fun b q hb z=>(sb.2 b hb).trans z) hd ?_
 refine ⟨by rw [qg O.ne];exact ho,?_,O.ne,O'.obj,_,O'.ns,fun g=>?_,fun g hg=>?_⟩
 ·have:=jH f y fs;omega
 ·show RelO ((qI f y fs).lookup g) (if g=f then some u else mA g)
  rw [qG]
  by_cases q:g=f
  ·rw [if_pos q,if_pos q];exact ry
  ·rw [if_neg q,if_neg q];exact r g
 ·by_cases q:g=f
  ·rw [q];exact (qaV f y fs).1
  ·refine (qaV f y fs).2 g (wi g fun z=>hg ?_)
   show (if g=f then some u else mA g)=none
   rw [if_neg q];exact z
theorem Inv.made (I:Inv X pins σ H s):Inv X pins σ (upd (upd H s.heap.objs.size (.own (s.heap.objs.size + 1))) (s.heap.objs.size + 1) (.ins C s.heap.objs.size []))
  { s with heap:=(s.heap.push PySem.W.emptyDict).push (PySem.W.instObj C s.heap.objs.size) }:=by
 have e1:(s.heap.push PySem.W.emptyDict).get? s.heap.objs.size=some PySem.W.emptyDict:=Heap.get?_push_size s.heap rfl
 have e2:((s.heap.push PySem.W.emptyDict).push (PySem.W.instObj C s.heap.objs.size)).get? (s.heap.objs.size + 1)=some (PySem.W.instObj C s.heap.objs.size):=by
  have:=Heap.get?_push_size (s.heap.push PySem.W.emptyDict) (o:=PySem.W.instObj C s.heap.objs.size) rfl
  rwa [Heap.size_push] at this
 have e3:(s.heap.push PySem.W.emptyDict).Ns s.heap.objs.size (fun _=>none):=⟨PySem.W.emptyDict,#[],_,e1,rfl,(fun e he=>absurd he (by simp)),fun _=>rfl⟩
 have I1:=I.laid (a:=s.heap.objs.size) (o:=.own (s.heap.objs.size + 1)) (h':=s.heap.push PySem.W.emptyDict) (t':=s.toks) (fun b u q=>Heap.get?_push_of_some _ q) (yh _) ⟨_,e1⟩
 refine I1.laid (a:=s.heap.objs.size + 1) (o:=.ins C s.heap.objs.size []) (t':=s.toks) (fun b u q=>Heap.get?_push_of_some _ q) (Nat.le_of_eq (Heap.size_push _ _)) ?_
 have ne:s.heap.objs.size≠s.heap.objs.size + 1:=Nat.ne_of_lt (Nat.lt_succ_self _)
 refine ⟨by rw [qg ne,qb],Nat.zero_le _,ne,e2,fun _=>none,(Heap.Ns1.of_empty e3).at fun o q=>Heap.get?_push_of_some _ q,fun _=>True.intro,fun y hy=>absurd rfl hy⟩
theorem attr_of {prog:Program} {w:World} {env:Env} {e:Expr} {f:Str} {pos:Pos} {s:Shared} {Q:Value→Shared→Prop} (hb:attributeBase e f env (eval e env)=eval e env)
  (h:wpAny (model prog w) A (eval e env) (fun o s₁=>wpAny (model prog w) A (getAttr o f true) Q E s₁) E s):wpAny (model prog w) A (eval (.Attribute e f pos) env) Q E s:=
 Attribute_any_ h (by rw [arm_eval_Attribute,hb])
end
section
variable {X:Cx} {o e value:Expr} {f:Str} {pos pos' tpos:Pos} {ta tv:TE}
end
section
variable {X:Cx} {pins:List (Addr×Obj)} {σ:St} {H:Hp} {s:Shared} {A:Around} {E:Value→Shared→Prop} {Q:Value→Shared→Prop} {c:Value} {b:Bool}
inductive TyOf (K:yg) (H:Hp):V→Value→Prop where
 | non:TyOf K H .non (.type "NoneType")
 | bl (x:Bool):TyOf K H (.bl x) (.type "bool")
 | int (i:Int):TyOf K H (.int i) (.type "int")
 | str (x:Str):TyOf K H (.str x) (.type "str")
 | flt (x:UInt64):TyOf K H (.flt x) (.type "float")
 | lst {a:Addr} {xs:List V} (e:H a=some (.lst xs)):TyOf K H (.ref a) (.type "list")
 | frz {a:Addr} {o:Obj} {xs:List V} (e:H a=some (.frz o (.lst xs))):TyOf K H (.ref a) (.type "list")
 | tup {a:Addr} {xs:List V} (e:H a=some (.tup xs)):TyOf K H (.ref a) (.type "tuple")
 | dK {a:Addr} {kvs:List (Key×V)} (e:H a=some (.dK kvs)):TyOf K H (.ref a) (.type "dict")
 | dT {a:Addr} {kvs:List (List Key×V)} (e:H a=some (.dT kvs)):TyOf K H (.ref a) (.type "dict")
 | ins {a C dx:Addr} {fs:List (Str×V)} (e:H a=some (.ins C dx fs)) (cl:Cls K C) (ha:PySem.W.findIn K (.ref C) "__class__"=some (some (.builtin "object.__class__")))
   (hn:PySem.W.specialIn K (.builtin "object.__class__") "__get__"=some (some (.builtin "getset_descriptor.__get__"))) (htk:PySem.W.takesIn K (.builtin "object.__class__")=some true)
   (hm:PySem.W.mroIn K C (.type "object")=some true):TyOf K H (.ref a) (.ref C)
end
structure Room (k:Nat) (A:Around):Prop where
 hd:A.handled=none
 dp:A.depth + 3 * k + 5 < recursionLimit
 un:A.units + 16 * k + 200 < cLine
 gd:A.guards=some []
theorem Room.mono {j k:Nat} {A:Around} (r:Room k A) (h:j≤k):Room j A:=⟨r.hd,by have:=r.dp;omega,by have:=r.un;omega,r.gd⟩
theorem Room.deeper {k:Nat} {A:Around} (r:Room (k + 1) A) (env:Env):Room k (A.deeper env):=
 ⟨r.hd,by have:=r.dp;show A.depth + 1 + 3 * k + 5 < _;omega,by have:=r.un;show A.units + 3 + 16 * k + 200 < _;omega,r.gd⟩
theorem make_depth {A:Around} {C:Addr} {us:List Value} {kw:List (Str×Value)}:(A.under (.builtin "type.__call__" ⟨.ref C::us,kw⟩)).depth=A.depth + 1:=by
 first | rfl | simp [Around.under,Code.weight,Code.isCreation,Code.isGuard,Code.isCaller,Code.frames,Code.isFrame,guardIds]
theorem make_units {A:Around} {C:Addr} {us:List Value} {kw:List (Str×Value)}:(A.under (.builtin "type.__call__" ⟨.ref C::us,kw⟩)).units=A.units + 1:=by
 first | rfl | simp [Around.under,Code.cUnits,Code.frames,Code.isFrame]
theorem make_guards {A:Around} {C:Addr} {us:List Value} {kw:List (Str×Value)}:(A.under (.builtin "type.__call__" ⟨.ref C::us,kw⟩)).guards=A.guards:=by
 first | rfl | simp [Around.under,Code.guards,Code.isGuard,guardIds,pushGuards]
theorem Room.make {k:Nat} {A:Around} (r:Room (k + 1) A) (C:Addr) (us:List Value) (kw:List (Str×Value)):Room k (A.under (.builtin "type.__call__" ⟨.ref C::us,kw⟩)):=
 ⟨r.hd,by have:=r.dp;rw [make_depth];omega,by have:=r.un;rw [make_units];omega,by rw [make_guards];exact r.gd⟩
theorem Room.depth {k:Nat} {A:Around} (r:Room k A):A.depth < recursionLimit:=by have:=r.dp;omega
def qe2:TA:=fun _ H Q=>Q [] H
def qeH (ta:TE) (tr:TA):TA:=fun σ H Q=>ta σ H fun x H1=>tr σ H1 fun xs H2=>Q (x::xs) H2
section
variable {X:Cx} {e:Expr} {es:List Expr} {te:TE} {t:TA} {pos:Pos}
theorem qe:PA X [] qe2:=fun _ _ _ _ H Q I h=>Calls.spliced_nil ⟨[],H,I,.nil,h⟩
theorem qa (ha:PE X e te) (hr:PA X es t) (hs:starEach (e::es) X.env=(false,eval e X.env)::starEach es X.env:=by rfl):PA X (e::es) (qeH te t):=by
 intro pos pins s σ H Q I h
 rw [hs]
 show wpAny _ _ (spliced ((false,eval e X.env)::backTo pos (starEach es X.env))) _ _ s
 refine Calls.spliced_cons (thn (ha pins s σ H _ I h) fun u s1 ⟨x,H1,I1,r1,q1⟩=>?_)
 exact thn (hr pos pins s1 σ H1 _ I1 q1) fun us s2 ⟨xs,H2,I2,r2,q2⟩=>⟨x::xs,H2,I2,.cons r1 r2,q2⟩
def qfu (t:TA):TE:=fun σ H Q=>t σ H fun xs H1=>xs.length≤sizeLine∧∀ p,H1 p=none→Q (.ref p) (upd H1 p (.tup xs))
def qfv (t:TA):TE:=fun σ H Q=>t σ H fun xs H1=>xs.length≤sizeLine∧∀ p,H1 p=none→Q (.ref p) (upd H1 p (.lst xs))
theorem zk {x1} (h:PA X es t):PE X (.Tuple es x1 pos) (qfu t):=by
 intro pins s σ H Q I hq
 refine wpAny_Tuple_spliced (thn (h pos pins s σ H _ I hq) fun us s1 ⟨xs,H1,I1,r,z,q⟩=>⟨by rw [← r.length];exact z,?_⟩)
 have hf:H1 s1.heap.objs.size=none:=I1.hok.fresh (yh _)
 refine ⟨.ref s1.heap.objs.size,upd H1 s1.heap.objs.size (.tup xs),I1.laid (t':=s1.toks) (fun b u e=>Heap.get?_push_of_some _ e) (yh _) ?_,rfl,q _ hf⟩
 exact ⟨z,us,r,⟨_,Heap.get?_push_size _ rfl,rfl,_,rfl⟩⟩
theorem je (h:PA X es t):PE X (.List es pos) (qfv t):=by
 intro pins s σ H Q I hq
 refine wpAny_List_spliced (thn (h pos pins s σ H _ I hq) fun us s1 ⟨xs,H1,I1,r,z,q⟩=>⟨by rw [← r.length];exact z,?_⟩)
 have hf:H1 s1.heap.objs.size=none:=I1.hok.fresh (yh _)
 refine ⟨.ref s1.heap.objs.size,upd H1 s1.heap.objs.size (.lst xs),I1.laid (t':=s1.toks) (fun b u e=>Heap.get?_push_of_some _ e) (yh _) ?_,rfl,q _ hf⟩
 exact ⟨z,us,0,r,Heap.get?_push_size _ rfl⟩
end
abbrev Sp:=List V→Hp→VK→XK→Prop
abbrev CXT:=List Env→Hp→Shared→XK→Value→Shared→Prop
structure Env0 (P:Program) (w:World) (K:yg) (mg:Str→Option Value) (base:Heap) (A:Around) (outer:List Env) (s:Shared) (H:Hp):Prop where
 frames:A.frames=some outer
 mod:Mod K mg base
 bs:∀ b o,base.get? b=some o→s.heap.get? b=some o∧H b=none
 bsz:base.objs.size≤s.heap.objs.size
 funs:s.heap.FunFrames base outer
 frf:∀ b∈frs outer,H b=none
 hok:HOk P w H s.heap
 bare:AllBare s.gens
def CE (outer:List Env) (P:Program) (w:World) (H:Hp) (s:Shared) (Q:VK) (u:Value) (s':Shared):Prop:=
 ∃ v H',s'.os=s.os∧AllBare s'.gens∧Un (frs outer) [] H H' s.heap s'.heap∧HOk P w H' s'.heap∧RelV v u∧Q v H'
def CR (CX:CXT) (outer:List Env) (P:Program) (w:World) (H:Hp) (s:Shared) (Q:VK) (E:XK) (r:Result) (s':Shared):Prop:=
 match r with
 | .ok (.ret u)=>CE outer P w H s Q u s'
 | .ok _=>False
 | .error e=>CX outer H s E e s'
structure FnOk (P:Program) (w:World) (K:yg) (mg:Str→Option Value) (base:Heap) (CX:CXT) (k:Nat) (f:Addr) (fd:FuncData) (ps:List Str) (sp:Sp):Prop where
 len:∀ vs H Q E,sp vs H Q E→vs.length=ps.length
 run:∀ (A:Around) (outer:List Env) (s:Shared) (H:Hp) (args:Args) (us:List Value) (vs:List V) (Q:VK) (E:XK),Room k A→Env0 P w K mg base A outer s H→BindsTo s fd args (ps.zip us)→Vals vs us→sp vs H Q E →
  codeAny (model P w) A (.call (.ref f) args) (CR CX outer P w H s Q E) s
theorem Env0.make {P:Program} {w:World} {K:yg} {mg:Str→Option Value} {base:Heap} {A:Around} {outer:List Env} {s:Shared} {H:Hp} (e:Env0 P w K mg base A outer s H) (C:Addr) (us:List Value) (kw:List (Str×Value)) :
  Env0 P w K mg base (A.under (.builtin "type.__call__" ⟨.ref C::us,kw⟩)) outer s H:=⟨by first | exact e.frames | (simpa [Around.under,Code.envs,Code.isFrame,pushEnvs] using e.frames),e.mod,e.bs,e.bsz,e.funs,e.frf,e.hok,e.bare⟩
section
variable {X:Cx} {pins:List (Addr×Obj)} {σ:St} {H:Hp} {s s':Shared}
theorem Inv.env0 (I:Inv X pins σ H s):Env0 X.prog X.w X.K X.mg X.base X.A X.stack s H:=
 ⟨I.ok.frames,I.ok.mod,I.bs,yi I.ok.bsz I.sz,I.stack,I.stkFree,I.hok,I.bare⟩
theorem Inv.after {Q:VK} {u:Value} (I:Inv X pins σ H s) (h:CE X.stack X.prog X.w H s Q u s'):EP X pins σ Q u s':=by
 obtain ⟨v,H',os,bare,un,hok,r,q⟩:=h
 obtain ⟨hh,g,d,t,os'⟩:=s'
 obtain rfl:os'=s.os:=os
 exact ⟨v,H',I.call (h':=hh) (g':=g) (d':=d) (t':=t) (ch:=[]) un hok bare (fun b z=>absurd z (by simp)),r,q⟩
end
def qel (sp:Sp) (dvs:List V) (E:XK) (t:TA):TE:=fun σ H Q=>t σ H fun vs H1=>sp (vs++dvs) H1 Q E
def qdc (C:Addr) (m:Str) (sp:Sp) (dvs:List V) (E:XK) (ta:TE) (t:TA):TE:=fun σ H Q=>ta σ H fun x H1=>∃ a dx fs,x=.ref a∧H1 a=some (.ins C dx fs)∧fs.lookup m=none ∧
 t σ H1 fun vs H2=>sp (x::(vs++dvs)) H2 Q E
def qem (C:Addr) (sp:Sp) (dvs:List V) (E:XK) (t:TA):TE:=fun σ H Q=>t σ H fun vs H1=>∀ x dx,H1 x=none→H1 dx=none→dx≠x →
 sp (.ref x::(vs++dvs)) (upd (upd H1 dx (.own x)) x (.ins C dx [])) (fun v H2=>v=.non∧Q (.ref x) H2) E
def Binds (K:yg) (fd:FuncData) (ps:List Str) (ds:List Value):Prop:=
 ∀ (s:Shared) (us:List Value),K.In s.heap→(us++ds).length=ps.length→BindsTo s fd ⟨us,[]⟩ (ps.zip (us++ds))
theorem Binds.all {K:yg} {fd:FuncData} {ps:List Str} (h:∀ us:List Value,us.length=ps.length→bindArgs fd ⟨us,[]⟩=pure (ps.zip us)):Binds K fd ps []:=fun s us _ hl=>by
 rw [List.append_nil] at hl ⊢
 exact .of_eq (h us hl)
def qaJ (CX:CXT) (X:Cx) (E:XK):Prop:=∀ (pins:List (Addr×Obj)) (σ:St) (H:Hp) (s:Shared) (e:Value) (s':Shared),Inv X pins σ H s→CX X.stack H s E e s'→X.xe e s'
section
variable {X:Cx} {CX:CXT} {k:Nat} {f C:Addr} {fd:FuncData} {ps:List Str} {sp:Sp} {dvs:List V} {ds:List Value} {E:XK} {x m:Str} {p pos apos:Pos} {e o:Expr} {es:List Expr} {ta:TE} {t:TA}
theorem qdd {pins:List (Addr×Obj)} {σ:St} {H:Hp} {s:Shared} {Q:VK} {us:List Value} {vs:List V} (F:FnOk X.prog X.w X.K X.mg X.base CX k f fd ps sp) (hr:Room k X.A) (hb:Binds X.K fd ps ds) (hd:Vals dvs ds) (hx:qaJ CX X E)
  (I:Inv X pins σ H s) (r:Vals vs us) (h:sp (vs++dvs) H Q E):wpAny (model X.prog X.w) X.A (call (.ref f) us) (EP X pins σ Q) X.xe s:=by
 have r2:Vals (vs++dvs) (us++ds):=r.append hd
 have hl:(us++ds).length=ps.length:=by rw [← r2.length];exact F.len _ _ _ _ h
 refine wpAny_call (codeAny_mono (F.run X.A X.stack s H ⟨us,[]⟩ (us++ds) (vs++dvs) Q E hr I.env0 (hb s us I.kIn hl) r2 h) fun r s' hq=>?_)
 cases r with
 | error e=>exact hx pins σ H s e s' I hq
 | ok fl =>
  cases fl with
  | ret u=>exact I.after hq
  | next=>exact False.elim hq
  | brk=>exact False.elim hq
  | cont=>exact False.elim hq
theorem pe_call (F:FnOk X.prog X.w X.K X.mg X.base CX k f fd ps sp) (hr:Room k X.A) (hg:Gl X x) (hm:X.mg x=some (.ref f)) (hk:PySem.W.keepIn X.K (.ref f)=true) (hb:Binds X.K fd ps ds) (hd:Vals dvs ds) (hx:qaJ CX X E)
  (ha:PA X (e::es) t) (hdb:(x==("__debug__":Str))=false:=by decide) (he:starEach (e::es) X.env=(false,eval e X.env)::starEach es X.env:=by rfl) (hpl:(backTo pos (starEach es X.env)).any (·.1)=false:=by rfl) :
  PE X (.Call (.Name x p) (e::es) [] pos) (qel sp dvs E t):=by
 intro pins s σ H Q I h
 refine wpAny_Call_Name_kw (qch I hg hm ?_ hdb)
 refine PySem.W.callWith_K (h₀:=X.base) I.ok.mod.kin hk (thn (ha pos pins s σ H _ I h) fun us s1 ⟨vs,H1,I1,r,q⟩=>⟨I1.kIn,?_⟩) he hpl
 exact qdd F hr hb hd hx I1 r q
theorem pe_meth {pl:Sem Bool} (he:PE X o ta) (c:Cls X.K C) (hm:Meth X.K C m f) (F:FnOk X.prog X.w X.K X.mg X.base CX k f fd ps sp) (hr:Room k X.A) (hb:Binds X.K fd ps ds) (hd:Vals dvs ds) (hx:qaJ CX X E) (ha:PA X (e::es) t)
  (hst:starEach (e::es) X.env=(false,eval e X.env)::starEach es X.env:=by rfl) (hpl:(backTo pos (starEach es X.env)).any (·.1)=false:=by rfl)
  (ht:eval (.Call (.Attribute o m apos) (e::es) [] pos) X.env=(do
   let ov ← eval o X.env
   standAt apos.atName
   let (f,first) ← holding [ov] (getMethod ov m pl)
   callWith pos f first (backTo pos (starEach (e::es) X.env)) (backToKw pos (keywordEach [] X.env))):=by rfl) :
  PE X (.Call (.Attribute o m apos) (e::es) [] pos) (qdc C m sp dvs E ta t):=by
 intro pins s σ H Q I h
 refine PySem.W.methodCall_KW (pl:=pl) (thn (he pins s σ H _ I h) fun u s1 ⟨x,H1,I1,rx,a,dx,fs,ex,ea,l,q⟩=>?_) ht
 subst ex
 obtain rfl:u=Value.ref a:=rx
 refine qbg I1 ea c hm l ?_
 refine PySem.W.callWith_K (first:=[.ref a]) (h₀:=X.base) I.ok.mod.kin hm.kp (thn (ha pos pins s1 σ H1 _ I1 q) fun us s2 ⟨vs,H2,I2,r,q2⟩=>⟨I2.kIn,?_⟩) hst hpl
 exact qdd (us:=.ref a::us) (vs:=.ref a::vs) F hr hb hd hx I2 (.cons rfl r) q2
theorem pe_meth0 {pl:Sem Bool} (he:PE X o ta) (c:Cls X.K C) (hm:Meth X.K C m f) (F:FnOk X.prog X.w X.K X.mg X.base CX k f fd ps sp) (hr:Room k X.A) (hb:Binds X.K fd ps ds) (hd:Vals dvs ds) (hx:qaJ CX X E)
  (ht:eval (.Call (.Attribute o m apos) [] [] pos) X.env=(do
   let ov ← eval o X.env
   standAt apos.atName
   let (f,first) ← holding [ov] (getMethod ov m pl)
   callWith pos f first (backTo pos (starEach [] X.env)) (backToKw pos (keywordEach [] X.env))):=by rfl) :
  PE X (.Call (.Attribute o m apos) [] [] pos) (qdc C m sp dvs E ta qe2):=by
 intro pins s σ H Q I h
 refine PySem.W.methodCall_KW (pl:=pl) (thn (he pins s σ H _ I h) fun u s1 ⟨x,H1,I1,rx,a,dx,fs,ex,ea,l,q⟩=>?_) ht
 subst ex
 obtain rfl:u=Value.ref a:=rx
 refine qbg I1 ea c hm l ?_
 exact PySem.W.callWith_K0 (first:=[.ref a]) I1.kIn hm.kp (qdd (us:=[.ref a]) (vs:=[.ref a]) F hr hb hd hx I1 (.cons rfl .nil) q)
structure Mk (K:yg) (C f:Addr):Prop where
 makes:PySem.W.makesIn K C=true
 init:PySem.W.findIn K (.ref C) "__init__"=some (some (.ref f))
 fn:PySem.W.isFn K (.ref f)=true
 kp:PySem.W.keepIn K (.ref C)=true
theorem run_make {pins:List (Addr×Obj)} {σ:St} {H:Hp} {s:Shared} {Q:VK} {us:List Value} {vs:List V} (M:Mk X.K C f) (F:FnOk X.prog X.w X.K X.mg X.base CX k f fd ps sp) (hr:Room (k + 1) X.A) (hb:Binds X.K fd ps ds) (hd:Vals dvs ds)
  (hx:qaJ CX X E) (I:Inv X pins σ H s) (r:Vals vs us)
  (h:∀ x dx,H x=none→H dx=none→dx≠x→sp (.ref x::(vs++dvs)) (upd (upd H dx (.own x)) x (.ins C dx [])) (fun v H2=>v=.non∧Q (.ref x) H2) E) :
  wpAny (model X.prog X.w) X.A (call (.ref C) us) (EP X pins σ Q) X.xe s:=by
 have hq:=h (s.heap.objs.size + 1) s.heap.objs.size (I.hok.fresh (Nat.le_succ _)) (I.hok.fresh (yh _)) (Nat.ne_of_lt (Nat.lt_succ_self _))
 have I2:=Inv.made (C:=C) I
 have r2:Vals (V.ref (s.heap.objs.size + 1)::(vs++dvs)) (Value.ref (s.heap.objs.size + 1)::(us++ds)):=.cons rfl (r.append hd)
 have hl:(Value.ref (s.heap.objs.size + 1)::us++ds).length=ps.length:=by
  have e:=r2.length
  rw [F.len _ _ _ _ hq] at e
  exact e.symm
 refine wpAny_call (make_map (f:=f) I.kIn M.makes M.init (beq_iff_eq.mp M.fn) (codeAny_mono (F.run _ X.stack _ _ ⟨Value.ref (s.heap.objs.size + 1)::us,[]⟩ (Value.ref (s.heap.objs.size + 1)::(us++ds)) _ _ E (hr.make C us [])
  (I2.env0.make C us []) (hb _ (Value.ref (s.heap.objs.size + 1)::us) I2.kIn hl) r2 hq) fun r s' hq'=>?_))
 cases r with
 | error e=>exact hx pins σ _ _ e s' I2 hq'
 | ok fl =>
  cases fl with
  | ret u =>
   obtain ⟨v,H',I3,rv,ev,q3⟩:=I2.after hq'
   subst ev
   exact ⟨rv,⟨V.ref (s.heap.objs.size + 1),H',I3,rfl,q3⟩⟩
  | next=>exact False.elim hq'
  | brk=>exact False.elim hq'
  | cont=>exact False.elim hq'
theorem pe_make (M:Mk X.K C f) (F:FnOk X.prog X.w X.K X.mg X.base CX k f fd ps sp) (hr:Room (k + 1) X.A) (hg:Gl X x) (hm:X.mg x=some (.ref C)) (hb:Binds X.K fd ps ds) (hd:Vals dvs ds) (hx:qaJ CX X E)
  (ha:PA X (e::es) t) (hdb:(x==("__debug__":Str))=false:=by decide) (he:starEach (e::es) X.env=(false,eval e X.env)::starEach es X.env:=by rfl) (hpl:(backTo pos (starEach es X.env)).any (·.1)=false:=by rfl) :
  PE X (.Call (.Name x p) (e::es) [] pos) (qem C sp dvs E t):=by
 intro pins s σ H Q I h
 refine wpAny_Call_Name_kw (qch I hg hm ?_ hdb)
 refine PySem.W.callWith_K (h₀:=X.base) I.ok.mod.kin M.kp (thn (ha pos pins s σ H _ I h) fun us s1 ⟨vs,H1,I1,r,q⟩=>⟨I1.kIn,?_⟩) he hpl
 exact run_make M F hr hb hd hx I1 r q
end
section
variable {X:Cx} {CX:CXT} {k:Nat} {f C:Addr} {fd:FuncData} {ps ks:List Str} {sp:Sp} {E:XK} {x m:Str} {p pos apos kpos:Pos} {e o:Expr} {es:List Expr} {kws:List Keyword} {te ta:TE} {t tk:TA} {nm:Option Str}
structure KBinds (K:yg) (fd:FuncData) (ps ks:List Str) (g:List Value→List Value→List Value) (gV:List V→List V→List V):Prop where
 to:∀ (s:Shared) (us ws:List Value),K.In s.heap→(g us ws).length=ps.length→BindsTo s fd ⟨us,ks.zip ws⟩ (ps.zip (g us ws))
 rel:∀ {vs:List V} {us:List Value} {zs:List V} {ws:List Value},Vals vs us→Vals zs ws→Vals (gV vs zs) (g us ws)
variable {g:List Value→List Value→List Value} {gV:List V→List V→List V}
end
structure FnScope (N P:List Str) (sc:Scope):Prop where
 kind:sc.kind=.function
 co:sc.isCoroutine=false
 gen:sc.isGenerator=false
 nd:N.Nodup
 pre:N.take P.length=P
 par:∀ x∈P,sc.names.lookup x=some .local∨sc.names.lookup x=some .cell
 nofree:∀ y∈sc.names,y.2≠.free
theorem fS {N P:List Str} {sc:Scope} (a:sc.kind=.function:=by rfl) (b:sc.isCoroutine=false:=by rfl) (c:sc.isGenerator=false:=by rfl) (d:N.Nodup:=by decide +kernel) (e:N.take P.length=P:=by rfl) (f:∀ x∈P,sc.names.lookup x=some .local∨sc.names.lookup x=some .cell:=by decide +kernel) (g:∀ y∈sc.names,y.2≠.free:=by decide +kernel):FnScope N P sc:=⟨a,b,c,d,e,f,g⟩
theorem qbP {kindOf:Str→Option NameKind} {x:Str}:∀ {binds:List (Str×Value)} {m:Str→Option Value},(∀ v,(x,v)∉binds)→bindL kindOf binds m x=m x
 | [],_,_=>rfl
 | (n,v)::r,m,h=>by
  unfold bindL
  rw [qbP fun w hw=>h w (List.mem_cons_of_mem _ hw)]
  split
  ·have:x≠n:=by rintro rfl;exact h v List.mem_cons_self
   simp [this]
  ·rfl
theorem qbQ {kindOf:Str→Option NameKind} {x:Str}:∀ {binds:List (Str×Value)} {m:Str→Option Value},(∀ v,(x,v)∉binds)→bindC kindOf binds m x=m x
 | [],_,_=>rfl
 | (n,v)::r,m,h=>by
  unfold bindC
  rw [qbQ fun w hw=>h w (List.mem_cons_of_mem _ hw)]
  split
  ·rfl
  ·have:x≠n:=by rintro rfl;exact h v List.mem_cons_self
   simp [this]
theorem qbR {kindOf:Str→Option NameKind} {x:Str} {v:Value}:∀ {P:List Str} {vs:List Value} {i:Nat} {m:Str→Option Value},P.Nodup→P[i]?=some x→vs[i]?=some v→kindOf x=some .local →
  bindL kindOf (P.zip vs) m x=some v
 | [],_,_,_,_,h,_,_=>by simp at h
 | _::_,[],_,_,_,_,h,_=>by simp at h
 | p::P,w::vs,0,m,nd,h1,h2,hk=>by
  simp at h1 h2;subst h1;subst h2
  show bindL kindOf ((p,w)::P.zip vs) m p=_
  unfold bindL
  rw [qbP fun v hv=>(yo.mp nd).1 (List.of_mem_zip hv).1,if_pos hk]
  simp
 | p::P,w::vs,i + 1,m,nd,h1,h2,hk=>by
  show bindL kindOf ((p,w)::P.zip vs) m x=_
  unfold bindL
  exact qbR (i:=i) (yo.mp nd).2 (by simpa using h1) (by simpa using h2) hk
theorem qbS {kindOf:Str→Option NameKind} {x:Str} {v:Value}:∀ {P:List Str} {vs:List Value} {i:Nat} {m:Str→Option Value},P.Nodup→P[i]?=some x→vs[i]?=some v→kindOf x≠some .local →
  bindC kindOf (P.zip vs) m x=some v
 | [],_,_,_,_,h,_,_=>by simp at h
 | _::_,[],_,_,_,_,h,_=>by simp at h
 | p::P,w::vs,0,m,nd,h1,h2,hk=>by
  simp at h1 h2;subst h1;subst h2
  show bindC kindOf ((p,w)::P.zip vs) m p=_
  unfold bindC
  rw [qbQ fun v hv=>(yo.mp nd).1 (List.of_mem_zip hv).1,if_neg hk]
  simp
 | p::P,w::vs,i + 1,m,nd,h1,h2,hk=>by
  show bindC kindOf ((p,w)::P.zip vs) m x=_
  unfold bindC
  exact qbS (i:=i) (yo.mp nd).2 (by simpa using h1) (by simpa using h2) hk
def start (N:List Str) (vs:List V):St:=vs.map some++List.replicate (N.length - vs.length) none
def qex (CX:CXT) (P:Program) (w:World) (K:yg) (mg:Str→Option Value) (base:Heap) (N:List Str) (qual:Str) (scope:Scope) (f:Addr) (cd:Value) (A:Around) (outer:List Env) (s:Shared) (H:Hp) (E:XK):Cx where
 prog:=P
 w:=w
 K:=K
 mg:=mg
 base:=base
 A:=A.deeper (envOfC qual scope s.heap.objs.size f cd)
 N:=N
 s₀:=s
 H₀:=H
 env:=envOfC qual scope s.heap.objs.size f cd
 outer:=outer
 stack:=envOfC qual scope s.heap.objs.size f cd::outer
 ex:=[]
 calm:=true
 fn:=fun _=>true
 pn:=[]
 xe:=fun e s'=>wpAny (model P w) (A.deeper (envOfC qual scope s.heap.objs.size f cd)) (leaving (envOfC qual scope s.heap.objs.size f cd) e) (fun _ s''=>CX outer H s E e s'') (fun e' s''=>CX outer H s E e' s'') s'
theorem qcC {sc:Scope} {n:Nat} {x:Str} (h:sc.names.lookup x=some .cell):∃ c,(cellsFrom n sc.names []).lookup x=some c:=by
 have q:=PySem.W.cellsFrom_some sc.names n [] (.inl h)
 exact Option.isSome_iff_exists.mp q
theorem inv_start {CX:CXT} {P:Program} {w:World} {K:yg} {mg:Str→Option Value} {base:Heap} {N ps:List Str} {qual:Str} {scope:Scope} {f:Addr} {cd:Value} {A:Around} {outer:List Env} {s s1:Shared} {H:Hp} {E:XK} {us:List Value} {vs:List V}
  (S:FnScope N ps scope) (hd:A.handled=none) (e0:Env0 P w K mg base A outer s H) (hl:vs.length=ps.length) (r:Vals vs us)
  (x:InCallC s s.heap.objs.size (bindL (envOfC qual scope s.heap.objs.size f cd).kindOf (ps.zip us) fun _=>none) (cellsFrom (s.heap.objs.size + 1) scope.names []) (bindC (envOfC qual scope s.heap.objs.size f cd).kindOf (ps.zip us) fun _=>none) s1) :
  Inv (qex CX P w K mg base N qual scope f cd A outer s H E) [] (start N vs) H s1:=by
 have hpl:ps.length≤N.length:=by have:=congrArg List.length S.pre;rw [List.length_take] at this;omega
 obtain ⟨h1,tk,rfl,hk⟩:=x.done
 have noA:∀ b:Addr,b∉(qex CX P w K mg base N qual scope f cd A outer s H E).ex:=fun b z=>absurd (show b∈([]:List Addr) from z) (by simp)
 refine ⟨⟨e0.mod,S.kind,rfl,rfl,yh _,fun y z c h1 h2=>?_,fun y hy=>?_,fun y c _ h=>?_,fun _=>hd,Around.frames_deeper e0.frames,.inr ⟨rfl,rfl⟩,fun b z=>absurd z (noA b),e0.bs,e0.bsz,fun b _ _=>noA b,fun b z=>absurd z (noA b),e0.funs,e0.frf⟩,
  rfl,e0.bare,Un.kept hk,⟨_,x.toInCall.ns,fun i y v h1 h2 h3=>?_⟩,fun y c h=>⟨_,x.cell y c h⟩,e0.hok.fresh (yh _),fun y c h=>?_,fun p hp=>absurd (show p∈([]:List (Addr×Obj)) from hp) (by simp),e0.hok.kept hk,?_⟩
 ·exact name_of_addr x.apart (PySem.mem_of_lookup h1) (PySem.mem_of_lookup h2)
 ·have hy:scope.names.lookup y=some .cell∨scope.names.lookup y=some .free:=hy
  rcases hy with hy | hy
  ·exact qcC hy
  ·exact absurd rfl (S.nofree _ (PySem.mem_of_lookup hy))
 ·exact Nat.le_of_lt (x.above y c (PySem.mem_of_lookup h))
 ·have hi:i < vs.length:=by
   unfold start at h2
   by_cases hi:i < vs.length
   ·exact hi
   ·rw [List.getElem?_append_right (by simpa using hi)] at h2
    rw [List.getElem?_replicate] at h2
    split at h2<;>cases h2
  have ha:vs[i]?=some v:=by
   unfold start at h2
   rw [List.getElem?_append_left (by simpa using hi),yd] at h2
   cases e:vs[i]? with
   | none=>rw [e] at h2;cases h2
   | some a=>rw [e] at h2;cases h2;rfl
  obtain ⟨u,hu,rv⟩:=r.get ha
  have hp:ps[i]?=some y:=by
   rw [← S.pre,List.getElem?_take_of_lt (by omega)];exact h1
  have ndP:ps.Nodup:=by rw [← S.pre];exact S.nd.sublist (List.take_sublist _ _)
  refine ⟨u,rv,?_⟩
  rcases S.par y (ye hp) with k | k
  ·exact .inl ⟨k,qbR ndP hp hu k⟩
  ·obtain ⟨c,e⟩:=qcC (n:=s.heap.objs.size + 1) k
   refine .inr ⟨.inl k,c,e,?_⟩
   have q:=x.cell y c e
   rw [qbS ndP hp hu (by show scope.names.lookup y≠_;rw [k];decide)] at q
   exact q
 ·exact e0.hok.fresh (Nat.le_of_lt (x.above y c (PySem.mem_of_lookup h)))
 ·unfold start
  show _=N.length
  rw [List.length_append,ya,List.length_replicate]
  omega
theorem fn_of {CX:CXT} {P:Program} {w:World} {K:yg} {mg:Str→Option Value} {base:Heap} {k:Nat} {f:Addr} {name qual:Str} {params:Arguments} {body:List Stmt} {scope:Scope} {dV kV doc pm cdv ct oc:Value} {an od:Option Addr}
  {osl:Array (Option Value)} {N ps:List Str} {sp:Sp} (lk:K.lookup f=some ⟨oc,od,.func (PySem.W.fnOf name qual params body scope dV kV doc pm an cdv ct),osl⟩) (hcd:PySem.W.codeIn K cdv qual=true) (S:FnScope N ps scope)
  (len:∀ vs H Q E,sp vs H Q E→vs.length=ps.length)
  (hbody:∀ (A:Around) (outer:List Env) (s:Shared) (H:Hp) (vs:List V) (Q:VK) (E:XK),Room k (A.deeper (envOfC qual scope s.heap.objs.size f cdv))→sp vs H Q E →
   ∃ t,PSs (qex CX P w K mg base N qual scope f cdv A outer s H E) body t∧t { nx:=fun _ H'=>Q .non H',rt:=Q } (start N vs) H) :
  FnOk P w K mg base CX (k + 1) f (PySem.W.fnOf name qual params body scope dV kV doc pm an cdv ct) ps sp:=by
 refine ⟨len,fun A outer s H args us vs Q E hr e0 hb r hsp=>?_⟩
 have hl:=len _ _ _ _ hsp
 have KX:K.In s.heap:=e0.mod.kin.keeps fun b o e=>(e0.bs b o e).1
 have lim:s.heap.NoLimit:=e0.mod.nolimit.keeps fun b o e=>(e0.bs b o e).1
 have hkind:∀ y∈ps.zip us,scope.names.lookup y.1=some .local∨(scope.names.lookup y.1=some .cell∧((cellsFrom (s.heap.objs.size + 1) scope.names []).lookup y.1).isSome=true):=fun ⟨n,v⟩ hy=>by
  rcases S.par n (List.of_mem_zip hy).1 with q | q
  ·exact .inl q
  ·exact .inr ⟨q,PySem.W.cellsFrom_some _ _ _ (.inl q)⟩
 refine codeAny_call_function hr.depth (KX _ _ lk) rfl S.co S.gen rfl (PySem.W.codeRec_of KX hcd) (hb _ _ _ _ ?_)
 refine wpAny_newFunctionEnv_cells S.kind hkind fun env he s1 x=>?_
 subst he
 refine ⟨lim.keeps x.toInCall.keep,codeAny_func ?_⟩
 obtain ⟨t,ht,hq⟩:=hbody A outer s H vs Q E (hr.deeper _) hsp
 have I:Inv (qex CX P w K mg base N qual scope f cdv A outer s H E) [] (start N vs) H s1:=inv_start S hr.hd e0 hl r x
 refine wpAny_mono (ht [] s1 (start N vs) H _ I hq) (fun fl s' hs=>?_) fun e s' hs=>hs
 have fin:∀ {σ':St} {H':Hp} {v:V} {u:Value},Inv (qex CX P w K mg base N qual scope f cdv A outer s H E) [] σ' H' s'→RelV v u→Q v H'→CE outer P w H s Q u s':=
  fun {σ' H' v u} J rv q=>⟨v,H',J.os,J.bare,J.base,J.hok,rv,q⟩
 cases fl with
 | ret u =>
  obtain ⟨v,σ',H',J,rv,q⟩:=hs
  exact fin J rv q
 | next =>
  obtain ⟨σ',H',J,q⟩:=hs
  exact fin (v:=V.non) (u:=Value.none) J rfl q
 | brk =>
  obtain ⟨_,_,_,q⟩:=hs
  exact False.elim q
 | cont =>
  obtain ⟨_,_,_,q⟩:=hs
  exact False.elim q
section
variable {X:Cx} {x:Str} {p pos:Pos} {e:Expr} {es:List Expr} {t:TA} {id T:String} {r:List V→Hp→VK→Prop}
def tCB (r:List V→Hp→VK→Prop) (t:TA):TE:=fun σ H Q=>t σ H fun vs H1=>r vs H1 Q
theorem qw (hc:qaf X (.builtin id) r) (hg:Gl X x) (hm:X.mg x=none) (hv:bootBuiltins x=some (.builtin id)) (ha:PA X (e::es) t) (hn:x≠"__name__":=by decide) (hdb:(x==("__debug__":Str))=false:=by decide)
  (he:starEach (e::es) X.env=(false,eval e X.env)::starEach es X.env:=by rfl) (hpl:(backTo pos (starEach es X.env)).any (·.1)=false:=by rfl):PE X (.Call (.Name x p) (e::es) [] pos) (tCB r t):=by
 intro pins s σ H Q I h
 refine wpAny_Call_Name_kw (qaR I hg hm hv ?_ hn hdb)
 exact PyProof.Rows.callWith_builtin1 (thn (ha pos pins s σ H _ I h) fun us s1 ⟨vs,H1,I1,r1,q1⟩=>hc pins s1 σ H1 vs us Q I1 r1 q1) he hpl
theorem zl (hc:qaf X (.type T) r) (hg:Gl X x) (hm:X.mg x=none) (hv:bootBuiltins x=some (.type T)) (ha:PA X (e::es) t) (hn:x≠"__name__":=by decide) (hdb:(x==("__debug__":Str))=false:=by decide)
  (he:starEach (e::es) X.env=(false,eval e X.env)::starEach es X.env:=by rfl) (hpl:(backTo pos (starEach es X.env)).any (·.1)=false:=by rfl):PE X (.Call (.Name x p) (e::es) [] pos) (tCB r t):=by
 intro pins s σ H Q I h
 refine wpAny_Call_Name_kw (qaR I hg hm hv ?_ hn hdb)
 exact PyProof.Rows.callWith_type1 (thn (ha pos pins s σ H _ I h) fun us s1 ⟨vs,H1,I1,r1,q1⟩=>hc pins s1 σ H1 vs us Q I1 r1 q1) he hpl
end
end L2
namespace HT
open PySem PyProof.Rows
section
open PySem.SeqAt
open PySem.AutoSeq1 (wpAny_loadPart')
open PySem.MeetsSeq PySem.MeetsSeq2 PySem.MeetsSeq3
end
section
variable {prog:Program} {w:World} {A:Around} {E:Value→Shared→Prop} {s:Shared}
theorem cat_tup {t b:Addr} {vs ws:List Value} {Q:Value→Shared→Prop} (ht:IsTup s.heap t vs.toArray) (hb:IsTup s.heap b ws.toArray) (hv:vs≠[])
  (h1:ws=[]→Q (.ref t) s) (h2:ws≠[]→Q (.ref s.heap.objs.size) { s with heap:=s.heap.push { cls:=.type "tuple",data:=.seq (vs++ws).toArray } })
  (hsz:vs.length + ws.length≤sizeLine):wpAny (model prog w) A (binaryOp .Add (.ref t) (.ref b)) Q E s:=by
 obtain ⟨⟨cls,dd,data,sl⟩,ho,hc,n,hd⟩:=id ht
 obtain ⟨⟨cls2,dd2,data2,sl2⟩,ho2,hc2,n2,hd2⟩:=id hb
 simp only at hc hd hc2 hd2
 subst hc hd hc2 hd2
 have e:vs.toArray++ws.toArray=(vs++ws).toArray:=by simp
 by_cases hw:ws=[]
 ·exact concat_meets ⟨_,ho,rfl⟩ ⟨_,ho2,rfl⟩ noFill_tuple_add seq_tuple_add PySem.F.slot_tuple_add PySem.F.entry_tuple_add (PySem.F.args_tuple_add_2 _ _)
   (tuple_addW1 t b vs.toArray ws.toArray n n2 dd dd2 sl sl2 (by simpa using hv) (by simp [hw])) ⟨ho,ho2,h1 hw⟩
 ·refine concat_meets ⟨_,ho,rfl⟩ ⟨_,ho2,rfl⟩ noFill_tuple_add seq_tuple_add PySem.F.slot_tuple_add PySem.F.entry_tuple_add (PySem.F.args_tuple_add_2 _ _)
   (tuple_addW2 t b vs.toArray ws.toArray n n2 dd dd2 sl sl2 (by simpa using hv) (by simpa using hw) (by rw [List.size_toArray,List.size_toArray];exact hsz)) ⟨ho,ho2,?_⟩
  rw [e]
  exact h2 hw
def sIx (n d:Nat):Option Int→Nat
 | none=>d
 | some v=>if v < 0 then (v + (n:Int)).toNat else min v.toNat n
theorem sIx_none (n d:Nat):sIx n d none=d:=rfl
theorem sIx_nat (n d k:Nat):sIx n d (some (k:Int))=min k n:=by
 show (if (k:Int) < 0 then ((k:Int) + (n:Int)).toNat else min (k:Int).toNat n)=min k n
 rw [if_neg (by omega),Int.toNat_natCast]
theorem sIx_le (n d:Nat) (hd:d≤n) (o:Option Int):sIx n d o≤n:=by
 cases o with
 | none=>exact hd
 | some v =>
  show (if v < 0 then (v + (n:Int)).toNat else min v.toNat n)≤n
  by_cases hv:v < 0
  ·rw [if_pos hv];omega
  ·rw [if_neg hv];exact Nat.min_le_right _ _
theorem qde (v:Int) (n d:Nat):(if v < 0 then max (v + (n:Int)) 0 else min v (n:Int))=((sIx n d (some v):Nat):Int):=by
 show (if v < 0 then max (v + (n:Int)) 0 else min v (n:Int))=(((if v < 0 then (v + (n:Int)).toNat else min v.toNat n):Nat):Int)
 by_cases hv:v < 0
 ·simp only [if_pos hv];omega
 ·simp only [if_neg hv];omega
theorem adjust_gen (lo hi:Option Int) (n:Nat):Builtin.Slice.sliceAdjust lo hi 1 (n:Int)=(((sIx n 0 lo:Nat):Int),((sIx n n hi:Nat):Int)):=by
 have h1:¬ ((1:Int) < 0):=by omega
 unfold Builtin.Slice.sliceAdjust
 simp only [h1,if_false]
 refine Prod.ext ?_ ?_
 ·cases lo with
  | none=>rfl
  | some v=>exact qde v n 0
 ·cases hi with
  | none=>rfl
  | some v=>exact qde v n n
theorem places_gen (i j:Nat):Builtin.Slice.slicePlaces (i:Int) (j:Int) 1=j - i:=by
 unfold Builtin.Slice.slicePlaces
 have h1:(1:Int) > 0:=by omega
 simp only [h1,if_true,Int.ediv_one]
 split<;>omega
theorem qaF {v:Value} {o:Option Int} {Q:Option Int→Shared→Prop} (p:IsPart v o) (h:Q o s):wpAny (model prog w) A (Builtin.Slice.slicePartIndex v) Q E s:=by
 cases p with
 | none=>exact slicePart_none h
 | int i t=>exact slicePart_int h
theorem sliceApplied_gen {sl:Addr} {vl vu:Value} {lo hi:Option Int} {n:Nat} {Q:Int×Int×Nat→Shared→Prop} (hs:s.heap.IsSliceOf sl vl vu .none) (pl:IsPart vl lo) (pu:IsPart vu hi)
  (h:Q (((sIx n 0 lo:Nat):Int),1,sIx n n hi - sIx n 0 lo) s):wpAny (model prog w) A (Builtin.Slice.sliceApplied (.ref sl) (pure (n:Int))) Q E s:=by
 obtain ⟨os,hos,hcs,hds⟩:=id hs
 unfold Builtin.Slice.sliceApplied Builtin.Slice.sliceFields
 refine wpAny_bind (wpAny_bind (wpAny_field hos hds (x:=vl) rfl (wpAny_bind (wpAny_field hos hds (x:=vu) rfl (wpAny_bind (wpAny_field hos hds (x:=.none) rfl (wpAny_pure ?_)))))))
 refine wpAny_bind (slicePart_none ?_)
 show wpAny _ _ (if ((1:Int)==0)=true then _ else _) _ _ s
 rw [if_neg (by decide)]
 refine wpAny_bind (qaF pl (wpAny_bind (qaF pu (wpAny_bind (wpAny_pure ?_)))))
 show wpAny _ _ (match Builtin.Slice.sliceAdjust lo hi 1 (n:Int) with | (lo,hi)=>pure (lo,(1:Int),Builtin.Slice.slicePlaces lo hi 1)) _ _ s
 rw [adjust_gen lo hi n]
 show wpAny _ _ (pure (((sIx n 0 lo:Nat):Int),(1:Int),Builtin.Slice.slicePlaces ((sIx n 0 lo:Nat):Int) ((sIx n n hi:Nat):Int) 1)) _ _ s
 rw [places_gen]
 exact wpAny_pure h
theorem pick_gen (xs:Array Value) (i k:Nat):((List.range k).filterMap fun (m:Nat)=>xs[((i:Int) + (m:Int) * 1).toNat]?).toArray=((xs.toList.drop i).take k).toArray:=by
 have e:(fun (m:Nat)=>xs[((i:Int) + (m:Int) * 1).toNat]?)=fun m=>xs[i + m]?:=by
  funext m
  have:((i:Int) + (m:Int) * 1).toNat=i + m:=by omega
  rw [this]
 rw [e]
 have:=pick_run xs i k
 rw [List.filterMap_map] at this
 have e2:((fun x=>xs[x]?) ∘ fun x=>i + x)=fun m=>xs[i + m]?:=rfl
 rw [e2] at this
 rw [this]
theorem getItem_tuple_cut {t sl:Addr} {items:Array Value} {vl vu:Value} {lo hi:Option Int} {Q:Value→Shared→Prop} (ht:IsTup s.heap t items) (hs:s.heap.IsSliceOf sl vl vu .none) (pl:IsPart vl lo) (pu:IsPart vu hi)
  (hw:¬ (sIx items.size 0 lo=0∧sIx items.size items.size hi=items.size))
  (h:Q (.ref s.heap.objs.size) { s with heap:=s.heap.push { cls:=.type "tuple",data:=.seq ((items.toList.drop (sIx items.size 0 lo)).take (sIx items.size items.size hi - sIx items.size 0 lo)).toArray } })
  (hsz:items.size≤sizeLine):wpAny (model prog w) A (getItem (.ref t) (.ref sl)) Q E s:=by
 have htake:sizeOk (.seq ((items.toList.drop (sIx items.size 0 lo)).take (sIx items.size items.size hi - sIx items.size 0 lo)).toArray):=by
  show ((items.toList.drop (sIx items.size 0 lo)).take (sIx items.size items.size hi - sIx items.size 0 lo)).toArray.size≤sizeLine
  rw [List.size_toArray,List.length_take,List.length_drop,Array.length_toList]
  omega
 have hj:sIx items.size items.size hi≤items.size:=sIx_le _ _ (yh _) hi
 obtain ⟨os,hos,hcs,hds⟩:=id hs
 have hTs:s.TypeIs (.ref sl) "slice":=⟨os,hos,hcs⟩
 unfold getItem
 try with_reducible refine wpAny_holding ?_
 first | refine wpAny_bind (wpAny_pure ?_) | skip
 refine wpAny_bind (wpAny_sequenceKey ht.typeIs (by decide) ?_)
 refine wpAny_bind (wpAny_callSpecial?_slot (name:=Str.ofString "__getitem__") ht.typeIs PyProof.Rows.slot_tuple_getitem
  (wpAny_call_entry PyProof.Rows.slot_tuple_getitem ht.typeIs entry_tuple_getitem ?_ (args_tuple_getitem _ _)))
 show wpAny _ _ (Builtin.Tuple.tupleItemsOf (.ref t)>>=_) _ _ s
 refine wpAny_bind (tupleItemsOf_ ht ?_)
 refine wpAny_bind (wpAny_typeOf hTs ?_)
 rw [if_pos (by decide)]
 refine wpAny_bind (sliceApplied_gen hs pl pu ?_)
 have hno:¬ ((((sIx items.size 0 lo:Nat):Int)==0&&(1:Int)==1&&(sIx items.size items.size hi - sIx items.size 0 lo)==items.size)=true):=by
  intro q
  rw [Bool.and_eq_true,Bool.and_eq_true] at q
  have q1:((sIx items.size 0 lo:Nat):Int)=0:=eq_of_beq q.1.1
  have q2:sIx items.size items.size hi - sIx items.size 0 lo=items.size:=eq_of_beq q.2
  exact hw ⟨by omega,by omega⟩
 show wpAny _ _ (if (((sIx items.size 0 lo:Nat):Int)==0&&(1:Int)==1&&(sIx items.size items.size hi - sIx items.size 0 lo)==items.size)=true then _ else _) _ _ s
 rw [if_neg hno,pick_gen]
 first
  | exact wpAny_bind (m:=Builtin.Tuple.tupleExact _) (wpAny_newObj_type (wpAny_pure ⟨_,rfl,wpAny_pure h⟩) htake)
  | exact wpAny_bind (m:=Builtin.Tuple.tupleExact _) (wpAny_newObj_type (wpAny_bind (wpAny_pure (wpAny_pure ⟨_,rfl,wpAny_pure h⟩))) htake)
  | exact wpAny_bind (wpAny_bind (m:=Builtin.Tuple.tupleExact _) (wpAny_newObj_type (wpAny_pure (wpAny_pure ⟨_,rfl,wpAny_pure h⟩)) htake))
  | exact wpAny_bind (wpAny_bind (m:=Builtin.Tuple.tupleExact _) (wpAny_newObj_type (wpAny_pure ⟨_,rfl,wpAny_pure h⟩) htake))
end
end HT
namespace L2
open PySem PySem.Spec PyProof.Rows
abbrev TO:=St→Hp→(Option Int→Hp→Prop)→Prop
def PO (X:Cx) (e:Option Expr) (t:TO):Prop:=
 ∀ (pins:List (Addr×Obj)) (s:Shared) (σ:St) (H:Hp) (Q:Option Int→Hp→Prop),Inv X pins σ H s→t σ H Q →
  wpAny (model X.prog X.w) X.A (evalPart e X.env) (fun u s'=>∃ o H',Inv X pins σ H' s'∧IsPart u o∧Q o H') X.xe s
def qdf:TO:=fun _ H Q=>Q none H
def qeI (t:TE):TO:=fun σ H Q=>t σ H fun x H1=>∃ i,x=.int i∧Q (some i) H1
section
variable {X:Cx} {e:Expr} {te:TE} {lo hi:Option Expr} {tl th:TO} {pos p2:Pos}
theorem zm:PO X none qdf:=by
 intro pins s σ H Q I h
 rw [evalPart_none]
 exact wpAny_pure ⟨none,H,I,.none,h⟩
theorem jQ (h:PE X e te):PO X (some e) (qeI te):=by
 intro pins s σ H Q I hw
 rw [evalPart_some]
 refine thn (h pins s σ H _ I hw) fun u s1 ⟨x,H1,I1,r1,q1⟩=>?_
 obtain ⟨i,rfl,q⟩:=q1
 obtain ⟨t,rfl⟩:=r1
 exact ⟨some i,H1,I1,.int i t,q⟩
def SlR (X:Cx) (r:V→Option Int→Option Int→Hp→VK→Prop):Prop:=
 ∀ (pins:List (Addr×Obj)) (s:Shared) (σ:St) (H:Hp) (x:V) (v vl vu:Value) (lo hi:Option Int) (sl:Addr) (Q:VK),Inv X pins σ H s→RelV x v→s.heap.IsSliceOf sl vl vu .none→IsPart vl lo→IsPart vu hi→r x lo hi H Q →
  ∃ T id,typeLookup (.type T) "__getitem__"=pure (some (.builtin id))∧s.TypeIs v T∧wpAny (model X.prog X.w) X.A (getItem v (.ref sl)) (EP X pins σ Q) X.xe s
def tSl (r:V→Option Int→Option Int→Hp→VK→Prop) (te:TE) (tl th:TO):TE:=fun σ H Q=>te σ H fun x H1=>tl σ H1 fun l H2=>th σ H2 fun u H3=>r x l u H3 Q
theorem jR {r:V→Option Int→Option Int→Hp→VK→Prop} (hr:SlR X r) (he:PE X e te) (hl:PO X lo tl) (hu:PO X hi th):PE X (.Subscript e (.Slice lo hi none p2) pos) (tSl r te tl th):=by
 intro pins s σ H Q I h
 refine Subscript_ (thn (he pins s σ H _ I h) fun v s1 ⟨x,H1,I1,r1,q1⟩=>?_)
 refine wpAny_Slice (thn (hl pins s1 σ H1 _ I1 q1) fun vl s2 ⟨l,H2,I2,pl,q2⟩=>thn (hu pins s2 σ H2 _ I2 q2) fun vu s3 ⟨u,H3,I3,pu,q3⟩=>?_)
 rw [evalPart_none]
 refine wpAny_pure ?_
 have I4:Inv X pins σ H3 { s3 with heap:=s3.heap.push { cls:=.type "slice",data:=.fields #[vl,vu,.none] } }:=I3.kept (t':=s3.toks) fun b ob q=>Heap.get?_push_of_some _ q
 obtain ⟨T,id,hT,ht,hg⟩:=hr pins { s3 with heap:=s3.heap.push { cls:=.type "slice",data:=.fields #[vl,vu,.none] } } σ H3 x v vl vu l u s3.heap.objs.size Q I4 r1 (Heap.IsSliceOf.new ..) pl pu q3
 show wpAny (model X.prog X.w) X.A (subscriptTail e (.Slice lo hi none p2) v (.ref s3.heap.objs.size)) (EP X pins σ Q) X.xe { s3 with heap:=s3.heap.push { cls:=.type "slice",data:=.fields #[vl,vu,.none] } }
 exact tail_any (ops:=[.ref s3.heap.objs.size,v]) ht hT hg (by with_unfolding_all rfl)
def qcD (xs:List V) (lo hi:Option Int):List V:=(xs.drop (HT.sIx xs.length 0 lo)).take (HT.sIx xs.length xs.length hi - HT.sIx xs.length 0 lo)
theorem qaW (xs:List V) (lo hi:Option Int):(qcD xs lo hi).length≤xs.length:=by
 unfold qcD
 rw [List.length_take,List.length_drop]
 omega
def qfw (K:yg):V→Option Int→Option Int→Hp→VK→Prop:=fun x lo hi H Q=>∃ a xs,x=.ref a∧SqT K H a xs ∧
 ¬ (HT.sIx xs.length 0 lo=0∧HT.sIx xs.length xs.length hi=xs.length)∧∀ p,H p=none→Q (.ref p) (upd H p (.tup (qcD xs lo hi)))
theorem sl_tup:SlR X (qfw X.K):=by
 intro pins s σ H x v vl vu lo hi sl Q I rx hs pl pu h
 obtain ⟨a,xs,rfl,hx,hw,q⟩:=h
 cases rx
 obtain ⟨its,r,ht,hz⟩:=I.tuple hx
 have hlen:its.toArray.size=xs.length:=by rw [List.size_toArray];exact r.length.symm
 refine ⟨"tuple",_,PyProof.Rows.slot_tuple_getitem.lookup,ht.typeIs,?_⟩
 refine HT.getItem_tuple_cut ht hs pl pu (by rw [hlen];exact hw) ?_ (by rw [hlen];exact hz)
 rw [hlen]
 refine ⟨.ref s.heap.objs.size,_,I.laid (t':=s.toks) (o:=.tup (qcD xs lo hi)) (fun b ob q=>Heap.get?_push_of_some _ q) (yh _) ?_,rfl,q _ (I.hok.fresh (yh _))⟩
 exact ⟨yi (qaW xs lo hi) hz,_,(r.drop (HT.sIx xs.length 0 lo)).take (HT.sIx xs.length xs.length hi - HT.sIx xs.length 0 lo),IsTup.new _ _⟩
def qeJ (K:yg):R2:=fun x y H Q=>∃ a b xs ys,x=.ref a∧y=.ref b∧SqT K H a xs∧SqT K H b ys∧xs≠[]∧xs.length + ys.length≤sizeLine ∧
 (ys=[]→Q (.ref a) H)∧(ys≠[]→∀ p,H p=none→Q (.ref p) (upd H p (.tup (xs++ys))))
theorem Vals.nil_iff {xs:List V} {us:List Value} (r:Vals xs us):us=[]↔xs=[]:=by
 cases r with
 | nil=>simp
 | cons _ _=>simp
theorem op_catT:OpR X (binaryOp .Add) (qeJ X.K):=by
 intro pins s σ H x y v u Q I rx ry h
 obtain ⟨a,b,xs,ys,rfl,rfl,ha,hb,hx,hz,q1,q2⟩:=h
 cases rx
 cases ry
 obtain ⟨its,r1,p1,_⟩:=I.tuple ha
 obtain ⟨its2,r2,p2,_⟩:=I.tuple hb
 refine HT.cat_tup p1 p2 (fun z=>hx (r1.nil_iff.mp z)) (fun z=>⟨.ref a,H,I,rfl,q1 (r2.nil_iff.mp z)⟩) (fun z=>?_) (by rw [← r1.length,← r2.length];exact hz)
 refine ⟨.ref s.heap.objs.size,_,I.laid (t':=s.toks) (o:=.tup (xs++ys)) (fun b ob q=>Heap.get?_push_of_some _ q) (yh _) ?_,rfl,q2 (fun w=>z (r2.nil_iff.mpr w)) _ (I.hok.fresh (yh _))⟩
 exact ⟨by rw [List.length_append];exact hz,_,r1.append r2,IsTup.new _ _⟩
end
def ixN (n:Nat) (i:Int):Option Nat:=if 0≤i then (if i < n then some i.toNat else none) else if -(n:Int)≤i then some (i + n).toNat else none
def atI {α:Type} (xs:List α) (i:Int):Option α:=(ixN xs.length i).bind fun j=>xs[j]?
theorem qck {n:Nat} {i:Int} {j:Nat} (h:ixN n i=some j):seqIndex? i n=some j∧j < n∧-(n:Int)≤i∧i < n:=by
 unfold ixN at h
 by_cases h0:0≤i
 ·rw [if_pos h0] at h
  by_cases h1:i < n
  ·rw [if_pos h1] at h
   have e:i.toNat=j:=ym h
   exact ⟨by rw [seqIndex_of h0 h1,e],by omega,by omega,h1⟩
  ·rw [if_neg h1] at h;cases h
 ·rw [if_neg h0] at h
  by_cases h1:-(n:Int)≤i
  ·rw [if_pos h1] at h
   have e:(i + n).toNat=j:=ym h
   exact ⟨by rw [seqIndex_neg (by omega) h1,e],by omega,h1,by omega⟩
  ·rw [if_neg h1] at h;cases h
theorem qcl {α:Type} {xs:List α} {i:Int} {v:α} (h:atI xs i=some v):∃ j,seqIndex? i xs.length=some j∧xs[j]?=some v∧j < xs.length∧-(xs.length:Int)≤i∧i < xs.length:=by
 unfold atI at h
 cases e:ixN xs.length i with
 | none=>rw [e] at h;cases h
 | some j =>
  rw [e] at h
  obtain ⟨h1,h2,h3,h4⟩:=qck e
  exact ⟨j,h1,h,h2,h3,h4⟩
theorem qz {α:Type} {xs:List α} {j:Nat} {v:α} (h:xs[j]?=some v):atI xs (j:Int)=some v:=by
 have hj:j < xs.length:=(yc.mp h).1
 have e:ixN xs.length (j:Int)=some j:=by
  unfold ixN
  rw [if_pos (by omega),if_pos (by omega)];simp
 unfold atI;rw [e];exact h
theorem atI_last {α:Type} (xs:List α) (v:α):atI (xs++[v]) (-1)=some v:=by
 have hl:(xs++[v]).length=xs.length + 1:=by simp
 have e:ixN (xs++[v]).length (-1)=some xs.length:=by
  unfold ixN
  rw [hl,if_neg (by decide),if_pos (by omega)]
  congr 1
  omega
 unfold atI
 rw [e]
 show (xs++[v])[xs.length]?=some v
 simp
def PlainIx (b:Expr):Prop:=∀ o i,subscripted b false o i=operate [o,i] (getItem o i)
def IxR (X:Cx) (r:R2):Prop:=
 ∀ (value slice:Expr) (pins:List (Addr×Obj)) (s:Shared) (σ:St) (H:Hp) (x y:V) (v u:Value) (Q:VK),Inv X pins σ H s→RelV x v→RelV y u→r x y H Q →
  subscripted slice false v u=operate [v,u] (getItem v u)→wpAny (model X.prog X.w) X.A (subscriptTail value slice v u) (EP X pins σ Q) X.xe s
def MtR (X:Cx) (id:String) (r:V→List V→Hp→VK→Prop):Prop:=
 ∀ (pins:List (Addr×Obj)) (s:Shared) (σ:St) (H:Hp) (x:V) (xs:List V) (v:Value) (us:List Value) (Q:VK),Inv X pins σ H s→RelV x v→Vals xs us→r x xs H Q →
  wpAny (model X.prog X.w) X.A (call (.builtin id) (v::us)) (EP X pins σ Q) X.xe s
section
variable {X:Cx} {a b:Expr} {ta tb:TE} {pos:Pos}
theorem IxR.or {r r':R2} (h:IxR X r) (h':IxR X r'):IxR X (fun x y H Q=>r x y H Q∨r' x y H Q):=by
 intro value slice pins s σ H x y v u Q I rx ry q hs
 rcases q with q | q
 ·exact h value slice pins s σ H x y v u Q I rx ry q hs
 ·exact h' value slice pins s σ H x y v u Q I rx ry q hs
theorem qx {r:R2} (hr:IxR X r) (ha:PE X a ta) (hb:PE X b tb) (hs:PlainIx b):PE X (.Subscript a b pos) (tOp r ta tb):=by
 intro pins s σ H Q I h
 exact Subscript_ (qfc ha hb I h fun v u s2 x y H2 I2 rx ry q=>hr a b pins s2 σ H2 x y v u Q I2 rx ry q (hs _ _))
def qfx (K:yg):R2:=fun x y H Q=>∃ p xs i v,x=.ref p∧y=.int i∧SqL K H p xs∧atI xs i=some v∧Q v H
def qfy (K:yg):R2:=fun x y H Q=>∃ p xs i v,x=.ref p∧y=.int i∧SqT K H p xs∧atI xs i=some v∧Q v H
def qfz:R2:=fun x y H Q=>∃ z i c,x=.str z∧y=.int i∧z.length≤sizeLine∧atI z.cps.toList i=some c∧Q (.str ⟨#[c]⟩) H
theorem ix_list:IxR X (qfx X.K):=by
 intro value slice pins s σ H x y v u Q I rx ry h hs
 obtain ⟨p,xs,i,z,rfl,rfl,hq,he,q⟩:=h
 cases rx
 obtain ⟨t,rfl⟩:=ry
 obtain ⟨its,r,pl,hz⟩:=I.list hq
 obtain ⟨j,h1,h2,h3,h4,h5⟩:=qcl he
 obtain ⟨w,ew,rw'⟩:=r.get h2
 have hl:=r.length
 have hn:=qbf
 have fin:EP X pins σ Q w s:=⟨z,H,I,rw',q⟩
 by_cases h0:0≤i
 ·have hj:i.toNat=j:=by
   rw [seqIndex_of h0 h5] at h1
   exact ym h1
  exact item_listR pl.isList h0 (by omega) (by rw [hj];simpa using ew) fin hs
 ·have hj:(i + (its.toArray.size:Int)).toNat=j:=by
   rw [seqIndex_neg (by omega) h4] at h1
   rw [List.size_toArray,← hl]
   exact ym h1
  exact subscriptTail_builtinR (x:=w) pl.isList.typeIs slot_list_getitem.lookup
   (wpAny_getItem_list_neg (Q:=fun r s'=>r=w∧EP X pins σ Q r s') pl.isList (by omega) (by rw [List.size_toArray]<;>omega) (by omega) (by rw [hj];simpa using ew) ⟨rfl,fin⟩) hs
theorem ix_tup:IxR X (qfy X.K):=by
 intro value slice pins s σ H x y v u Q I rx ry h hs
 obtain ⟨p,xs,i,z,rfl,rfl,hq,he,q⟩:=h
 cases rx
 obtain ⟨t,rfl⟩:=ry
 obtain ⟨its,r,pl,hz⟩:=I.tuple hq
 obtain ⟨j,h1,h2,h3,h4,h5⟩:=qcl he
 obtain ⟨w,ew,rw'⟩:=r.get h2
 have hl:=r.length
 have hn:=qbf
 have fin:EP X pins σ Q w s:=⟨z,H,I,rw',q⟩
 exact subscriptTail_builtinR (x:=w) pl.typeIs slot_tuple_getitem.lookup
  (getItem_tuple (j:=j) (Q:=fun r s'=>r=w∧EP X pins σ Q r s') pl (by omega) (by omega) (by rw [List.size_toArray,← hl];exact h1) (by simpa using ew) ⟨rfl,fin⟩) hs
theorem ix_str:IxR X qfz:=by
 intro value slice pins s σ H x y v u Q I rx ry h hs
 obtain ⟨z,i,c,rfl,rfl,hz,he,q⟩:=h
 obtain ⟨t,rfl⟩:=rx
 obtain ⟨t',rfl⟩:=ry
 obtain ⟨j,h1,h2,h3,h4,h5⟩:=qcl he
 have hl:z.cps.toList.length=z.length:=by simp [Str.length]
 rw [hl] at h1 h4 h5
 have hn:=qbf
 exact tail_any (typeIs_str s z t) slot_str_getitem.lookup (getItem_str (c:=c) (by
  have e1:decide (i < -(2 ^ 63:Int))=false:=yl (by omega)
  have e2:decide (i ≥ 2 ^ 63)=false:=yl (by omega)
  rw [e1,e2,Bool.or_false]) (by rw [h1];simpa using h2) ⟨.str ⟨#[c]⟩,H,I.tok _,⟨_,rfl⟩,q⟩) hs
def rIx (K:yg):R2:=fun x y H Q=>qfx K x y H Q∨qfy K x y H Q∨qfz x y H Q
theorem ix_seq:IxR X (rIx X.K):=ix_list.or (ix_tup.or ix_str)
theorem mapSeq_set (its:List Value) (n j:Nat) (u:Value):Obj.mapSeq (·.setIfInBounds j u) { cls:=.type "list",data:=.seq its.toArray n }={ cls:=.type "list",data:=.seq (its.set j u).toArray n }:=by
 simp [Obj.mapSeq]
theorem Inv.lst {pins:List (Addr×Obj)} {σ:St} {H:Hp} {s:Shared} {p:Addr} {xs:List V} (I:Inv X pins σ H s) (h:H p=some (.lst xs)) :
  ∃ (its:List Value) (n:Nat),Vals xs its∧s.heap.get? p=some { cls:=.type "list",data:=.seq its.toArray n }∧xs.length≤sizeLine:=by
 obtain ⟨z,its,n,r,e⟩:=I.hok p _ h
 exact ⟨its,n,r,e,z⟩
theorem Inv.lstUpd {pins:List (Addr×Obj)} {σ:St} {H:Hp} {s:Shared} {p:Addr} {xs ys:List V} {its its':List Value} {n n':Nat} {f:Obj→Obj} (I:Inv X pins σ H s) (h:H p=some (.lst xs))
  (ho:s.heap.get? p=some { cls:=.type "list",data:=.seq its.toArray n }) (hf:f { cls:=.type "list",data:=.seq its.toArray n }={ cls:=.type "list",data:=.seq its'.toArray n' }) (r:Vals ys its') (hz:ys.length≤sizeLine) (t:Nat) :
  Inv X pins σ (upd H p (.lst ys)) { s with heap:=s.heap.update p f,toks:=t }:=by
 have e:(s.heap.update p f).get? p=some { cls:=.type "list",data:=.seq its'.toArray n' }:=by
  rw [Heap.get?_update_self f ho (by rw [hf]<;>rfl),hf]
 refine I.write (x:=p) (e:=p) (by rw [h];trivial) (.inl rfl) (fun b u hb q=>(Heap.get?_update_other _ _ (Ne.symm hb)).trans q) ⟨_,e⟩ ?_
 exact ⟨hz,its',n',r,e⟩
def qen:V→V→V→Hp→(Hp→Prop)→Prop:=fun o i v H Q=>∃ p xs k j,o=.ref p∧i=.int k∧H p=some (.lst xs)∧ixN xs.length k=some j∧Q (upd H p (.lst (xs.set j v)))
theorem set_list:qfb X qen:=by
 intro pins s σ H o i v ov iv u Q I ro ri rv h
 obtain ⟨p,xs,k,j,rfl,rfl,hp,hj,q⟩:=h
 cases ro
 obtain ⟨t,rfl⟩:=ri
 obtain ⟨its,n,r,ho,hz⟩:=I.lst hp
 obtain ⟨h1,h2,h3,h4⟩:=qck hj
 have hl:=r.length
 have hn:=qbf
 have I':Inv X pins σ (upd H p (.lst (xs.set j v))) { s with heap:=s.heap.update p (Obj.mapSeq (·.setIfInBounds j u)) }:=
  I.lstUpd hp ho (mapSeq_set its n j u) (r.set rv j) (by rw [List.length_set];exact hz) s.toks
 by_cases h0:0≤k
 ·have hk:k.toNat=j:=by
   rw [seqIndex_of h0 h4] at h1
   exact ym h1
  exact PySem.W.ki_setAt ho h0 (by omega) (by rw [List.size_toArray,← hl];exact h4) (by rw [hk];exact ⟨_,I',q⟩)
 ·have hk:(k + (its.toArray.size:Int)).toNat=j:=by
   rw [seqIndex_neg (by omega) h3] at h1
   rw [List.size_toArray,← hl]
   exact ym h1
  exact PySem.W.ki_setBack ho (by omega) (by rw [List.size_toArray,← hl];exact h3) (by omega) (by rw [hk];exact ⟨_,I',q⟩)
theorem slice_bounds (lo hi:Option Int) (n:Nat):(sliceBounds lo hi none n).1=((HT.sIx n 0 lo:Nat):Int)∧(sliceBounds lo hi none n).2.1=((HT.sIx n n hi:Nat):Int)∧(sliceBounds lo hi none n).2.2=1:=by
 refine ⟨?_,?_,rfl⟩
 ·cases lo with
  | none=>simp [sliceBounds,HT.sIx]
  | some i =>
   simp only [sliceBounds,HT.sIx,Option.getD_none,show (1:Int) > 0 by decide,if_true]
   by_cases h:i < 0
   ·simp only [h,if_true]<;>omega
   ·simp only [h,if_false]<;>omega
 ·cases hi with
  | none=>simp [sliceBounds,HT.sIx]
  | some i =>
   simp only [sliceBounds,HT.sIx,Option.getD_none,show (1:Int) > 0 by decide,if_true]
   by_cases h:i < 0
   ·simp only [h,if_true]<;>omega
   ·simp only [h,if_false]<;>omega
theorem slicePick_cut (its:List Value) (lo hi:Option Int):slicePick its.toArray lo hi none=((its.drop (HT.sIx its.length 0 lo)).take (HT.sIx its.length its.length hi - HT.sIx its.length 0 lo)).toArray:=by
 obtain ⟨h1,h2,h3⟩:=slice_bounds lo hi its.toArray.size
 unfold slicePick
 rw [h1,h2,h3]
 simp only [sliceRange_one,pick_run,List.size_toArray]<;>rfl
def qfA (K:yg):V→Option Int→Option Int→Hp→VK→Prop:=fun x lo hi H Q=>∃ a xs,x=.ref a∧SqL K H a xs∧∀ p,H p=none→Q (.ref p) (upd H p (.lst (qcD xs lo hi)))
theorem sl_list:SlR X (qfA X.K):=by
 intro pins s σ H x v vl vu lo hi sl Q I rx hs pl pu h
 obtain ⟨a,xs,rfl,hx,q⟩:=h
 cases rx
 obtain ⟨its,r,ht,hz⟩:=I.list hx
 have hlen:=r.length
 refine ⟨"list",_,slot_list_getitem.lookup,ht.isList.typeIs,?_⟩
 refine wpAny_getItem_list_slice ht.isList hs pl pu .none (by simp) ?_ (by rw [List.size_toArray]<;>omega)
 rw [slicePick_cut,← hlen]
 refine ⟨.ref s.heap.objs.size,_,I.laid (t':=s.toks) (o:=.lst (qcD xs lo hi)) (fun b ob q=>Heap.get?_push_of_some _ q) (yh _) ?_,rfl,q _ (I.hok.fresh (yh _))⟩
 exact ⟨yi (qaW xs lo hi) hz,_,0,(r.drop (HT.sIx xs.length 0 lo)).take (HT.sIx xs.length xs.length hi - HT.sIx xs.length 0 lo),Heap.get?_push_size _ rfl⟩
def qag:V→Bool
 | .non=>true
 | .bl _=>true
 | .int _=>true
 | .str _=>true
 | _=>false
def eqV:V→V→Bool
 | .non,.non=>true
 | .bl a,.bl b=>a==b
 | .bl a,.int b=>(if a then 1 else 0)==b
 | .int a,.bl b=>a==(if b then 1 else 0)
 | .int a,.int b=>a==b
 | .str a,.str b=>a==b
 | _,_=>false
theorem qdg {A:Around} {s:Shared} {y x:V} {u v:Value} (ry:RelV y u) (rx:RelV x v) (fy:qag y=true) (fx:qag x=true):SeqAt.EqAt A s u v (eqV y x):=by
 cases y with
 | non =>
  cases ry
  cases x with
  | non=>cases rx;exact SeqAt.EqAt.same _
  | bl b=>cases rx;exact SeqAt.EqAt.none_bool b
  | int b=>obtain ⟨t,rfl⟩:=rx;exact SeqAt.EqAt.none_int b t
  | str b=>obtain ⟨t,rfl⟩:=rx;exact SeqAt.EqAt.none_str b t
  | _=>exact absurd (show false=true from fx) Bool.false_ne_true
 | bl a =>
  cases ry
  cases x with
  | non=>cases rx;exact SeqAt.EqAt.bool_none a
  | bl b=>cases rx;exact SeqAt.EqAt.bool_bool a b
  | int b=>obtain ⟨t,rfl⟩:=rx;exact SeqAt.EqAt.bool_int a b t
  | str b=>obtain ⟨t,rfl⟩:=rx;exact SeqAt.EqAt.bool_str a b t
  | _=>exact absurd (show false=true from fx) Bool.false_ne_true
 | int a =>
  obtain ⟨t',rfl⟩:=ry
  cases x with
  | non=>cases rx;exact SeqAt.EqAt.int_none a t'
  | bl b=>cases rx;exact SeqAt.EqAt.int_bool a t' b
  | int b=>obtain ⟨t,rfl⟩:=rx;exact SeqAt.EqAt.int_int a t' b t
  | str b=>obtain ⟨t,rfl⟩:=rx;exact SeqAt.EqAt.int_str a t' b t
  | _=>exact absurd (show false=true from fx) Bool.false_ne_true
 | str a =>
  obtain ⟨t',rfl⟩:=ry
  cases x with
  | non=>cases rx;exact SeqAt.EqAt.str_none a t'
  | bl b=>cases rx;exact SeqAt.EqAt.str_bool a t' b
  | int b=>obtain ⟨t,rfl⟩:=rx;exact SeqAt.EqAt.str_int a t' b t
  | str b=>obtain ⟨t,rfl⟩:=rx;exact SeqAt.EqAt.str_str a t' b t
  | _=>exact absurd (show false=true from fx) Bool.false_ne_true
 | _=>exact absurd (show false=true from fy) Bool.false_ne_true
def eqU (x:V) (u:Value):Bool:=match u with
 | .none=>eqV .non x
 | .bool b=>eqV (.bl b) x
 | .int i _=>eqV (.int i) x
 | .str z _=>eqV (.str z) x
 | _=>false
theorem qdh {x y:V} {u:Value} (r:RelV y u) (f:qag y=true):eqU x u=eqV y x:=by
 cases y with
 | non=>cases r;rfl
 | bl b=>cases r;rfl
 | int i=>obtain ⟨t,rfl⟩:=r;rfl
 | str z=>obtain ⟨t,rfl⟩:=r;rfl
 | _=>exact absurd (show false=true from f) Bool.false_ne_true
theorem qaX {x:V}:∀ {xs:List V} {us:List Value},Vals xs us→xs.all qag=true→us.any (eqU x)=xs.any fun y=>eqV y x
 | _,_,.nil,_=>rfl
 | y::xs,u::us,.cons r t,f=>by
  rw [List.all_cons,Bool.and_eq_true] at f
  rw [List.any_cons,List.any_cons,qdh r f.1,qaX t f.2]
theorem zU {A:Around} {s:Shared} {x:V} {v:Value} (rx:RelV x v) (fx:qag x=true):∀ {xs:List V} {us:List Value},Vals xs us→xs.all qag=true→∀ u∈us,SeqAt.EqAt A s u v (eqU x u)
 | _,_,.nil,_=>fun u hu=>by cases hu
 | y::xs,u::us,.cons r t,f=>fun u' hu=>by
  rw [List.all_cons,Bool.and_eq_true] at f
  rcases List.mem_cons.mp hu with rfl | hu
  ·rw [qdh r f.1];exact qdg r rx f.1 fx
  ·exact zU rx fx t f.2 u' hu
def inV (x:V) (xs:List V):Bool:=xs.any fun y=>eqV y x
def rIn (K:yg) (neg:Bool):R2:=fun x y H Q=>∃ p xs,y=.ref p∧(SqL K H p xs∨SqT K H p xs)∧qag x=true∧xs.all qag=true∧Q (.bl (if neg then !inV x xs else inV x xs)) H
theorem op_in_seq:OpR X (compareOp .In) (rIn X.K false):=by
 intro pins s σ H x y v u Q I rx ry h
 obtain ⟨p,xs,rfl,hq,fx,fs,q⟩:=h
 cases ry
 rcases hq with hq | hq
 ·obtain ⟨its,r,pl,hz⟩:=I.list hq
  refine SeqAt.in_listAt (eqU x) pl.isList (fun w hw=>zU rx fx r fs w (by simpa using hw)) ⟨.bl _,H,I,rfl,?_⟩
  rw [show its.toArray.any (eqU x)=its.any (eqU x) by simp,qaX r fs]
  exact q
 ·obtain ⟨its,r,pl,hz⟩:=I.tuple hq
  refine SeqAt.in_tupleAt (eqU x) pl (fun w hw=>zU rx fx r fs w (by simpa using hw)) ⟨.bl _,H,I,rfl,?_⟩
  rw [show its.toArray.any (eqU x)=its.any (eqU x) by simp,qaX r fs]
  exact q
theorem op_notIn_seq:OpR X (compareOp .NotIn) (rIn X.K true):=by
 intro pins s σ H x y v u Q I rx ry h
 obtain ⟨p,xs,rfl,hq,fx,fs,q⟩:=h
 cases ry
 rcases hq with hq | hq
 ·obtain ⟨its,r,pl,hz⟩:=I.list hq
  refine SeqAt.notIn_listAt (eqU x) pl.isList (fun w hw=>zU rx fx r fs w (by simpa using hw)) ⟨.bl _,H,I,rfl,?_⟩
  rw [show its.toArray.any (eqU x)=its.any (eqU x) by simp,qaX r fs]
  exact q
 ·obtain ⟨its,r,pl,hz⟩:=I.tuple hq
  refine SeqAt.notIn_tupleAt (eqU x) pl (fun w hw=>zU rx fx r fs w (by simpa using hw)) ⟨.bl _,H,I,rfl,?_⟩
  rw [show its.toArray.any (eqU x)=its.any (eqU x) by simp,qaX r fs]
  exact q
theorem call_len_seq:qaf X (.builtin "len") (fun xs H Q=>∃ p ys,xs=[.ref p]∧(SqL X.K H p ys∨SqT X.K H p ys)∧Q (.int ys.length) H):=by
 intro pins s σ H xs us Q I r h
 obtain ⟨p,ys,rfl,hq,q⟩:=h
 obtain ⟨u,rfl,rx⟩:=qbr r
 cases rx
 have hn:=qbf
 rcases hq with hq | hq
 ·obtain ⟨its,r',pl,hz⟩:=I.list hq
  have hlen:=r'.length
  exact Calls.call_len_list pl.isList (by simp only [List.size_toArray]<;>omega) ⟨.int ys.length,H,I.tok _,⟨s.toks + 1,by rw [List.size_toArray,hlen]⟩,q⟩
 ·obtain ⟨its,r',pl,hz⟩:=I.tuple hq
  have hlen:=r'.length
  exact len_tuple pl (by simp only [List.size_toArray]<;>omega) ⟨.int ys.length,H,I.tok _,⟨s.toks + 1,by rw [List.size_toArray,hlen]⟩,q⟩
theorem call_len_str:qaf X (.builtin "len") (fun xs H Q=>∃ z,xs=[.str z]∧z.length≤sizeLine∧Q (.int z.length) H):=by
 intro pins s σ H xs us Q I r h
 obtain ⟨z,rfl,hz,q⟩:=h
 obtain ⟨u,rfl,t,rfl⟩:=qbr r
 have hn:=qbf
 exact len_str (by omega) ⟨.int z.length,H,I.tok _,⟨_,rfl⟩,q⟩
theorem call_list_of:qaf X (.type "list") (fun xs H Q=>∃ p ys,xs=[.ref p]∧(SqL X.K H p ys∨SqT X.K H p ys)∧∀ l,H l=none→Q (.ref l) (upd H l (.lst ys))):=by
 intro pins s σ H xs us Q I r h
 obtain ⟨p,ys,rfl,hq,q⟩:=h
 obtain ⟨u,rfl,rx⟩:=qbr r
 cases rx
 have fin:∀ (its:List Value),Vals ys its→ys.length≤sizeLine→∀ (h':Heap) (c':Nat),(∀ b o',s.heap.get? b=some o'→h'.get? b=some o') →
   h'.get? s.heap.objs.size=some { cls:=.type "list",dict:=none,data:=.seq its.toArray c',slots:=#[] }→EP X pins σ Q (.ref s.heap.objs.size) { s with heap:=h' }:=fun its r' hz h' c' kp e =>
  ⟨.ref s.heap.objs.size,_,I.laid (t':=s.toks) kp (yh _) (show ObjOk X.prog X.w _ h' _ (.lst ys) from ⟨hz,its,c',r',e⟩),rfl,q _ (I.hok.fresh (yh _))⟩
 rcases hq with hq | hq
 ·obtain ⟨its,r',pl,hz⟩:=I.list hq
  have hlen:=r'.length
  obtain ⟨o,ho,hc,n,hd⟩:=pl.isList
  exact call_list_seq p (.inl rfl) ho hc hd (fun h' c' kp e=>fin its r' hz h' c' kp e) (by simp only [List.size_toArray]<;>omega)
 ·obtain ⟨its,r',pl,hz⟩:=I.tuple hq
  have hlen:=r'.length
  obtain ⟨o,ho,hc,n,hd⟩:=pl
  exact call_list_seq p (.inr rfl) ho hc hd (fun h' c' kp e=>fin its r' hz h' c' kp e) (by simp only [List.size_toArray]<;>omega)
def tyV (K:yg) (T:String) (x:V) (H:Hp):Prop:=match x with
 | .str _=>T="str"
 | .int _=>T="int"
 | .ref p=>(T="list"∧∃ xs,SqL K H p xs)∨(T="tuple"∧∃ o,K.lookup p=some o∧o.cls=.type "tuple"∧o.dict=none) ∨
   (T="dict"∧((∃ kvs,H p=some (.dK kvs))∨∃ kvs,H p=some (.dT kvs)))∨(T="set"∧∃ S n,H p=some (.set S n))
 | _=>False
theorem tyV_is {pins:List (Addr×Obj)} {σ:St} {H:Hp} {s:Shared} {T:String} {x:V} {v:Value} (I:Inv X pins σ H s) (r:RelV x v) (ty:tyV X.K T x H) :
  s.TypeIs v T∧∀ a,v=.ref a→∃ ob,s.heap.get? a=some ob∧ob.dict=none:=by
 cases x with
 | str z =>
  obtain ⟨t,rfl⟩:=r
  cases (show T="str" from ty)
  exact ⟨typeIs_str s z t,fun _ e=>nomatch e⟩
 | int i =>
  obtain ⟨t,rfl⟩:=r
  cases (show T="int" from ty)
  exact ⟨typeIs_int s i t,fun _ e=>nomatch e⟩
 | ref p =>
  cases r
  rcases ty with ⟨rfl,xs,hq⟩ | ⟨rfl,o,hk,hc,hd⟩ | ⟨rfl,hk⟩ | ⟨rfl,S,n,hk⟩
  ·obtain ⟨its,_,pl,_⟩:=I.list hq
   refine ⟨pl.isList.typeIs,fun a e=>?_⟩
   cases e
   obtain ⟨o,n,e,c,hd,_⟩:=pl
   exact ⟨o,e,hd⟩
  ·refine ⟨⟨o,I.kIn p o hk,hc⟩,fun a e=>?_⟩
   cases e
   exact ⟨o,I.kIn _ o hk,hd⟩
  ·have z:∃ o,s.heap.get? p=some o∧o.ExactDict:=by
    rcases hk with ⟨kvs,hk⟩ | ⟨kvs,hk⟩
    ·obtain ⟨_,_,_,_,o,_,_,e,ex,_⟩:=I.hok p _ hk
     exact ⟨o,e,ex⟩
    ·obtain ⟨_,_,_,_,o,_,_,e,ex,_⟩:=I.hok p _ hk
     exact ⟨o,e,ex⟩
   obtain ⟨o,e,ex⟩:=z
   refine ⟨⟨o,e,ex.1⟩,fun a e2=>?_⟩
   cases e2
   exact ⟨o,e,ex.2.1⟩
  ·obtain ⟨o,_,_,_,e,ex,_⟩:=I.hok p _ hk
   refine ⟨⟨o,e,ex.1⟩,fun a e2=>?_⟩
   cases e2
   exact ⟨o,e,ex.2.1⟩
 | _=>exact False.elim ty
def tBM0 (K:yg) (T:String) (r:V→List V→Hp→VK→Prop) (to:TE):TE:=fun σ H Q=>to σ H fun x H1=>tyV K T x H1∧r x [] H1 Q
def tBM (K:yg) (T:String) (r:V→List V→Hp→VK→Prop) (to:TE) (t:TA):TE:=fun σ H Q=>to σ H fun x H1=>tyV K T x H1∧t σ H1 fun xs H2=>r x xs H2 Q
variable {o e:Expr} {es:List Expr} {to:TE} {t:TA} {name:Str} {apos cpos:Pos} {T id:String} {r:V→List V→Hp→VK→Prop}
theorem pe_bm (pa:PlainAttrs T) (slot:Slot T name id) (hty:typeOf (.builtin id)=pure (.type "method_descriptor")) (hm:MtR X id r) (ho:PE X o to) (ha:PA X (e::es) t)
  (hbase:attributeBase o name X.env (eval o X.env)=eval o X.env:=by rfl)
  (hfew:((backTo cpos (starEach (e::es) X.env)).all (fun x=>!x.1)&&(backToKw cpos (keywordEach [] X.env)).all (fun x=>x.1.isSome)
   && decide ((e::es).length + ([]:List Keyword).length + (if ([]:List Keyword).isEmpty then 0 else 1) < 30))=true:=by rfl)
  (hline:(apos.endLine==cpos.line)=true:=by rfl) (hs:starEach (e::es) X.env=(false,eval e X.env)::starEach es X.env:=by rfl) (hplain:(backTo cpos (starEach es X.env)).any (·.1)=false:=by rfl) :
  PE X (.Call (.Attribute o name apos) (e::es) [] cpos) (tBM X.K T r to t):=by
 intro pins s σ H Q I h
 refine wpAny_Call_method_late hbase hfew hline rfl (thn (ho pins s σ H _ I h) fun v s1 ⟨x,H1,I1,r1,ty,q1⟩=>?_)
 obtain ⟨h1,h2⟩:=tyV_is I1 r1 ty
 refine ⟨T,id,pa,slot,hty,h1,h2,?_⟩
 have hA:=ha cpos pins s1 σ H1 _ I1 q1
 rw [hs] at hA ⊢
 refine Calls.callWith_builtin (by show (false||(backTo cpos (starEach es X.env)).any (·.1))=false;rw [hplain]<;>rfl) (Calls.evalArgs_plain ?_)
 exact thn hA fun us s2 ⟨vs,H2,I2,r2,q2⟩=>hm pins s2 σ H2 x vs v us Q I2 r1 r2 q2
end
def MtM (X:Cx) (id:String) (r:V→List V→Hp→VK→Prop):Prop:=
 ∀ (pins:List (Addr×Obj)) (s:Shared) (σ:St) (H:Hp) (x:V) (xs:List V) (v:Value) (us:List Value) (Q:VK),Inv X pins σ H s→RelV x v→Vals xs us→r x xs H Q →
  wpAny (model X.prog X.w) X.A (call (.builtin id) (v::us)) (EP X pins σ Q) X.xe s
theorem Vals.one:∀ {x:V} {us:List Value},Vals [x] us→∃ u,us=[u]∧RelV x u
 | _,_,.cons r .nil=>⟨_,rfl,r⟩
theorem Vals.eraseIdx:∀ {xs:List V} {us:List Value} (i:Nat),Vals xs us→Vals (xs.eraseIdx i) (us.eraseIdx i)
 | _,_,_,.nil=>.nil
 | _,_,0,.cons _ t=>t
 | _,_,i + 1,.cons r t=>.cons r (Vals.eraseIdx i t)
theorem Vals.rep {xs:List V} {us:List Value} (h:Vals xs us):∀ k:Nat,Vals (List.replicate k xs).flatten (List.replicate k us).flatten
 | 0=>.nil
 | k + 1=>by
  rw [List.replicate_succ,List.replicate_succ,List.flatten_cons,List.flatten_cons]
  exact Vals.append h (Vals.rep h k)
theorem qbT {α:Type}:∀ (l:List α) (i:Nat),(l.eraseIdx i).length≤l.length
 | [],_=>yh _
 | _::_,0=>Nat.le_succ _
 | _::r,i + 1=>Nat.succ_le_succ (qbT r i)
theorem qbU (its:List Value):∀ (k:Nat) (acc:List Value),
  List.foldl (fun x1 x2=>x1++x2) acc.toArray (List.replicate k its.toArray)=(acc++(List.replicate k its).flatten).toArray
 | 0,acc=>by simp
 | k + 1,acc=>by
  have e:acc.toArray++its.toArray=(acc++its).toArray:=by simp
  have e2:(acc++its)++(List.replicate k its).flatten=acc++(List.replicate (k + 1) its).flatten:=by
   rw [List.replicate_succ,List.flatten_cons,List.append_assoc]
  rw [← e2,← qbU its k (acc++its),← e,List.replicate_succ,List.foldl_cons]
section
variable {X:Cx} {pins:List (Addr×Obj)} {σ:St} {H:Hp} {s:Shared} {l b:Addr} {xs ys zs:List V}
theorem Inv.lset {its its':List Value} {n:Nat} {f:Array Value→Array Value} {t':Nat} (I:Inv X pins σ H s) (hH:H l=some (.lst xs))
  (e:s.heap.get? l=some { cls:=.type "list",data:=.seq its.toArray n }) (hf:f its.toArray=its'.toArray) (hv:Vals ys its') (hz:ys.length≤sizeLine) :
  Inv X pins σ (upd H l (.lst ys)) { s with heap:=s.heap.update l (Obj.mapSeq f),toks:=t' }:=by
 have q:=PySem.IsL.update e f
 rw [hf] at q
 refine I.write (x:=l) (e:=l) (by rw [hH];exact trivial) (.inl rfl) (fun b' u hb hu=>(Heap.get?_update_other s.heap (Obj.mapSeq f) (Ne.symm hb)).trans hu) ⟨_,q⟩ ?_
 exact ⟨hz,its',_,hv,q⟩
theorem Inv.lnew {its:List Value} {t':Nat} (I:Inv X pins σ H s) (hv:Vals ys its) (hz:ys.length≤sizeLine) :
  Inv X pins σ (upd H s.heap.objs.size (.lst ys)) { s with heap:=s.heap.push { cls:=.type "list",data:=.seq its.toArray },toks:=t' }:=
 I.laid (fun _ _ q=>Heap.get?_push_of_some _ q) (yh _) ⟨hz,its,0,hv,Heap.get?_push_size _ rfl⟩
theorem Inv.fresh (I:Inv X pins σ H s):H s.heap.objs.size=none:=I.hok.fresh (yh _)
theorem Inv.lstM (I:Inv X pins σ H s) (hH:H l=some (.lst xs)):xs.length≤sizeLine∧∃ (its:List Value) (n:Nat),Vals xs its∧xs.length=its.length∧s.heap.get? l=some { cls:=.type "list",data:=.seq its.toArray n }:=by
 obtain ⟨z,its,n,r,e⟩:=I.hok l _ hH
 exact ⟨z,its,n,r,r.length,e⟩
theorem qcE {n:Nat} (h:n≤sizeLine):Builtin.List.listTooLong n=false:=by
 unfold Builtin.List.listTooLong
 exact yl (by omega)
end
section
variable {X:Cx}
def qdi:V→List V→Hp→VK→Prop:=fun x vs H Q=>∃ l xs y,x=.ref l∧vs=[y]∧H l=some (.lst xs)∧xs.length < sizeLine∧Q .non (upd H l (.lst (xs++[y])))
theorem mt_append:MtM X "list.append" qdi:=by
 intro pins s σ H x vs v us Q I rx rv h
 obtain ⟨l,xs,y,rfl,rfl,hH,hz,q⟩:=h
 cases rx
 obtain ⟨u,rfl,ru⟩:=rv.one
 obtain ⟨z,its,n,r,hl,e⟩:=I.lstM hH
 refine call_meets F.slot_list_append ⟨_,e,rfl⟩ F.entry_list_append (F.args_list_append_2 _ _) (PySem.list_append l its.toArray n u (by rw [List.size_toArray];omega)) ⟨e,?_⟩
 refine ⟨.non,_,I.lset (its':=its++[u]) hH e (by simp) (r.append (.cons ru .nil)) ?_,rfl,q⟩
 rw [List.length_append,List.length_singleton]
 omega
def qdj:V→List V→Hp→VK→Prop:=fun x vs H Q=>∃ l b xs zs,x=.ref l∧vs=[.ref b]∧H l=some (.lst xs)∧H b=some (.lst zs)∧xs.length + zs.length≤sizeLine∧Q .non (upd H l (.lst (xs++zs)))
theorem mt_extend:MtM X "list.extend" qdj:=by
 intro pins s σ H x vs v us Q I rx rv h
 obtain ⟨l,b,xs,zs,rfl,rfl,hH,hB,hz,q⟩:=h
 cases rx
 obtain ⟨u,rfl,ru⟩:=rv.one
 cases ru
 obtain ⟨z,its,n,r,hl,e⟩:=I.lstM hH
 obtain ⟨z2,its2,n2,r2,hl2,e2⟩:=I.lstM hB
 have hsz:its.toArray.size + its2.toArray.size≤sizeLine:=by rw [List.size_toArray,List.size_toArray];omega
 have hlong:¬ (!its.toArray.isEmpty&&Builtin.List.listTooLong (its.toArray.size + its2.toArray.size))=true:=by
  rw [qcE hsz,Bool.and_false]
  exact Bool.false_ne_true
 refine call_meets F.slot_list_extend ⟨_,e,rfl⟩ F.entry_list_extend (F.args_list_extend_2 _ _)
  (AutoSeq1.list_extend_list_list_0 l its.toArray n b its2.toArray n2 hlong (by rw [List.size_toArray];omega) (by omega)) ⟨e,e2,?_⟩
 refine ⟨.non,_,I.lset (its':=its++its2) hH e (by simp) (r.append r2) ?_,rfl,q⟩
 rw [List.length_append]
 omega
def qdY:V→List V→Hp→VK→Prop:=fun x vs H Q=>∃ l xs i k y,x=.ref l∧vs=[.int i]∧H l=some (.lst xs)∧-(2 ^ 63)≤i∧i < 2 ^ 63∧seqIndex? i xs.length=some k∧xs[k]?=some y∧Q y (upd H l (.lst (xs.eraseIdx k)))
theorem mt_popAt:MtM X "list.pop" qdY:=by
 intro pins s σ H x vs v us Q I rx rv h
 obtain ⟨l,xs,i,k,y,rfl,rfl,hH,h1,h2,hk,hy,q⟩:=h
 cases rx
 obtain ⟨u,rfl,ru⟩:=rv.one
 obtain ⟨t,rfl⟩:=ru
 obtain ⟨z,its,n,r,hl,e⟩:=I.lstM hH
 obtain ⟨w,hw,rw'⟩:=r.get hy
 refine call_meets F.slot_list_pop ⟨_,e,rfl⟩ F.entry_list_pop (F.args_list_pop_2 _ _)
  (MeetsSeq.list_pop_at l its.toArray n i t k w (fitsIndex_both h1 h2) (by rw [List.size_toArray,← hl];exact hk) (by rw [← Array.getElem?_toList];exact hw) (by rw [List.size_toArray];omega)) ⟨e,?_⟩
 refine ⟨y,_,I.lset (its':=its.eraseIdx k) hH e ?_ (r.eraseIdx k) ?_,rw',q⟩
 ·show its.toArray.eraseIdxIfInBounds k=(its.eraseIdx k).toArray
  rw [List.eraseIdxIfInBounds_toArray]
 ·have:=qbT xs k
  omega
def qfB:R2:=fun x y H Q=>∃ l b xs zs,x=.ref l∧y=.ref b∧H l=some (.lst xs)∧H b=some (.lst zs)∧xs.length + zs.length≤sizeLine∧∀ p,H p=none→Q (.ref p) (upd H p (.lst (xs++zs)))
theorem op_cat:OpR X (binaryOp .Add) qfB:=by
 intro pins s σ H x y v u Q I rx ry h
 obtain ⟨l,b,xs,zs,rfl,rfl,hH,hB,hz,q⟩:=h
 cases rx
 cases ry
 obtain ⟨z,its,n,r,hl,e⟩:=I.lstM hH
 obtain ⟨z2,its2,n2,r2,hl2,e2⟩:=I.lstM hB
 refine PySem.P.add_list e e2 ?_ (by rw [List.size_toArray,List.size_toArray];omega)
 have ea:its.toArray++its2.toArray=(its++its2).toArray:=by simp
 rw [ea]
 exact ⟨.ref _,_,I.lnew (t':=s.toks) (r.append r2) (by rw [List.length_append];omega),rfl,q _ I.fresh⟩
def qfC:R2:=fun x y H Q=>∃ l k xs,x=.ref l∧y=.int k∧H l=some (.lst xs)∧-(2 ^ 63)≤k∧k < 2 ^ 63∧xs.length * k.toNat≤sizeLine ∧
 ∀ p,H p=none→Q (.ref p) (upd H p (.lst (List.replicate k.toNat xs).flatten))
theorem len_rep {α:Type} (xs:List α) (k:Nat):(List.replicate k xs).flatten.length=k * xs.length:=by
 induction k with
 | zero=>simp
 | succ k ih=>rw [List.replicate_succ,List.flatten_cons,List.length_append,ih,Nat.succ_mul,Nat.add_comm]
theorem qdZ:OpR X (binaryOp .Mult) qfC:=by
 intro pins s σ H x y v u Q I rx ry h
 obtain ⟨l,k,xs,rfl,rfl,hH,h1,h2,hz,q⟩:=h
 cases rx
 obtain ⟨t,rfl⟩:=ry
 obtain ⟨z,its,n,r,hl,e⟩:=I.lstM hH
 have hlen:its.toArray.size * k.toNat≤sizeLine:=by rw [List.size_toArray,← hl];exact hz
 have hcap:¬ its.toArray.size * k.toNat > (2 ^ 63 - 1) / 8:=by
  have:(sizeLine:Nat)≤(2 ^ 63 - 1) / 8:=by decide
  omega
 have hfit:¬ (!Builtin.List.listFitsIndex k)=true:=by
  rw [fitsIndex_both h1 h2]
  exact Bool.false_ne_true
 have hlong:¬ Builtin.List.listTooLong (its.toArray.size * k.toNat)=true:=by
  rw [qcE hlen]
  exact Bool.false_ne_true
 have hnew:List.foldl (fun x1 x2=>x1++x2) #[] (List.replicate (if its.toArray.isEmpty=true then 0 else k.toNat) its.toArray)=(List.replicate k.toNat its).flatten.toArray:=by
  have f0:∀ m:Nat,List.foldl (fun x1 x2=>x1++x2) #[] (List.replicate m its.toArray)=(List.replicate m its).flatten.toArray:=fun m=>by
   have:=qbU its m []
   rw [List.nil_append] at this
   exact this
  rw [f0]
  cases its with
  | nil=>simp
  | cons a r'=>rw [if_neg (by simp)]
 refine wpAny_binaryOp_repeat_ref (T:="list") (U:="int") (by decide) ⟨_,e,rfl⟩ (fun s'=>typeIs_int s' k t) noFill_list_mul F.fills_int_mul F.slot_int_rmul repeat_list F.slot_int_index.lookup
  (call_meets F.slot_int_rmul (typeIs_int s k t) F.entry_int_rmul (F.args_int_rmul_2 _ _) (int___rmul___int_list k t l its.toArray n)
   ⟨e,rfl,⟨_,e,rfl⟩,call_meets F.slot_list_mul ⟨_,e,rfl⟩ F.entry_list_mul (F.args_list_mul_2 _ _) (AutoListH.list___mul___list_int_3 l its.toArray n k t hfit hcap hlong) ⟨e,?_⟩⟩)
 rw [hnew]
 exact ⟨.ref _,_,I.lnew (t':=s.toks) (r.rep k.toNat) (by rw [len_rep,Nat.mul_comm];exact hz),rfl,q _ I.fresh⟩
end
section
variable {prog:Program} {w:World} {A:Around} {E:Value→Shared→Prop} {s:Shared}
set_option maxRecDepth 100000 in
end
section
variable {X:Cx}
end
section
variable {κ:Type} [DecidableEq κ]
def j9 (kvs:List (κ×V)) (k:κ):Option V:=(kvs.find? fun kv=>decide (kv.1=k)).map (·.2)
def zJ (kvs:List (κ×V)) (k:κ) (v:V):List (κ×V):=
 if (kvs.any fun kv=>decide (kv.1=k))=true then kvs.map (fun kv=>if kv.1=k then (kv.1,v) else kv) else kvs++[(k,v)]
def dropK (kvs:List (κ×V)) (k:κ):List (κ×V):=kvs.filter fun kv=>decide (kv.1≠k)
theorem jk {p:κ×V} {r:List (κ×V)} {k:κ} (e:p.1=k):j9 (p::r) k=some p.2:=by simp [j9,List.find?_cons,e]
theorem q0 {p:κ×V} {r:List (κ×V)} {k:κ} (e:¬ p.1=k):j9 (p::r) k=j9 r k:=by simp [j9,List.find?_cons,e]
theorem zV (k:κ):∀ kvs:List (κ×V),(kvs.any fun kv=>decide (kv.1=k))=(j9 kvs k).isSome
 | []=>rfl
 | p::r=>by
  rw [List.any_cons]
  by_cases e:p.1=k
  ·simp only [jk e,decide_eq_true e,Bool.true_or,Option.isSome_some]
  ·rw [q0 e,yl e,Bool.false_or];exact zV k r
theorem qcF (k j:κ) (y:V):∀ kvs:List (κ×V),j9 (kvs.map fun kv=>if kv.1=k then (kv.1,y) else kv) j=(j9 kvs j).map fun x=>if j=k then y else x
 | []=>rfl
 | p::r=>by
  have ih:=qcF k j y r
  rw [List.map_cons]
  by_cases h:p.1=k
  ·rw [if_pos h]
   by_cases e:p.1=j
   ·rw [jk (p:=(p.1,y)) e,jk e,Option.map_some,if_pos (e.symm.trans h)]
   ·rw [q0 (p:=(p.1,y)) e,q0 e,ih]
  ·rw [if_neg h]
   by_cases e:p.1=j
   ·rw [jk (p:=p) e,jk e,Option.map_some,if_neg (fun z=>h (e.trans z))]
   ·rw [q0 (p:=p) e,q0 e,ih]
theorem qbV (k j:κ) (y:V):∀ kvs:List (κ×V),j9 kvs k=none→j9 (kvs++[(k,y)]) j=if j=k then some y else j9 kvs j
 | [],_=>by
  by_cases e:k=j
  ·rw [if_pos e.symm];exact jk (p:=(k,y)) e
  ·rw [if_neg (fun z=>e z.symm)];exact q0 (p:=(k,y)) e
 | p::r,hn=>by
  rw [List.cons_append]
  have hk:¬ p.1=k:=fun z=>by rw [jk z] at hn;cases hn
  rw [q0 hk] at hn
  have ih:=qbV k j y r hn
  by_cases e:p.1=j
  ·rw [jk e,jk e,if_neg (fun z=>hk (e.trans z))]
  ·rw [q0 e,q0 e,ih]
theorem qaM (kvs:List (κ×V)) (k j:κ) (y:V):j9 (zJ kvs k y) j=if j=k then some y else j9 kvs j:=by
 unfold zJ
 by_cases a:(kvs.any fun kv=>decide (kv.1=k))=true
 ·rw [if_pos a,qcF]
  rw [zV] at a
  by_cases e:j=k
  ·obtain ⟨x,hx⟩:=Option.isSome_iff_exists.mp a
   rw [if_pos e,e,hx,Option.map_some,if_pos rfl]
  ·rw [if_neg e]
   cases j9 kvs j with
   | none=>rfl
   | some x=>rw [Option.map_some,if_neg e]
 ·rw [if_neg a]
  refine qbV k j y kvs ?_
  rw [zV] at a
  cases q:j9 kvs k with
  | none=>rfl
  | some x=>rw [q] at a;exact (a rfl).elim
theorem jT (kvs:List (κ×V)) (k:κ) (v:V):(zJ kvs k v).length≤kvs.length + 1:=by
 unfold zJ
 split
 ·rw [ya];omega
 ·rw [List.length_append,List.length_cons,List.length_nil];omega
theorem qaN {kvs:List (κ×V)} {k:κ} (v:V) (h:j9 kvs k=none):zJ kvs k v=kvs++[(k,v)]:=by
 unfold zJ
 rw [zV,h]
 exact if_neg (by decide)
theorem RelO.isSome_eq {o:Option V} {u:Option Value} (r:RelO o u):o.isSome=u.isSome:=by
 cases o with
 | none=>cases u with
  | none=>rfl
  | some _=>exact (show False from r).elim
 | some _=>cases u with
  | none=>exact (show False from r).elim
  | some _=>rfl
theorem RelO.getD {o:Option V} {u:Option Value} {d:V} {d':Value} (r:RelO o u) (rd:RelV d d'):RelV (o.getD d) (u.getD d'):=by
 cases o with
 | none=>cases u with
  | none=>exact rd
  | some _=>exact (show False from r).elim
 | some _=>cases u with
  | none=>exact (show False from r).elim
  | some _=>exact r
theorem KV.val {kvs:List (κ×V)} {vs:List (κ×Value)} (r:KV kvs vs) (k:κ):RelO (j9 kvs k) (valueAt vs k):=by
 unfold KV at r
 induction r with
 | nil=>exact True.intro
 | @cons p q ps qs h t ih =>
  obtain ⟨h1,h2⟩:=h
  by_cases e:p.1=k
  ·have e':q.1=k:=h1.symm.trans e
   have b:valueAt (q::qs) k=some q.2:=by simp [valueAt,List.find?_cons,e']
   rw [jk e,b];exact h2
  ·have e':¬ q.1=k:=fun z=>e (h1.trans z)
   have b:valueAt (q::qs) k=valueAt qs k:=by simp [valueAt,List.find?_cons,e']
   rw [q0 e,b];exact ih
theorem KV.any {kvs:List (κ×V)} {vs:List (κ×Value)} (r:KV kvs vs) (k:κ):(kvs.any fun kv=>decide (kv.1=k))=vs.any fun kv=>decide (kv.1=k):=by
 unfold KV at r
 induction r with
 | nil=>rfl
 | cons h t ih=>rw [List.any_cons,List.any_cons,ih,h.1]
theorem KV.repl {kvs:List (κ×V)} {vs:List (κ×Value)} (r:KV kvs vs) (k:κ) {y:V} {u:Value} (ry:RelV y u) :
  KV (kvs.map fun kv=>if kv.1=k then (kv.1,y) else kv) (vs.map fun kv=>if kv.1=k then (kv.1,u) else kv):=by
 unfold KV at r ⊢
 induction r with
 | nil=>exact .nil
 | @cons p q ps qs h t ih =>
  rw [List.map_cons,List.map_cons]
  refine .cons ?_ ih
  obtain ⟨h1,h2⟩:=h
  by_cases e:p.1=k
  ·rw [if_pos e,if_pos (h1.symm.trans e)];exact ⟨h1,ry⟩
  ·rw [if_neg e,if_neg (fun z=>e (h1.trans z))];exact ⟨h1,h2⟩
theorem KV.put {kvs:List (κ×V)} {vs:List (κ×Value)} (r:KV kvs vs) (k:κ) {y:V} {u:Value} (ry:RelV y u):KV (zJ kvs k y) (stored vs k u):=by
 unfold zJ stored
 rw [r.any k]
 by_cases e:(vs.any fun kv=>decide (kv.1=k))=true
 ·rw [if_pos e,if_pos e];exact r.repl k ry
 ·rw [if_neg e,if_neg e];exact Paired.snoc r ⟨rfl,ry⟩
theorem KV.length {kvs:List (κ×V)} {vs:List (κ×Value)} (r:KV kvs vs):kvs.length=vs.length:=Paired.length r
end
theorem qc1 {P:Program} {w:World} {k:Key} {u:Value} (r:RelV (kV k) u):(jE P w).is k u=true:=by
 cases k with
 | inl i=>obtain ⟨t,e⟩:=(show ∃ t,u=Value.int i t from r);subst e;exact mixKind_int P w i t
 | inr x=>obtain ⟨t,e⟩:=(show ∃ t,u=Value.str x t from r);subst e;exact mixKind_str P w x t
theorem qbW {P:Program} {w:World}:∀ {ks:List Key} {us:List Value},Vals (ks.map kV) us→ItemsAre (jE P w) ks us
 | [],_,r=>by rw [List.map_nil] at r;cases r;exact .nil
 | k::ks,_,r=>by
  rw [List.map_cons] at r
  cases r with
  | cons h t=>exact .cons (qc1 h) (qbW t)
abbrev KT (H:Hp):List (List Key×V)→List (List Key×Addr×Value)→Prop:=Paired fun p q=>p.1=q.1∧H q.2.1=some (.tup (p.1.map kV))∧RelV p.2 q.2.2
theorem KT.val {H:Hp} {kvs:List (List Key×V)} {xs:List (List Key×Addr×Value)} (r:KT H kvs xs) (k:List Key):RelO (j9 kvs k) ((atKey xs k).map (·.2)):=by
 induction r with
 | nil=>exact True.intro
 | @cons p q ps qs h t ih =>
  obtain ⟨h1,_,h2⟩:=h
  by_cases e:p.1=k
  ·have e':q.1=k:=h1.symm.trans e
   have b:atKey (q::qs) k=some q.2:=by simp [atKey,List.find?_cons,e']
   rw [jk e,b];exact h2
  ·have e':¬ q.1=k:=fun z=>e (h1.trans z)
   have b:atKey (q::qs) k=atKey qs k:=by simp [atKey,List.find?_cons,e']
   rw [q0 e,b];exact ih
theorem KT.repl {H:Hp} {kvs:List (List Key×V)} {xs:List (List Key×Addr×Value)} (r:KT H kvs xs) (k:List Key) {y:V} {u:Value} (ry:RelV y u) :
  KT H (kvs.map fun kv=>if kv.1=k then (kv.1,y) else kv) (xs.map (putAt k u)):=by
 induction r with
 | nil=>exact .nil
 | @cons p q ps qs h t ih =>
  rw [List.map_cons,List.map_cons]
  refine .cons ?_ ih
  obtain ⟨h1,h2,h3⟩:=h
  unfold putAt
  by_cases e:p.1=k
  ·rw [if_pos e,if_pos (h1.symm.trans e)];exact ⟨h1,h2,ry⟩
  ·rw [if_neg e,if_neg (fun z=>e (h1.trans z))];exact ⟨h1,h2,h3⟩
theorem KT.put {H:Hp} {kvs:List (List Key×V)} {xs:List (List Key×Addr×Value)} (r:KT H kvs xs) (k:List Key) {b:Addr} {y:V} {u:Value} (hb:H b=some (.tup (k.map kV))) (ry:RelV y u) :
  KT H (zJ kvs k y) (storedH xs k b u):=by
 have e:(kvs.any fun kv=>decide (kv.1=k))=(atKey xs k).isSome:=by
  rw [zV,(r.val k).isSome_eq,Option.isSome_map]
 unfold zJ storedH
 rw [e]
 by_cases q:(atKey xs k).isSome=true
 ·rw [if_pos q,if_pos q];exact r.repl k ry
 ·rw [if_neg q,if_neg q];exact Paired.snoc r ⟨rfl,hb,ry⟩
theorem KT.keeps {H H':Hp} {kvs:List (List Key×V)} {xs:List (List Key×Addr×Value)} (r:KT H kvs xs) (ht:∀ b ys,H b=some (.tup ys)→H' b=some (.tup ys)):KT H' kvs xs:=
 Paired.mapP r fun _ _ z=>⟨z.1,ht _ _ z.2.1,z.2.2⟩
section
variable {P:Program} {w:World} {H:Hp} {h:Heap} {a:Addr}
theorem qeK {u:HO} (ok:HOk P w H h) (e:Rd H a u):ObjOk P w H h a u:=e.ok ok
theorem qbX {kvs:List (Key×V)} (ok:HOk P w H h) (e:Rd H a (.dK kvs)):kvs.length≤sizeLine∧(a==sysModules)=false∧∃ vs,KV kvs vs∧h.DictOf (jE P w) a vs:=
 show ObjOk P w H h a (.dK kvs) from qeK ok e
theorem dk_of {kvs:List (Key×V)} (ok:HOk P w H h) (e:H a=some (.dK kvs)):kvs.length≤sizeLine∧(a==sysModules)=false∧∃ vs,KV kvs vs∧h.DictOf (jE P w) a vs:=qbX ok (.inl e)
theorem qbh {ks:List Key} (ok:HOk P w H h) (e:H a=some (.tup (ks.map kV))):(tupleKind (jE P w)).is h ks a:=by
 obtain ⟨_,its,r,o,h1,h2,n,h3⟩:=(show ObjOk P w H h a (.tup (ks.map kV)) from ok a _ e)
 exact ⟨o,its.toArray,n,h1,h2,h3,by simpa using qbW r⟩
theorem qcm {kvs:List (List Key×V)} (ok:HOk P w H h) (e:Rd H a (.dT kvs)):kvs.length≤sizeLine∧(a==sysModules)=false ∧
  ∃ xs,KT H kvs xs∧h.DictOfH (tupleKind (jE P w)) a xs:=by
 obtain ⟨z,y,xs,r,o,es,ep,h1,h2,h3,h4,h5⟩:=(show ObjOk P w H h a (.dT kvs) from qeK ok e)
 refine ⟨z,y,xs,r,o,es,ep,h1,h2,h3,h4,fun x hx=>?_,h5⟩
 have all:∀ {l:List (List Key×V)} {m:List (List Key×Addr×Value)},KT H l m→∀ x∈m,(tupleKind (jE P w)).is h x.1 x.2.1:=by
  intro l m q
  induction q with
  | nil=>intro x hx;exact nomatch hx
  | @cons p q ps qs hq t ih =>
   intro x hx
   rcases List.mem_cons.mp hx with e | hx
   ·subst e
    exact qbh ok (by rw [← hq.1];exact hq.2.1)
   ·exact ih x hx
 exact all r x hx
theorem dt_of {kvs:List (List Key×V)} (ok:HOk P w H h) (e:H a=some (.dT kvs)):kvs.length≤sizeLine∧(a==sysModules)=false ∧
  ∃ xs,KT H kvs xs∧h.DictOfH (tupleKind (jE P w)) a xs:=qcm ok (.inl e)
end
def DGet (H:Hp) (a:Addr) (y:V) (r:Option V):Prop:=
 (∃ kvs k,Rd H a (.dK kvs)∧y=kV k∧r=j9 kvs k)∨∃ kvs k b,Rd H a (.dT kvs)∧y=.ref b∧H b=some (.tup (k.map kV))∧r=j9 kvs k
def DPut (H:Hp) (a:Addr) (y v:V) (H':Hp):Prop:=
 (∃ kvs k,H a=some (.dK kvs)∧y=kV k∧kvs.length < sizeLine∧H'=upd H a (.dK (zJ kvs k v))) ∨
 ∃ kvs k b,H a=some (.dT kvs)∧y=.ref b∧H b=some (.tup (k.map kV))∧kvs.length < sizeLine∧H'=upd H a (.dT (zJ kvs k v))
theorem DGet.k {H:Hp} {a:Addr} {kvs:List (Key×V)} {k:Key} (e:H a=some (.dK kvs)):DGet H a (kV k) (j9 kvs k):=.inl ⟨kvs,k,.inl e,rfl,rfl⟩
theorem DPut.k {H:Hp} {a:Addr} {kvs:List (Key×V)} {k:Key} {v:V} (e:H a=some (.dK kvs)) (hl:kvs.length < sizeLine):DPut H a (kV k) v (upd H a (.dK (zJ kvs k v))):=.inl ⟨kvs,k,e,rfl,hl,rfl⟩
section
variable {X:Cx} {pins:List (Addr×Obj)} {σ:St} {H:Hp} {s:Shared} {a:Addr} {y v:V} {u r:Value} {o:Option V} {A:Around} {E:Value→Shared→Prop}
theorem Inv.big (I:Inv X pins σ H s):sysModules < s.heap.objs.size:=by
 have h:mainGlobals < s.heap.objs.size:=(I.mod.glob.keeps I.bk).lt
 exact Nat.lt_trans (by decide) h
theorem d_getItem {Q:Value→Shared→Prop} (hu:A.units + 1 < cLine) (I:Inv X pins σ H s) (g:DGet H a y (some v)) (ry:RelV y u) (h:∀ w' s',Inv X pins σ H s'→RelV v w'→Q w' s') :
  wpAny (model X.prog X.w) A (getItem (.ref a) u) Q E s:=by
 rcases g with ⟨kvs,k,e,ey,l⟩ | ⟨kvs,k,b,e,ey,eb,l⟩
 ·subst ey
  obtain ⟨z,hd,vs,rel,dd⟩:=qbX I.hok e
  obtain ⟨w',hw,rw'⟩:=RelO.some_of (v:=v) (o:=valueAt vs k) (by rw [l];exact rel.val k)
  exact wpAny_getItem_of (qc1 ry) dd.mapOf hw (h w' _ (I.tok _) rw')
 ·subst ey
  cases (show u=Value.ref b from ry)
  obtain ⟨z,hd,xs,rel,dd⟩:=qcm I.hok e
  obtain ⟨w',hw,rw'⟩:=RelO.some_of (v:=v) (o:=(atKey xs k).map (·.2)) (by rw [l];exact rel.val k)
  obtain ⟨p,hp,hp2⟩:=yn.mp hw
  refine wpAny_getItem_heap (tupleKind_room_in1 hu) (qbh I.hok eb) dd hp ?_
  rw [hp2]
  exact h w' _ (I.tok _) rw'
theorem d_in {Q:Value→Shared→Prop} (hu:A.units + 1 < cLine) (I:Inv X pins σ H s) (g:DGet H a y o) (ry:RelV y u) (h:∀ s',Inv X pins σ H s'→Q (.bool o.isSome) s') :
  wpAny (model X.prog X.w) A (compareOp .In u (.ref a)) Q E s:=by
 rcases g with ⟨kvs,k,e,ey,l⟩ | ⟨kvs,k,b,e,ey,eb,l⟩
 ·subst ey
  obtain ⟨z,hd,vs,rel,dd⟩:=qbX I.hok e
  refine wpAny_in_of (qc1 ry) hd dd.mapOf ?_
  rw [← (rel.val k).isSome_eq,← l]
  exact h _ (I.tok _)
 ·subst ey
  cases (show u=Value.ref b from ry)
  obtain ⟨z,hd,xs,rel,dd⟩:=qcm I.hok e
  refine wpAny_in_heap (tupleKind_room_in1 hu) (qbh I.hok eb) hd dd ?_
  have q:=(rel.val k).isSome_eq
  rw [Option.isSome_map] at q
  rw [← q,← l]
  exact h _ (I.tok _)
theorem d_notIn {Q:Value→Shared→Prop} (hu:A.units + 1 < cLine) (I:Inv X pins σ H s) (g:DGet H a y o) (ry:RelV y u) (h:∀ s',Inv X pins σ H s'→Q (.bool (!o.isSome)) s') :
  wpAny (model X.prog X.w) A (compareOp .NotIn u (.ref a)) Q E s:=by
 rcases g with ⟨kvs,k,e,ey,l⟩ | ⟨kvs,k,b,e,ey,eb,l⟩
 ·subst ey
  obtain ⟨z,hd,vs,rel,dd⟩:=qbX I.hok e
  refine wpAny_notIn_of (qc1 ry) hd dd.mapOf ?_
  rw [← (rel.val k).isSome_eq,← l]
  exact h _ (I.tok _)
 ·subst ey
  cases (show u=Value.ref b from ry)
  obtain ⟨z,hd,xs,rel,dd⟩:=qcm I.hok e
  refine wpAny_notIn_heap (tupleKind_room_in1 hu) (qbh I.hok eb) hd dd ?_
  have q:=(rel.val k).isSome_eq
  rw [Option.isSome_map] at q
  rw [← q,← l]
  exact h _ (I.tok _)
theorem qdk {h':Heap} {t':Nat} {ob:HO} (I:Inv X pins σ H s) (mu:Mut (H a)) (hs:Heap.SameBut a s.heap h') (he:∃ q,h'.get? a=some q) (new:ObjOk X.prog X.w (upd H a ob) h' a ob) :
  Inv X pins σ (upd H a ob) { s with heap:=h',toks:=t' }:=
 I.write (x:=a) (e:=a) mu (.inl rfl) (fun b q hb z=>(hs.2 b hb).trans z) he new
theorem dk_new {P:Program} {w:World} {H':Hp} {h':Heap} {kvs:List (Key×V)} {vs:List (Key×Value)} (z:kvs.length≤sizeLine) (hd:(a==sysModules)=false) (rel:KV kvs vs) (dd:h'.DictOf (jE P w) a vs) :
  ObjOk P w H' h' a (.dK kvs):=⟨z,hd,vs,rel,dd⟩
theorem d_setItem {H':Hp} {Q:Unit→Shared→Prop} (hu:A.units + 1 < cLine) (I:Inv X pins σ H s) (g:DPut H a y v H') (ry:RelV y u) (rv:RelV v r) (h:∀ s',Inv X pins σ H' s'→Q () s') :
  wpAny (model X.prog X.w) A (setItem (.ref a) u r) Q E s:=by
 rcases g with ⟨kvs,k,e,ey,l,eH⟩ | ⟨kvs,k,b,e,ey,eb,l,eH⟩
 ·subst ey eH
  obtain ⟨z,hd,vs,rel,dd⟩:=dk_of I.hok e
  have hz:vs.length≤sizeLine:=by rw [← rel.length];exact z
  have hl:(zJ kvs k v).length≤sizeLine:=by have:=jT kvs k v;omega
  refine wpAny_setItem_pairs (hsz:=hz) (qc1 ry) dd fun h' dd' hs=>h _ ?_
  have he:∃ q,h'.get? a=some q:=let ⟨q,_,_,hq,_⟩:=dd';⟨q,hq⟩
  exact qdk I (by rw [e];exact True.intro) hs he (dk_new hl hd (rel.put k rv) dd')
 ·subst ey eH
  cases (show u=Value.ref b from ry)
  obtain ⟨z,hd,xs,rel,dd⟩:=dt_of I.hok e
  have hz:xs.length≤sizeLine:=by rw [← Paired.length rel];exact z
  have hl:(zJ kvs k v).length≤sizeLine:=by have:=jT kvs k v;omega
  refine wpAny_setItem_heap (hsz:=hz) (tupleKind_room_in1 hu) (qbh I.hok eb) dd fun h' dd' hs=>h _ ?_
  obtain ⟨q,es,ep,hq,h2,h3,h4,_,h5⟩:=dd'
  refine qdk I (by rw [e];exact True.intro) hs ⟨q,hq⟩ ⟨hl,hd,_,(rel.put k eb rv).keeps fun c ys ec=>?_,q,es,ep,hq,h2,h3,h4,h5⟩
  rw [qg (qal ec e (fun z=>nomatch z))]
  exact ec
end
section
variable {X:Cx} {pins:List (Addr×Obj)} {σ:St} {H:Hp} {s:Shared} {a:Addr} {kvs:List (Key×V)} {k:Key} {u:Value} {A:Around} {E:Value→Shared→Prop}
theorem d_len {Q:Value→Shared→Prop} (I:Inv X pins σ H s) (e:Rd H a (.dK kvs)) (h:∀ t s',Inv X pins σ H s'→Q (.int kvs.length t) s'):wpAny (model X.prog X.w) A (call (.builtin "len") [.ref a]) Q E s:=by
 obtain ⟨z,hd,vs,rel,dd⟩:=qbX I.hok e
 refine call_len_dict hd dd (by rw [← rel.length];rw [sizeLine_eq] at z;omega) ?_
 rw [← rel.length]
 exact h _ _ (I.tok _)
end
theorem dict_typeIs {X:Cx} {pins:List (Addr×Obj)} {σ:St} {H:Hp} {s:Shared} {a:Addr} {y:V} {o:Option V} (I:Inv X pins σ H s) (g:DGet H a y o):s.TypeIs (.ref a) "dict":=by
 rcases g with ⟨kvs,k,e,_,_⟩ | ⟨kvs,k,b,e,_,_,_⟩
 ·obtain ⟨_,_,vs,_,dd⟩:=qbX I.hok e
  exact dd.typeIs
 ·obtain ⟨_,_,xs,_,dd⟩:=qcm I.hok e
  exact dd.typeIs
section
variable {X:Cx} {o i e value:Expr} {pos pos' tpos:Pos} {td ty tv:TE}
end
theorem dk_empty {P:Program} {w:World} {H:Hp} (h:Heap) (hb:sysModules < h.objs.size):ObjOk P w H (h.push { cls:=.type "dict",data:=.dict #[] }) h.objs.size (.dK []):=
 ⟨Nat.zero_le _,beq_eq_false_iff_ne.mpr (Ne.symm (Nat.ne_of_lt hb)),[],.nil,Heap.DictOf.new h⟩
def tDNewK:TE:=fun _ H Q=>∀ p,H p=none→Q (.ref p) (upd H p (.dK []))
section
variable {X:Cx} {pos:Pos}
theorem zx:PE X (.Dict [] [] pos) tDNewK:=fun pins s σ H Q I h =>
 wpAny_Dict_empty ⟨.ref s.heap.objs.size,_,I.laid (a:=s.heap.objs.size) (o:=.dK []) (t':=s.toks) (fun _ _ q=>Heap.get?_push_of_some _ q) (yh _) (dk_empty s.heap I.big),rfl,h _ (I.hok.fresh (yh _))⟩
end
def mergeK (kvs more:List (Key×V)):List (Key×V):=more.foldl (fun acc kv=>zJ acc kv.1 kv.2) kvs
structure M1 (X:Cx) (o:Expr) (m:Str) (apos:Pos) (e:Expr) (cpos:Pos):Prop where
 base:attributeBase o m X.env (eval o X.env)=eval o X.env
 few:((backTo cpos (starEach [e] X.env)).all (fun x=>!x.1)&&(backToKw cpos (keywordEach [] X.env)).all (fun x=>x.1.isSome)
  && decide (([e]:List Expr).length + ([]:List Keyword).length + (if ([]:List Keyword).isEmpty then 0 else 1) < 30))=true
 line:(apos.endLine==cpos.line)=true
 trees:backTo cpos (starEach [e] X.env)=[(false,eval e X.env)]
structure M2 (X:Cx) (o:Expr) (m:Str) (apos:Pos) (e f:Expr) (cpos:Pos):Prop where
 base:attributeBase o m X.env (eval o X.env)=eval o X.env
 few:((backTo cpos (starEach [e,f] X.env)).all (fun x=>!x.1)&&(backToKw cpos (keywordEach [] X.env)).all (fun x=>x.1.isSome)
  && decide (([e,f]:List Expr).length + ([]:List Keyword).length + (if ([]:List Keyword).isEmpty then 0 else 1) < 30))=true
 line:(apos.endLine==cpos.line)=true
 trees:backTo cpos (starEach [e,f] X.env)=[(false,eval e X.env),(false,eval f X.env)]
def IsD (H:Hp) (a:Addr):Prop:=(∃ kvs,Rd H a (.dK kvs))∨∃ kvs,Rd H a (.dT kvs)
theorem isD_at {X:Cx} {pins:List (Addr×Obj)} {σ:St} {H:Hp} {s:Shared} {a:Addr} (I:Inv X pins σ H s) (d:IsD H a) :
  s.TypeIs (.ref a) "dict"∧(∀ b,Value.ref a=.ref b→∃ ob,s.heap.get? b=some ob∧ob.dict=none)∧(a==sysModules)=false:=by
 rcases d with ⟨kvs,e⟩ | ⟨kvs,e⟩
 ·obtain ⟨_,hd,vs,_,dd⟩:=qbX I.hok e
  refine ⟨dd.typeIs,fun b q=>?_,hd⟩
  cases q
  obtain ⟨ob,_,_,h1,h2,_⟩:=dd
  exact ⟨ob,h1,h2.2.1⟩
 ·obtain ⟨_,hd,xs,_,dd⟩:=qcm I.hok e
  refine ⟨dd.typeIs,fun b q=>?_,hd⟩
  cases q
  obtain ⟨ob,_,_,h1,h2,_⟩:=dd
  exact ⟨ob,h1,h2.2.1⟩
section
variable {X:Cx} {pins:List (Addr×Obj)} {σ:St} {H:Hp} {s:Shared} {a:Addr} {y d:V} {u r:Value} {o:Option V} {A:Around} {E:Value→Shared→Prop}
theorem d_get1 {Q:Value→Shared→Prop} (hu:A.units + 1 < cLine) (I:Inv X pins σ H s) (g:DGet H a y o) (ry:RelV y u) (h:∀ w' s',Inv X pins σ H s'→RelV (o.getD .non) w'→Q w' s') :
  wpAny (model X.prog X.w) A (call (.builtin "dict.get") [.ref a,u]) Q E s:=by
 rcases g with ⟨kvs,k,e,ey,l⟩ | ⟨kvs,k,b,e,ey,eb,l⟩
 ·subst ey
  obtain ⟨z,hd,vs,rel,dd⟩:=qbX I.hok e
  refine call_meetsIn PySem.F.slot_dict_get dd.typeIs PySem.F.entry_dict_get (PySem.F.args_dict_get_2 _ _) (meets_dict_get (jE X.prog X.w) a (qc1 ry) hd) ⟨_,dd.mapOf,h _ _ (I.tok _) ?_⟩
  rw [l]
  exact (rel.val k).getD rfl
 ·subst ey
  cases (show u=Value.ref b from ry)
  obtain ⟨z,hd,xs,rel,dd⟩:=qcm I.hok e
  refine call_meetsIn PySem.F.slot_dict_get dd.typeIs PySem.F.entry_dict_get (PySem.F.args_dict_get_2 _ _) (meetsH_dict_get (tupleKind (jE X.prog X.w)) a b hd) ⟨tupleKind_room_in1 hu,k,xs,qbh I.hok eb,dd,h _ _ (I.tok _) ?_⟩
  rw [l]
  exact (rel.val k).getD rfl
end
def qd0 (td ty:TE):TE:=fun σ H Q=>td σ H fun x H1=>∃ a,x=.ref a∧IsD H1 a∧ty σ H1 fun y H2=>∃ o,DGet H2 a y o∧Q (o.getD .non) H2
def tDGet2 (td ty tx:TE):TE:=fun σ H Q=>td σ H fun x H1=>∃ a,x=.ref a∧IsD H1 a∧ty σ H1 fun y H2=>tx σ H2 fun z H3=>∃ o,DGet H3 a y o∧Q (o.getD z) H3
section
variable {X:Cx} {o e f:Expr} {apos cpos:Pos} {td ty tx:TE}
theorem qat (hu:X.A.units + 1 < cLine) (ho:PE X o td) (he:PE X e ty) (m:M1 X o "get" apos e cpos):PE X (.Call (.Attribute o "get" apos) [e] [] cpos) (qd0 td ty):=by
 intro pins s σ H Q I h
 refine wpAny_Call_method m.base m.few m.line PySem.F.plainAttrs_dict PySem.F.slot_dict_get PySem.F.type_dict_get (thn (ho pins s σ H _ I h) fun u s1 ⟨x,H1,I1,rx,a,ex,d,q1⟩=>?_)
 subst ex
 obtain rfl:u=Value.ref a:=rx
 obtain ⟨t1,t2,_⟩:=isD_at I1 d
 refine ⟨t1,t2,?_⟩
 rw [m.trees]
 refine Calls.callWith_builtin rfl (Calls.evalArgs_plain (Calls.spliced_cons (thn (he pins s1 σ H1 _ I1 q1) fun iv s2 ⟨y,H2,I2,ry,ov,g,q2⟩=>Calls.spliced_nil ?_)))
 exact d_get1 hu I2 g ry fun w' s3 I3 rw'=>⟨_,H2,I3,rw',q2⟩
end
section
variable {X:Cx} {pins:List (Addr×Obj)} {σ:St} {H:Hp} {s:Shared} {a:Addr} {kvs:List (Key×V)} {A:Around} {E:Value→Shared→Prop}
end
section
variable {X:Cx} {pins:List (Addr×Obj)} {σ:St} {H:Hp} {s:Shared} {a:Addr} {y:V} {u:Value} {A:Around} {E:Value→Shared→Prop}
end
end L2
namespace Att
open PySem PySem.W PySem.Calls PyProof.Rows
theorem ints_of_wellAll {P:Params} {h:Heap}:∀ (ns:List Int) (vs:List Value),WellAll P h vs (ns.map WData.int)→IntsAre vs ns:=by
 intro ns
 induction ns with
 | nil =>
  intro vs w
  rw [List.map_nil] at w
  cases w
  exact .nil
 | cons n ns ih =>
  intro vs w
  rw [List.map_cons] at w
  cases w with
  | cons a b =>
   cases a
   exact .cons _ _ (ih _ b)
theorem script_of {l:OpenLaw} {n:Nat} (hn:l.most=some n) {P:Params} {h:Heap} {args:List WData} {vals:List Value}
  (hpre:l.row.toRowW.claim.pre args=true) (hwl:WellAll P h vals args) :
  ∃ a vs ns,vals=[Value.ref a]∧args=[WData.list (ns.map WData.int)]∧h.get? a=some { cls:=.type "list",data:=.seq vs.toArray }∧IntsAre vs ns∧ns.length≤n:=by
 have hsh:WShape.hasAll [] args [.list .int]=true:=(pre_splitW hpre).1
 have hc:l.pre.holds [] { args:=args }=true:=(pre_splitW hpre).2
 obtain ⟨d,r,rfl,h1,h2⟩:=hasAllW_cons hsh
 obtain rfl:=hasAllW_nil h2
 obtain ⟨xs,rfl,h3⟩:=hasW_list h1
 obtain ⟨ns,rfl⟩:=items_int h3
 have hlen:ns.length≤n:=by
  unfold OpenLaw.pre at hc
  have h4:(WTm.not (.lt (.lit (.int (n:Int))) (.len (.arg 0)))).holds [] { args:=[.list (ns.map .int)] }=true:=by
   have h4:=(holds_andW hc).1
   rw [hn] at h4
   exact h4
  have h5:=condW_of h4 (w_not (w_lt w_lit (w_len_list (w_arg rfl))))
  rw [ya] at h5
  refine Nat.le_of_not_lt fun q=>?_
  have q':(n:Int) < ((ns.length:Nat):Int):=by omega
  first
   | (rw [decide_eq_true q'] at h5;exact absurd h5 (by decide))
   | (simp at h5;omega)
 cases hwl with
 | cons w1 w2 =>
  cases w2
  cases w1 with
  | list ho hall=>exact ⟨_,_,ns,rfl,rfl,ho,ints_of_wellAll ns _ hall,hlen⟩
theorem post_true (l:OpenLaw) (args:List WData):l.row.toRowW.claim.post args (.bool true) args=true:=
 postW_of (r:=l.row.toRowW) (X:=(true==true))
  (show WShape.has [] (.bool true) .bool=true by first | rfl | decide | simp [WShape.has,WShape.arms,WShape.armsAll])
  (show (WTm.eq .res (.lit (.bool true))).value [] { args:=args,res:=some (.bool true),after:=args }=some (.bool (true==true)) from w_eq_bool (w_res rfl) w_lit) rfl
theorem attach_call {l:OpenLaw} {n:Nat} {q:Program} {loose:List Str} {XP:(Str→Option Value)→Heap→Prop} {YP:World→Heap→Prop} {d:DefRec}
  (hn:l.most=some n) (hdf:d.params.defaults=[])
  (call:∀ (w:World) (s₀ s₁:Shared) (mg mb:Str→Option Value) (fa:Addr) (o:Obj) (pm cd doc:Value) (a:Addr) (vs:List Value) (ns:List Int),
   Ground q loose [] XP w s₀ mg mb s₁.heap→YP w s₁.heap →
   s₁.heap.get? fa=some o→o.data=.func (docDef d.name d.params d.body d.scope pm cd doc)→s₁.heap.CodeRec cd d.name→mg d.name=some (.ref fa) →
   s₁.heap.get? a=some { cls:=.type "list",data:=.seq vs.toArray }→IntsAre vs ns→ns.length≤n→s₁.gens=#[] →
   codeAny (model l.prog w) callerA (.call (.ref fa) ⟨[.ref a],[]⟩) (fun r s'=>r=.ok (.ret (.bool true))∧OldK s₁.heap s'.heap∧s'.os=s₁.os∧AllBare s'.gens) s₁) :
  WalkO q loose XP YP l.row.toRowW d [] (fun f vs=>PySem.call f vs):=by
 intro w s₀ s₁ mg mb G Y fa o pm cd doc dV kV ho hd hcd hD hmg hg args vals as hpre hlay hrd hwl hlo
 obtain rfl:dV=.none:=Dflts.none hD hdf
 obtain rfl:kV=.none:=Dflts.noKw hD
 obtain ⟨a,vs,ns,rfl,rfl,hobj,hints,hlen⟩:=script_of hn hpre hwl
 refine enter_call (codeAny_mono (call w s₀ s₁ mg mb fa o pm cd doc a vs ns G Y ho (fd_plain hd) hcd hmg hobj hints hlen hg) fun r s' hq=>?_)
 obtain ⟨rfl,h2,h3,h4⟩:=hq
 exact ⟨.inl ⟨.bool true,.bool true,[],rfl,fun _=>rfl,.bool true,post_true l _,fun _=>⟨List.Pairwise.nil,fun _ hm=>(nomatch hm)⟩⟩,h2,h3,h4⟩
section
variable {prog:Program} {w:World} {A:Around} {E:Value→Shared→Prop} {s:Shared} {K:Frag}
def ledger (h:Heap) (L d:Addr):List (Addr×Obj):=(List.range h.objs.size).filterMap fun a=>if a=L∨a=d then none else (h.get? a).map fun o=>(a,o)
end
end Att
namespace L2
open PySem PySem.Spec PyProof.Rows
theorem qbY:∀ {vs:List Value} {ns:List Int},IntsAre vs ns→Vals (ns.map V.int) vs
 | _,_,.nil=>.nil
 | _,_,.cons n t h=>.cons ⟨t,rfl⟩ (qbY h)
def qfd (H:Hp):Prop:=∀ b,H b=none∨∃ o xs,H b=some (.frz o (.lst xs))
theorem law_call {P:Program} {w:World} {K:yg} {mg mb:Str→Option Value} {CX:CXT} {k:Nat} {fa a:Addr} {fd:FuncData} {x:Str} {sp:Sp} {s₁:Shared} {vs:List Value} {ns:List Int}
  (KX:K.In s₁.heap) (hns:s₁.heap.Ns mainGlobals mg) (hb:s₁.heap.Ns builtinsNs mb) (hbb:∀ x:Str,x≠"__name__"→mb x=bootBuiltins x) (hlim:s₁.heap.NoLimit) (hg:s₁.gens=#[])
  (ha:s₁.heap.get? a=some { cls:=.type "list",data:=.seq vs.toArray }) (hi:IntsAre vs ns) (hl:ns.length≤sizeLine) (hr:Room k callerA)
  (F:∀ base:Heap,K.In base→base.Ns mainGlobals mg→FnOk P w K mg base CX k fa fd [x] sp) (hbind:∀ (s:Shared) (u:Value),BindsTo s fd ⟨[u],[]⟩ [(x,u)])
  (hsp:∀ H:Hp,qfd H→SqL K H a (ns.map V.int)→sp [.ref a] H (fun v _=>v=.bl true) fun _ _ _=>False)
  (hCX:∀ H e s',CX [] H s₁ (fun _ _ _=>False) e s'→False) :
  codeAny (model P w) callerA (.call (.ref fa) ⟨[.ref a],[]⟩) (fun r s'=>r=.ok (.ret (.bool true))∧OldK s₁.heap s'.heap∧s'.os=s₁.os∧AllBare s'.gens) s₁:=by
 have rv:=qbY hi
 have lenV:=hi.length
 have core:∀ H:Hp,qfd H→SqL K H a (ns.map V.int)→HOk P w H s₁.heap→(∀ b,H b≠none→b=a)→(H a≠none→K.lookup a=none) →
   codeAny (model P w) callerA (.call (.ref fa) ⟨[.ref a],[]⟩) (fun r s'=>r=.ok (.ret (.bool true))∧OldK s₁.heap s'.heap∧s'.os=s₁.os∧AllBare s'.gens) s₁:=by
  intro H hO hS hok hA hK
  have base_of:∀ {b:Addr} {o:Obj},s₁.heap.get? b=some o→H b=none→(qdL s₁.heap H).get? b=some o:=fun e n=>hidT_get e n
  have noA:∀ {b:Addr} {o:Obj} {es:Array DictEntry} {ep:Nat},s₁.heap.get? b=some o→o.data=.dict es ep→H b=none:=fun {b o es ep} e d=>by
   cases q:H b with
   | none=>rfl
   | some u =>
    have e':b=a:=hA b (by rw [q];simp)
    subst e'
    rw [ha] at e;cases e
    have d':Data.seq vs.toArray _=Data.dict es ep:=d
    cases d'
  have nsK:∀ {b:Addr} {m:Str→Option Value},s₁.heap.Ns b m→(qdL s₁.heap H).Ns b m:=fun {b m} ⟨o,es,ep,e,d,r⟩=>⟨o,es,ep,base_of e (noA e d),d,r⟩
  have hKb:K.In (qdL s₁.heap H):=fun b o e=>base_of (KX b o e) (by
   cases q:H b with
   | none=>rfl
   | some u =>
    have e':b=a:=hA b (by rw [q];simp)
    subst e'
    rw [hK (by rw [q];simp)] at e;cases e)
  have hM:Mod K mg (qdL s₁.heap H):=⟨hKb,nsK hns,⟨mb,nsK hb,hbb⟩,let ⟨mc,h1,h2⟩:=hlim;⟨mc,nsK h1,h2⟩⟩
  have e0:Env0 P w K mg (qdL s₁.heap H) callerA [] s₁ H:=⟨rfl,hM,fun b o e=>of_hidT e,Nat.le_of_eq (hidT_size _ _),trivial,fun b hb=>absurd (show b∈([]:List Addr) from hb) (by simp),hok,.of_eq hg⟩
  refine codeAny_mono ((F _ hKb (nsK hns)).run callerA [] s₁ H ⟨[.ref a],[]⟩ [.ref a] [.ref a] _ _ hr e0 (hbind s₁ (.ref a)) (.cons rfl .nil) (hsp H hO hS)) fun r s' h=>?_
  cases r with
  | error e=>exact (hCX H e s' h).elim
  | ok fl =>
   cases fl with
   | next=>exact False.elim h
   | brk=>exact False.elim h
   | cont=>exact False.elim h
   | ret u =>
    obtain ⟨v,H',os,bare,un,hok',r',q⟩:=h
    have q':v=.bl true:=q
    subst q'
    obtain rfl:u=Value.bool true:=r'
    refine ⟨rfl,OldK.of_keep fun b o e=>?_,os,bare⟩
    cases q:H b with
    | none=>exact un.keep b o e q (by intro z;exact absurd (show b∈([]:List Addr) from z) (by simp)) (by simp)
    | some u =>
     rcases hO b with z | ⟨ob,xs,z⟩
     ·rw [q] at z;cases z
     ·have z2:=un.frzs b ob _ z
      obtain ⟨e1,_⟩:=hok b _ z
      obtain ⟨e2,_⟩:=hok' b _ z2
      rw [e] at e1;cases e1
      exact e2
 cases hk:K.lookup a with
 | some o =>
  have e:=KX a o hk
  rw [ha] at e
  cases e
  refine core (fun _=>none) (fun _=>.inl rfl) (.inr ⟨_,vs.toArray,_,hk,rfl,rfl,rfl,by rw [List.size_toArray,lenV];exact hl,by simpa using rv⟩) (fun b u z=>by have z':(none:Option HO)=some u:=z;cases z') (fun b z=>absurd rfl z) fun z=>absurd rfl z
 | none =>
  refine core (fun b=>if b=a then some (.frz { cls:=.type "list",data:=.seq vs.toArray } (.lst (ns.map V.int))) else none) (fun b=>?_) (.inl (.inr ⟨{ cls:=.type "list",data:=.seq vs.toArray },if_pos rfl⟩)) (fun b u z=>?_) (fun b z=>?_) fun _=>hk
  ·by_cases hb:b=a
   ·exact .inr ⟨_,_,if_pos hb⟩
   ·exact .inl (if_neg hb)
  ·by_cases hb:b=a
   ·have z':=(if_pos hb).symm.trans z
    cases z'
    subst hb
    exact ⟨ha,by rw [ya];exact hl,vs,_,rv,ha⟩
   ·have z':=(if_neg hb).symm.trans z
    cases z'
  ·by_cases hb:b=a
   ·exact hb
   ·exact absurd (if_neg hb) z
abbrev KOf {K:yg} {h:Heap} (_:K.In h):yg:=K
theorem walk_of {l:PySem.W.OpenLaw} {n k:Nat} {q:Program} {loose:List Str} {XP:(Str→Option Value)→Heap→Prop} {YP:World→Heap→Prop} {d:DefRec} {K:Params→yg} {CX:World→CXT} {sp:World→Sp} {x:Str}
  (hn:l.most=some n) (hn2:n≤sizeLine) (hdf:d.params.defaults=[]) (hr:Room k callerA)
  (hY:∀ (w:World) (h:Heap),YP w h→(K w.params).In h)
  (F:∀ (w:World) (mg:Str→Option Value) (fa:Addr) (h:Heap),(K w.params).In h→h.Ns mainGlobals mg→mg d.name=some (.ref fa) →
   ∃ fd:FuncData,(∀ (s:Shared) (u:Value),BindsTo s fd ⟨[u],[]⟩ [(x,u)]) ∧
    ∀ base:Heap,(K w.params).In base→base.Ns mainGlobals mg→FnOk l.prog w (K w.params) mg base (CX w) k fa fd [x] (sp w))
  (hsp:∀ (w:World) (H:Hp) (a:Addr) (ns:List Int),ns.length≤n→qfd H→SqL (K w.params) H a (ns.map V.int)→sp w [.ref a] H (fun v _=>v=.bl true) fun _ _ _=>False)
  (hCX:∀ (w:World) (H:Hp) (s:Shared) (e:Value) (s':Shared),CX w [] H s (fun _ _ _=>False) e s'→False) :
  PySem.W.WalkO q loose XP YP l.row.toRowW d [] (fun f vs=>PySem.call f vs):=by
 refine Att.attach_call hn hdf fun w s₀ s₁ mg mb fa o pm cd doc a vs ns G Y ho hd hcd hmg hobj hints hlen hg=>?_
 have KX:=hY w _ Y
 obtain ⟨fd,hb,hF⟩:=F w mg fa _ KX G.T.g hmg
 exact law_call KX G.T.g G.T.b G.T.builtins G.T.nolimit hg hobj hints (yi hlen hn2) hr hF hb (fun H hO hS=>hsp w H a ns hlen hO hS) fun H e s'=>hCX w H s₁ e s'
abbrev CX0:CXT:=fun _ _ _ _ _ _=>False
abbrev E0:XK:=fun _ _ _=>False
theorem qC {X:Cx}:qaJ CX0 X E0:=fun _ _ _ _ _ _ _ h=>h.elim
structure Fun (K:yg) (x qual:Str) (st:Stmt) (f:Addr) (fd:FuncData):Prop where
 ex:∃ (oc:Value) (od:Option Addr) (kV doc pm:Value) (an:Option Addr) (cdv ct:Value) (osl:Array (Option Value)),
  fd=PySem.W.fnOf x qual (qk st) (qj st) (qd st) .none kV doc pm an cdv ct∧K.lookup f=some ⟨oc,od,.func fd,osl⟩∧PySem.W.codeIn K cdv qual=true
 kp:PySem.W.keepIn K (.ref f)=true
section
variable {P:Program} {w:World} {K:yg} {mg:Str→Option Value} {base:Heap}
theorem Fun.ok {x qual:Str} {st:Stmt} {f:Addr} {fd:FuncData} {N ps:List Str} {k:Nat} {sp:Sp} (F:Fun K x qual st f fd) (S:FnScope N ps (qd st)) (hbody:∀ (cdv:Value) (A:Around) (outer:List Env) (s:Shared) (H:Hp) (vs:List V) (Q:VK) (E:XK),Room k (A.deeper (envOfC qual (qd st) s.heap.objs.size f cdv))→sp vs H Q E →
   ∃ t,PSs (qex CX0 P w K mg base N qual (qd st) f cdv A outer s H E).nox (qj st) t∧t { nx:=fun _ H'=>Q .non H',rt:=Q } (start N vs) H) (len:∀ vs H Q E,sp vs H Q E→vs.length=ps.length:=by intro _ _ _ _ h;cases h;subst_vars;rfl):FnOk P w K mg base CX0 (k + 1) f fd ps sp:=by
 obtain ⟨oc,od,kV,doc,pm,an,cdv,ct,osl,rfl,lk,hcd⟩:=F.ex
 refine fn_of lk hcd S len fun A outer s H vs Q E hr hsp=>?_
 obtain ⟨t,h,q⟩:=hbody cdv A outer s H vs Q E hr hsp
 exact ⟨t,h.nox,q⟩
theorem Fun.binds {x qual:Str} {st:Stmt} {f:Addr} {fd:FuncData} {ps:List Str} (F:Fun K x qual st f fd)
  (h:∀ (kV doc pm:Value) (an:Option Addr) (cdv ct:Value) (us:List Value),us.length=ps.length→bindArgs (PySem.W.fnOf x qual (qk st) (qj st) (qd st) .none kV doc pm an cdv ct) ⟨us,[]⟩=pure (ps.zip us)):Binds K fd ps []:=by
 obtain ⟨oc,od,kV,doc,pm,an,cdv,ct,osl,rfl,lk,hcd⟩:=F.ex
 exact .all (h kV doc pm an cdv ct)
theorem fun_mk {x qual:Str} {st:Stmt} {f:Addr} {oc:Value} {od an:Option Addr} {osl:Array (Option Value)} {kV doc pm cdv ct:Value} (l:K.lookup f=some ⟨oc,od,.func (PySem.W.fnOf x qual (qk st) (qj st) (qd st) .none kV doc pm an cdv ct),osl⟩)
  (c:PySem.W.codeIn K cdv qual=true) (k:PySem.W.keepIn K (.ref f)=true):Fun K x qual st f (PySem.W.fnOf x qual (qk st) (qj st) (qd st) .none kV doc pm an cdv ct):=⟨⟨oc,od,kV,doc,pm,an,cdv,ct,osl,rfl,l,c⟩,k⟩
end
theorem qh {n:Nat} (h:n≤1000):n < sizeLine:=Nat.lt_of_le_of_lt h (by decide)
section
variable {X:Cx}
theorem pv (i:Nat) {x:Str} {pos:Pos} (hN:X.N[i]?=some x:=by rfl) (hv:Vis X.env.scope x:=by first | exact Or.inl rfl | exact Or.inr (Or.inl rfl) | exact Or.inr (Or.inr rfl)) (hd:(x==("__debug__":Str))=false:=by decide)
  (hcd:(x==("__classdict__":Str))=false:=by decide):PE X (.Name x pos) (qe9 i):=pe_var hN hv hd hcd
theorem call_lenD:qaf X (.builtin "len") (fun xs H Q=>∃ a kvs,xs=[V.ref a]∧H a=some (.dK kvs)∧Q (.int kvs.length) H):=by
 intro pins s σ H xs us Q I r h
 obtain ⟨a,kvs,rfl,ha,q⟩:=h
 obtain ⟨u,rfl,ru⟩:=qbr r
 cases ru
 exact d_len I (.inl ha) fun t s' I'=>⟨.int kvs.length,H,I',⟨t,rfl⟩,q⟩
end
theorem zv {A B:Prop} (h:A):if true=true then A else B:=by
 rw [if_pos rfl]
 exact h
theorem qU {c A B:Prop} [Decidable c] (h1:c→A) (h2:¬ c→B):if c then A else B:=by
 by_cases h:c
 ·rw [if_pos h]
  exact h1 h
 ·rw [if_neg h]
  exact h2 h
def Same (H H':Hp):Prop:=∀ b o,H b=some o→H' b=some o
theorem Same.refl (H:Hp):Same H H:=fun _ _ h=>h
theorem Same.trans {H H1 H2:Hp} (a:Same H H1) (b:Same H1 H2):Same H H2:=fun c o h=>b c o (a c o h)
theorem Same.free {H H':Hp} (e:Same H H') {l:Addr} (h:H' l=Option.none):H l=Option.none:=by
 cases q:H l with
 | none=>rfl
 | some o =>
  rw [e l o q] at h
  cases h
theorem Same.seq {K:yg} {H H':Hp} {a:Addr} {xs:List V} (e:Same H H') (h:SqL K H a xs):SqL K H' a xs:=by
 rcases h with (h | ⟨o,h⟩) | h
 ·exact .inl (.inl (e _ _ h))
 ·exact .inl (.inr ⟨o,e _ _ h⟩)
 ·exact .inr h
section
variable {κ:Type} [DecidableEq κ]
end
end L2
set_option maxHeartbeats 4000000
namespace L2
open PySem PySem.Spec PyProof.Rows
section
variable {prog:Program} {w:World} {A:Around} {R:Result→Shared→Prop} {s:Shared}
theorem compLoop_own {elt target iter:Expr} {ifs:List Expr} {scope:Scope} {pos:Pos} {it acc:Value} {env:Env} (I:Nat→Shared→Prop)
  (turn:∀ n s,I n s→wpAny (model prog w) A (pyNext it) (fun r s1=>match r with
   | none=>R (.ok .next) s1
   | some v=>wpAny (model prog w) A (letOwnedTupleGo target it v) (fun _ s1'=>wpAny (model prog w) A (assign target env v) (fun _ s2 =>
     wpAny (model prog w) A (forIn ifs true fun c r=>if r=true then do let ok ← isTrue c env (eval c env);pure (ForInStep.yield ok) else pure (ForInStep.yield r)) (fun ok s3 =>
      if ok=true then wpAny (model prog w) A (eval elt env) (fun x s4 =>
       wpAny (model prog w) A (call (.builtin "list.append") [acc,x]) (fun _ s5=>∃ m,m < n∧I m s5) (fun _ _=>False) s4) (fun _ _=>False) s3
      else ∃ m,m < n∧I m s3) (fun _ _=>False) s2) (fun _ _=>False) s1') (fun _ _=>False) s1) (fun _ _=>False) s)
  (n:Nat) (h:I n s) :
  codeAny (model prog w) A (.compLoop (.ListComp elt [⟨target,iter,ifs,0⟩] scope pos) 0 it acc env) R s:=by
 refine codeAny_loop rfl I (fun n s hI=>?_) n h
 show wpAny _ A ((compTurn (.ListComp elt [⟨target,iter,ifs,0⟩] scope pos) 0 it acc env).onRaise (fun x=>do noteFrame x env;theTreesLotGoes x)) _ _ s
 refine wpAny_noted ?_
 rw [compTurn_list]
 refine wpAny_bind (wpAny_standAt (wpAny_bind (wpAny_mono (turn n s hI) (fun r s1 h1=>?_) fun _ _ h'=>h'.elim)))
 cases r with
 | none=>exact wpAny_pure h1
 | some v =>
  refine wpAny_bind (wpAny_mono h1 (fun _ s1' h1'=>?_) fun _ _ h'=>h'.elim)
  refine wpAny_bind (wpAny_mono h1' (fun _ s2 h2=>wpAny_bind (wpAny_mono h2 (fun ok s3 h3=>?_) fun _ _ h'=>h'.elim)) fun _ _ h'=>h'.elim)
  cases ok with
  | false=>exact wpAny_pure ⟨rfl,h3⟩
  | true =>
   exact wpAny_bind (wpAny_bind (wpAny_mono h3 (fun x s4 h4=>wpAny_bind (wpAny_mono h4 (fun _ s5 h5=>wpAny_pure (wpAny_pure ⟨rfl,h5⟩)) fun _ _ h'=>h'.elim)) fun _ _ h'=>h'.elim))
end
def qQ (env:Env):List (Str×NameKind)→List (Str×Addr)→List (Str×Addr)
 | [],acc=>acc
 | (n,k)::r,acc=>qQ env r (if (k==.free)=true then (n,(env.cells.lookup n).getD 0)::acc else acc)
theorem zK {env:Env}:∀ {names:List (Str×NameKind)} {acc:List (Str×Addr)} {x:Str} {c:Addr},(qQ env names acc).lookup x=some c →
  ((x,NameKind.free)∈names∧c=(env.cells.lookup x).getD 0)∨acc.lookup x=some c
 | [],_,_,_,h=>.inr h
 | (n,k)::r,acc,x,c,h=>by
  unfold qQ at h
  rcases zK h with ⟨h1,h2⟩ | h1
  ·exact .inl ⟨List.mem_cons_of_mem _ h1,h2⟩
  ·by_cases hk:(k==NameKind.free)=true
   ·rw [if_pos hk,List.lookup_cons] at h1
    cases hx:x==n with
    | true =>
     rw [hx] at h1
     have e:x=n:=beq_iff_eq.mp hx
     have e2:k=.free:=beq_iff_eq.mp hk
     subst e e2
     exact .inl ⟨List.mem_cons_self,(ym h1).symm⟩
    | false =>
     rw [hx] at h1
     exact .inr h1
   ·rw [if_neg hk] at h1
    exact .inr h1
theorem qau {env:Env}:∀ {names:List (Str×NameKind)} {acc:List (Str×Addr)} {x:Str},(∃ c,acc.lookup x=some c)→∃ c,(qQ env names acc).lookup x=some c
 | [],_,_,h=>h
 | (n,k)::r,acc,x,h=>by
  unfold qQ
  apply qau
  by_cases hk:(k==NameKind.free)=true
  ·rw [if_pos hk,List.lookup_cons]
   cases hx:x==n with
   | true=>exact ⟨_,rfl⟩
   | false=>exact h
  ·rw [if_neg hk]
   exact h
theorem zL {env:Env}:∀ {names:List (Str×NameKind)} {acc:List (Str×Addr)} {x:Str},(x,NameKind.free)∈names→∃ c,(qQ env names acc).lookup x=some c
 | [],_,_,h=>by cases h
 | (n,k)::r,acc,x,h=>by
  unfold qQ
  rcases List.mem_cons.mp h with e | e
  ·cases e
   apply qau
   rw [show (NameKind.free==NameKind.free)=true from rfl,if_pos rfl,List.lookup_cons,beq_self_eq_true]
   exact ⟨_,rfl⟩
  ·exact zL e
theorem qav {scope:Scope} {env:Env} (h:∀ n,(n,NameKind.free)∈scope.names→∃ c,env.cells.lookup n=some c):closureFor scope env=pure (qQ env scope.names []):=by
 have key:∀ (names:List (Str×NameKind)) (acc:List (Str×Addr)),(∀ n,(n,NameKind.free)∈names→∃ c,env.cells.lookup n=some c) →
   (forIn names acc (fun (x:Str×NameKind) (r:List (Str×Addr))=>(if (x.2==NameKind.free)=true then (cellOf env x.1>>=fun c=>pure (ForInStep.yield ((x.1,c)::r))) else pure (ForInStep.yield r):Sem (ForInStep (List (Str×Addr))))))=(pure (qQ env names acc):Sem (List (Str×Addr))):=by
  intro names
  induction names with
  | nil=>intro acc _;rfl
  | cons x r ih =>
   intro acc hn
   obtain ⟨n,k⟩:=x
   rw [List.forIn_cons]
   unfold qQ
   by_cases hk:(k==NameKind.free)=true
   ·have e2:k=.free:=beq_iff_eq.mp hk
    subst e2
    obtain ⟨c,hc⟩:=hn n List.mem_cons_self
    have e3:cellOf env n=pure c:=by unfold cellOf;rw [hc]
    simp only [hk,if_true,e3,hc,Option.getD_some]
    exact ih _ fun m hm=>hn m (List.mem_cons_of_mem _ hm)
   ·simp only [hk,if_false]
    exact ih _ fun m hm=>hn m (List.mem_cons_of_mem _ hm)
 have e:=key scope.names [] h
 unfold closureFor
 exact Eq.trans (congrArg (fun m=>m>>=pure) e) rfl
@[reducible] def Cx.comp (X:Cx) (N:List Str) (scope:Scope) (C:Addr) (s0:Shared) (H0:Hp) (ex:List Addr):Cx where
 prog:=X.prog
 w:=X.w
 K:=X.K
 mg:=X.mg
 base:=X.base
 A:=X.A
 N:=N
 s₀:=s0
 H₀:=H0
 env:=compEnvC scope (cellsFrom (C + 1) scope.names (qQ X.env scope.names [])) C X.env
 outer:=X.stack
 stack:=X.stack
 ex:=ex
 fn:=fun x=>scope.names.lookup x==some NameKind.cell
 calm:=X.calm
 pn:=[]
 xe:=fun _ _=>False
theorem jF:∀ (names:List (Str×NameKind)) (n:Nat) (acc:List (Str×Addr)),cellsFrom n names acc=cellsFrom n names []++acc
 | [],_,_=>rfl
 | (m,k)::r,n,acc=>by
  unfold cellsFrom
  split
  ·rw [jF r (n + 1) ((m,n)::acc),jF r (n + 1) [(m,n)],List.append_assoc];rfl
  ·exact jF r n acc
theorem qaw:∀ {names:List (Str×NameKind)} {n:Nat} {x:Str},(x,NameKind.cell)∈names→∃ c,(cellsFrom n names []).lookup x=some c
 | (m,k)::r,n,x,h=>by
  unfold cellsFrom
  rcases List.mem_cons.mp h with e | e
  ·cases e
   rw [if_pos (show (NameKind.cell==NameKind.cell)=true from rfl),jF,List.lookup_append]
   cases q:(cellsFrom (n + 1) r []).lookup m with
   | some c=>exact ⟨c,rfl⟩
   | none=>exact ⟨n,by show List.lookup m [(m,n)]=some n;rw [List.lookup_cons,beq_self_eq_true]⟩
  ·split
   ·rw [jF,List.lookup_append]
    obtain ⟨c,hc⟩:=qaw (n:=n + 1) e
    exact ⟨c,by rw [hc];rfl⟩
   ·exact qaw e
theorem qaY:∀ {names:List (Str×NameKind)} {n:Nat} {x:Str} {c:Addr},(x,c)∈cellsFrom n names []→(x,NameKind.cell)∈names
 | (m,k)::r,n,x,c,h=>by
  unfold cellsFrom at h
  split at h
  ·rename_i hk
   rw [jF] at h
   rcases List.mem_append.mp h with z | z
   ·exact List.mem_cons_of_mem _ (qaY z)
   ·have e:(x,c)=(m,n):=List.mem_singleton.mp z
    cases e
    rw [beq_iff_eq.mp hk];exact List.mem_cons_self
  ·exact List.mem_cons_of_mem _ (qaY h)
theorem qaZ {names:List (Str×NameKind)} {n:Nat} {acc:List (Str×Addr)} {x:Str} {c:Addr} (h:(cellsFrom n names acc).lookup x=some c):(x,c)∈cellsFrom n names []∨acc.lookup x=some c:=by
 rw [jF,List.lookup_append] at h
 cases e:(cellsFrom n names []).lookup x with
 | some d=>rw [e] at h;cases h;exact .inl (mem_of_lookup e)
 | none=>rw [e] at h;exact .inr h
theorem cells_some {names:List (Str×NameKind)} {n:Nat} {acc:List (Str×Addr)} {x:Str} (h:(x,NameKind.cell)∈names∨∃ c,acc.lookup x=some c):∃ c,(cellsFrom n names acc).lookup x=some c:=by
 rw [jF,List.lookup_append]
 cases e:(cellsFrom n names []).lookup x with
 | some d=>exact ⟨d,rfl⟩
 | none =>
  rcases h with z | ⟨c,hc⟩
  ·obtain ⟨d,hd⟩:=qaw (n:=n) z;rw [e] at hd;cases hd
  ·exact ⟨c,hc⟩
section
variable {M:Model} {A:Around} {E:Value→Shared→Prop} {s:Shared}
theorem newEnvK {scope:Scope} {globals:Addr} {closure:List (Str×Addr)} {qual:Str} {func:Option Addr} {code:Value} {outer:Env} {builtins:Addr} {Q:Env→Shared→Prop}
  (hQ:Q (newEnv scope s.heap.objs.size globals (cellsFrom (s.heap.objs.size + 1) scope.names closure) qual func code (some outer) builtins) { s with heap:=pushCells (s.heap.push { cls:=.type "dict",data:=.dict #[] }) scope.names }) :
  wpAny M A (newFunctionEnv scope globals closure [] qual func code (some outer) builtins) Q E s:=by
 simp only [newFunctionEnv,Option.isSome_some,if_true]
 refine wpAny_bind (wpAny_alloc ?_)
 refine wpAny_bind (wpAny_layCells _ (fun name kind cells=>by cases hkc:kind==NameKind.cell<;>simp [hkc]) _ _ _ _ ?_)
 rw [show ({ s with heap:=s.heap.push { cls:=.type "dict",data:=.dict #[] } }:Shared).heap.objs.size=s.heap.objs.size + 1 from Heap.size_push ..]
 rw [List.forIn_nil]
 exact wpAny_bind (wpAny_pure (wpAny_pure hQ))
end
structure CompOk (sc scope:Scope):Prop where
 kind:scope.kind=.function
 cel:∀ y∈scope.names,y.2=.cell→scope.names.lookup y.1=some .cell
 loc:∀ y∈scope.names,y.2=.local→scope.names.lookup y.1=some .local
 free:∀ y∈scope.names,y.2=.free→sc.names.lookup y.1=some .cell∨sc.names.lookup y.1=some .free
 once:∀ y∈scope.names,y.2=.free→scope.names.lookup y.1=some .free
def qbZ (sc scope:Scope):Bool:=decide (scope.kind=.function)&&scope.names.all fun y=>match y.2 with
 | .local=>scope.names.lookup y.1==some .local
 | .free=>(sc.names.lookup y.1==some .cell||sc.names.lookup y.1==some .free)&&scope.names.lookup y.1==some .free
 | .cell=>scope.names.lookup y.1==some .cell
 | _=>true
theorem qcG {sc scope:Scope} (h:qbZ sc scope=true):CompOk sc scope:=by
 unfold qbZ at h
 rw [Bool.and_eq_true] at h
 have ha:=List.all_eq_true.mp h.2
 refine ⟨yk h.1,fun y hy e=>?_,fun y hy e=>?_,fun y hy e=>?_,fun y hy e=>?_⟩
 ·have:=ha y hy
  rw [e] at this
  exact beq_iff_eq.mp this
 ·have:=ha y hy
  rw [e] at this
  exact beq_iff_eq.mp this
 ·have:=ha y hy
  rw [e,Bool.and_eq_true,Bool.or_eq_true] at this
  exact this.1.imp beq_iff_eq.mp beq_iff_eq.mp
 ·have:=ha y hy
  rw [e,Bool.and_eq_true] at this
  exact beq_iff_eq.mp this.2
def qe3 (nl:Nat) (ixs:List Nat) (N XN:List Str) (names:List (Str×NameKind)):Bool:=(List.range ixs.length).all fun k=>match ixs[k]?,N[nl + k]? with
 | some j,some x=>XN[j]?==some x&&names.any fun y=>y.1==x&&y.2==.free
 | _,_=>true
theorem qdl {nl:Nat} {ixs:List Nat} {N XN:List Str} {names:List (Str×NameKind)} (h:qe3 nl ixs N XN names=true) (k j:Nat) (x:Str) (h1:ixs[k]?=some j) (h2:N[nl + k]?=some x):XN[j]?=some x∧(x,NameKind.free)∈names:=by
 have hk:k < ixs.length:=(yc.mp h1).1
 have:=List.all_eq_true.mp h k (List.mem_range.mpr hk)
 rw [h1,h2] at this
 simp only [Bool.and_eq_true] at this
 refine ⟨beq_iff_eq.mp this.1,?_⟩
 obtain ⟨⟨n,kd⟩,hy,e⟩:=List.any_eq_true.mp this.2
 rw [Bool.and_eq_true] at e
 have e1:n=x:=beq_iff_eq.mp e.1
 have e2:kd=.free:=beq_iff_eq.mp e.2
 subst e1 e2
 exact hy
def qc6 (nl:Nat) (ixs:List Nat) (σ:St):St:=List.replicate nl none++ixs.map fun j=>(σ[j]?).getD none
theorem capS_len (nl:Nat) (ixs:List Nat) (σ:St):(qc6 nl ixs σ).length=nl + ixs.length:=by
 unfold qc6;rw [List.length_append,List.length_replicate,ya]
theorem qcH {nl:Nat} {ixs:List Nat} {σ:St} {i:Nat} {v:V} (h:(qc6 nl ixs σ)[i]?=some (some v)):nl≤i∧∃ j,ixs[i - nl]?=some j∧σ[j]?=some (some v):=by
 unfold qc6 at h
 by_cases hi:i < nl
 ·rw [List.getElem?_append_left (by rw [List.length_replicate];exact hi),List.getElem?_replicate] at h
  split at h<;>cases h
 ·rw [List.getElem?_append_right (by rw [List.length_replicate];omega),List.length_replicate,yd] at h
  refine ⟨by omega,?_⟩
  cases e:ixs[i - nl]? with
  | none=>rw [e] at h;cases h
  | some j =>
   rw [e] at h
   have h':(σ[j]?).getD none=some v:=ym h
   cases q:σ[j]? with
   | none=>rw [q] at h';cases h'
   | some u =>
    rw [q] at h'
    exact ⟨j,rfl,by rw [q];exact congrArg some h'⟩
def qdM (env:Env) (y:Str×NameKind):Str×NameKind:=if (y.2==NameKind.free&&env.scope.kind==.function&&env.kindOf y.1==some .cell)=true then (y.1,NameKind.cell) else (y.1,y.2)
theorem relF_fst (env:Env) (y:Str×NameKind):(qdM env y).1=y.1:=by unfold qdM;split<;>rfl
theorem relF_snd (env:Env) (y:Str×NameKind):(qdM env y).2=y.2∨((qdM env y).2=.cell∧y.2=.free):=by
 unfold qdM
 split
 ·rename_i h
  rw [Bool.and_eq_true,Bool.and_eq_true] at h
  exact .inr ⟨rfl,beq_iff_eq.mp h.1.1⟩
 ·exact .inl rfl
theorem zy {env:Env}:∀ {names:List (Str×NameKind)} {x:Str} {k:NameKind},(names.map (qdM env)).lookup x=some k→∃ k0,names.lookup x=some k0∧(x,k0)∈names∧(k=k0∨(k=.cell∧k0=.free))
 | [],_,_,h=>by cases h
 | (n,k1)::r,x,k,h=>by
  rw [List.map_cons,show qdM env (n,k1)=((qdM env (n,k1)).1,(qdM env (n,k1)).2) from rfl,List.lookup_cons,relF_fst] at h
  rw [List.lookup_cons]
  cases hx:x==n with
  | true =>
   have e:x=n:=beq_iff_eq.mp hx
   subst e
   have hx':(x==(x,k1).1)=true:=hx
   rw [hx'] at h
   have h':=ym h
   refine ⟨k1,rfl,List.mem_cons_self,?_⟩
   rcases relF_snd env (x,k1) with z | ⟨z1,z2⟩
   ·exact .inl (h'.symm.trans z)
   ·exact .inr ⟨h'.symm.trans z1,z2⟩
  | false =>
   have hx':(x==(n,k1).1)=false:=hx
   rw [hx'] at h
   obtain ⟨k0,e1,e2,e3⟩:=zy h
   exact ⟨k0,e1,List.mem_cons_of_mem _ e2,e3⟩
section
variable {X:Cx} {pins:List (Addr×Obj)} {σ:St} {H:Hp} {s:Shared}
theorem comp_free_of {scope:Scope} {x:Str} {C:Addr} {cl:List (Str×Addr)} (h:(compEnvC scope cl C X.env).kindOf x=some .cell∨(compEnvC scope cl C X.env).kindOf x=some .free):(x,NameKind.cell)∈scope.names∨(x,NameKind.free)∈scope.names:=by
 rcases h with h | h
 ·obtain ⟨k0,_,hm,e | ⟨_,e⟩⟩:=zy (env:=X.env) (names:=scope.names) h
  ·rw [← e] at hm;exact .inl hm
  ·rw [e] at hm
   exact .inr hm
 ·obtain ⟨k0,_,hm,e | ⟨e,_⟩⟩:=zy (env:=X.env) (names:=scope.names) h
  ·rw [← e] at hm
   exact .inr hm
  ·cases e
theorem Inv.comp {N:List Str} {scope:Scope} {nl:Nat} {ixs:List Nat} {C D:Addr} {fp:List Addr} {ob:Obj} {h1:Heap} {tk:Nat} (I:Inv X pins σ H s) (O:CompOk X.env.scope scope)
  (hN:N.length=nl + ixs.length) (hcap:∀ (k j:Nat) (x:Str),ixs[k]?=some j→N[nl + k]?=some x→X.N[j]?=some x∧(x,NameKind.free)∈scope.names)
  (hf:∀ b∈fp,qci X pins H b) (hfl:∀ b∈fp,b < s.heap.objs.size) (hC:s.heap.objs.size≤C) (hD:s.heap.objs.size≤D) (hDC:D≠C) (hns:h1.Ns C fun _=>none) (k:∀ b o,s.heap.get? b=some o→h1.get? b=some o)
  (hob:h1.get? D=some ob) (hcl:∀ v,ob.data≠.cell v) (hk:CellsOk h1 (C + 1) (cellsFrom (C + 1) scope.names [])):Inv (X.comp N scope C s H fp) [(D,ob)] (qc6 nl ixs σ) H { s with heap:=h1,toks:=tk }:=by
 have cells:∀ x c,(qQ X.env scope.names []).lookup x=some c→X.env.cells.lookup x=some c∧(x,NameKind.free)∈scope.names:=fun x c h=>by
  rcases zK h with ⟨h1,h2⟩ | h1
  ·obtain ⟨c',hc'⟩:=I.ok.has x (by
    rcases O.free _ h1 rfl with z | z
    ·exact .inl z
    ·exact .inr z)
   rw [hc'] at h2
   exact ⟨by rw [hc',h2];rfl,h1⟩
  ·cases h1
 have big:∀ c:Addr,C + 1≤c→s.heap.objs.size≤c:=fun c h=>yi hC (Nat.le_of_succ_le h)
 have no:∀ {P:Prop} {c:Addr},C + 1≤c→c < s.heap.objs.size→P:=fun h g=>absurd (yj g (big _ h)) (Nat.lt_irrefl _)
 have all:∀ x c,(cellsFrom (C + 1) scope.names (qQ X.env scope.names [])).lookup x=some c→((x,c)∈cellsFrom (C + 1) scope.names []∧C + 1≤c∧h1.IsCell c none)∨(X.env.cells.lookup x=some c∧c < s.heap.objs.size):=fun x c h=>by
  rcases qaZ h with z | z
  ·exact .inl ⟨z,(hk.empty _ _ z).2,(hk.empty _ _ z).1⟩
  ·obtain ⟨_,q⟩:=I.cell x c (cells x c z).1
   exact .inr ⟨(cells x c z).1,q.lt⟩
 refine ⟨⟨I.ok.mod,O.kind,I.ok.glob,I.ok.blt,hC,fun x y c h1 h2=>?inj,fun x hx=>cells_some ((comp_free_of hx).imp id zL),fun x c z h=>?cab,I.ok.hd,I.ok.frames,.inl rfl,
   fun b hb=>⟨Nat.ne_of_lt (yj (hfl b hb) hC),fun x c e=>?exf⟩,I.bs,yi I.ok.bsz I.sz,fun b o e hb=>?_,fun b hb z=>?_,I.stack,I.stkFree⟩,
  rfl,I.bare,Un.kept k,⟨_,hns,fun i x v e1 e2 e3=>?_⟩,fun x c e=>?_,I.hok.fresh hC,fun x c e=>?fre,fun p hp=>?_,I.hok.kept k,?_⟩
 case inj =>
  rcases all x c h1 with ⟨a1,a2,_⟩ | ⟨a1,a2⟩<;>rcases all y c h2 with ⟨b1,b2,_⟩ | ⟨b1,b2⟩
  ·exact name_of_addr hk.apart a1 b1
  ·exact no a2 b2
  ·exact no b2 a2
  ·exact I.ok.inj x y c a1 b1
 case cab =>
  rcases all x c h with ⟨_,a2,_⟩ | ⟨a1,a2⟩
  ·exact big _ a2
  ·exfalso
   obtain ⟨d,hd⟩:=qaw (n:=C + 1) (mem_of_lookup (beq_iff_eq.mp z))
   have h:(cellsFrom (C + 1) scope.names (qQ X.env scope.names [])).lookup x=some c:=h
   rw [jF,List.lookup_append,hd] at h
   cases h
   exact no (hk.empty _ _ (mem_of_lookup hd)).2 a2
 case exf =>
  rcases all x c e with ⟨_,a2,_⟩ | ⟨a1,_⟩
  ·exact fun z=>no a2 (by rw [z];exact hfl b hb)
  ·exact (hf b hb).2.2.2.2.1 x c a1
 case fre =>
  rcases all x c e with ⟨_,a2,_⟩ | ⟨a1,_⟩
  ·exact I.hok.fresh (big _ a2)
  ·exact I.freeC x c a1
 ·rcases (hf b hb).2.2.2.1 with z | z
  ·exact I.ok.noex b o e z
  ·have:=(I.ok.bs b o e).1
   exact absurd (yj (Heap.lt_size this) z) (Nat.lt_irrefl _)
 ·rcases List.mem_cons.mp (I.stkSub b z) with e | e
  ·exact (hf b hb).2.1 e
  ·exact (hf b hb).2.2.1 e
 ·obtain ⟨hi,j,hj,hv⟩:=qcH e2
  obtain ⟨hx,hfr⟩:=hcap (i - nl) j x hj (by rw [Nat.add_sub_cancel' hi];exact e1)
  obtain ⟨m,hn,hl⟩:=I.loc
  have hk:=O.free _ hfr rfl
  obtain ⟨u,ru,lk⟩:=hl j x v hx hv (by
   rcases hk with z | z
   ·exact .inr (.inl z)
   ·exact .inr (.inr z))
  refine ⟨u,ru,?_⟩
  rcases lk with ⟨hk2,_⟩ | ⟨_,c,hc,hcell⟩
  ·have hk2':X.env.scope.names.lookup x=some .local:=hk2
   rcases hk with z | z<;>· rw [z] at hk2';cases hk2'
  ·obtain ⟨c',hc'⟩:=zL (env:=X.env) (acc:=[]) hfr
   have e:c'=c:=by
    have:=(cells x c' hc').1
    rw [hc] at this
    exact (ym this).symm
   subst e
   have hc2:(cellsFrom (C + 1) scope.names (qQ X.env scope.names [])).lookup x=some c':=by
    rw [jF,List.lookup_append]
    cases q:(cellsFrom (C + 1) scope.names []).lookup x with
    | none=>exact hc'
    | some d=>have:=O.cel _ (qaY (mem_of_lookup q)) rfl;rw [O.once _ hfr rfl] at this;cases this
   refine .inr ⟨?_,c',hc2,?_⟩
   ·rcases e3 with z | z | z
    ·obtain ⟨k0,z3,_,e | ⟨e,_⟩⟩:=zy (env:=X.env) (names:=scope.names) z
     ·rw [O.once _ hfr rfl] at z3
      cases z3
      cases e
     ·cases e
    ·exact .inl z
    ·exact .inr z
   ·obtain ⟨o,ho,hd⟩:=hcell
    exact ⟨o,k _ _ ho,hd⟩
 ·rcases all x c e with ⟨_,_,a3⟩ | ⟨a1,_⟩
  ·exact ⟨none,a3⟩
  ·obtain ⟨v,o,ho,hd⟩:=I.cell x c a1
   exact ⟨v,o,k _ _ ho,hd⟩
 ·have e:p=(D,ob):=by simpa using hp
  subst e
  refine ⟨hob,I.hok.fresh hD,hDC,fun z=>?_,hcl⟩
  rcases List.mem_cons.mp (I.stkSub D z) with e | e
  ·exact absurd (show X.env.locals < D from yj I.lt hD) (by rw [e];exact Nat.lt_irrefl _)
  ·exact I.nofs hD e
 ·show (qc6 nl ixs σ).length=N.length
  rw [capS_len,hN]
theorem Inv.compBack {N:List Str} {scope:Scope} {C D:Addr} {fp:List Addr} {its:List Value} {n:Nat} {s':Shared} {H':Hp} {σ':St} {ys:List V} (I:Inv X pins σ H s) (hf:∀ b∈fp,qci X pins H b) (hC:s.heap.objs.size≤C) (hD:s.heap.objs.size≤D)
  (J:Inv (X.comp N scope C s H fp) [(D,{ cls:=.type "list",data:=.seq its.toArray n })] σ' H' s') (hv:Vals ys its) (hz:ys.length≤sizeLine):Inv X pins σ (upd H' D (.lst ys)) s':=by
 obtain ⟨pD,nD,neD,_,_⟩:=J.pin (D,{ cls:=.type "list",data:=.seq its.toArray n }) (List.mem_append_right _ (List.mem_singleton.mpr rfl))
 have ltD:∀ b o,s.heap.get? b=some o→b≠D:=fun b o e=>Nat.ne_of_lt (yj (Heap.lt_size e) hD)
 have J0:=J.base
 refine I.call' (ch:=fp) J.os ⟨J0.keep,J0.slot,fun b o e n hx=>?_,J0.there,fun b xs e=>?_,fun b o u e=>?_,fun b ps e=>?_⟩ (fun b u e=>?_) J.bare fun b hb=>⟨(hf b hb).2.2.2.1,(hf b hb).2.1,(hf b hb).2.2.2.2.1,(hf b hb).2.2.2.2.2⟩
 ·rw [qg (ltD b o e)]
  exact J0.free b o e n hx
 ·have q:=J0.tups b xs e
  rw [qg (qE q nD)]
  exact q
 ·have q:=J0.frzs b o u e
  rw [qg (qE q nD)]
  exact q
 ·obtain ⟨more,q⟩:=J0.tbls b ps e
  exact ⟨more,by rw [qg (qE q nD)];exact q⟩
 ·by_cases hb:b=D
  ·subst hb
   rw [qb] at e
   cases e
   exact ⟨hz,its,n,hv,pD⟩
  ·rw [qg hb] at e
   exact (J.hok b u e).stay (fun c v _ q=>q) (fun c q=>by rw [qg (qE q nD)];exact q) fun c xs q=>by rw [qg (qE q nD)];exact q
end
def qfD:TT:=fun _ H Q=>Q true H
def qdN (wi:TI) (g:TG) (tc:TT) (te:TE) (nl:Nat) (ixs:List Nat):TE:=fun σ H Q=>wi σ H fun J H1 =>
 ∃ W:Nat→Nat→List V→Hp→Prop,(∃ m,W 0 m [] H1)∧∀ i m ys H,W i m ys H →
  (J.stop i H∧ys.length≤sizeLine∧∀ p,H p=none→Q (.ref p) (upd H p (.lst ys))) ∨
  (J.go i H∧∃ M:List V→Hp→Prop,(∀ ys' H',M ys' H'→∃ m',m' < m∧W (i + 1) m' ys' H')∧∀ x H',J.yld i H x H'→g x (qc6 nl ixs σ) H' fun σ2 H2=>tc σ2 H2 fun b H3 =>
   if b=true then te σ2 H3 fun v H4=>ys.length < sizeLine∧M (ys++[v]) H4 else M ys H3)
def qc2 (nl:Nat) (g:TG):Prop:=∀ x σ H Q,g x σ H Q→g x σ H fun σ2 H2=>Q σ2 H2∧σ2.length=σ.length∧∀ i,nl≤i→σ2[i]?=σ[i]?
theorem qY {nl i:Nat} (h:i < nl:=by decide):qc2 nl (qbp i):=fun x σ H Q q=>⟨q,List.length_set ..,fun j hj=>List.getElem?_set_ne (by omega)⟩
def qey (X:Cx) (ifs:List Expr) (tc:TT):Prop:=
 ∀ (pins:List (Addr×Obj)) (s:Shared) (σ:St) (H:Hp) (Q:Bool→Hp→Prop),Inv X pins σ H s→tc σ H Q →
  wpAny (model X.prog X.w) X.A (forIn ifs true fun c r=>if r=true then do let ok ← isTrue c X.env (eval c X.env);pure (ForInStep.yield ok) else pure (ForInStep.yield r)) (TP X pins σ Q) X.xe s
theorem jS {X:Cx}:qey X [] qfD:=fun pins s σ H Q I h=>wpAny_tests_nil ⟨H,I,h⟩
theorem jy {X:Cx} {c:Expr} {tc:TT} (h:PT X c tc):qey X [c] tc:=fun pins s σ H Q I q=>wpAny_tests_one (h pins s σ H Q I q)
section
variable {X:Cx} {pins:List (Addr×Obj)} {σ:St} {H:Hp} {s:Shared}
theorem qbi {N:List Str} {scope:Scope} {nl:Nat} {ixs:List Nat} {fp:List Addr} {it:Addr} {tn:Nat→Heap→Prop} {J:It} {tg elt iter:Expr} {ifs:List Expr} {pos:Pos} {g:TG} {tc:TT} {te:TE} {Q:V→Hp→Prop} {E:Value→Shared→Prop}
  {RR:Value→Addr→Result→Shared→Prop} (I:Inv X pins σ H s) (hc:X.calm=true) (O:CompOk X.env.scope scope)
  (hN:N.length=nl + ixs.length) (hcap:∀ (k j:Nat) (x:Str),ixs[k]?=some j→N[nl + k]?=some x→X.N[j]?=some x∧(x,NameKind.free)∈scope.names)
  (T:Turn X.prog X.w X.K tg J fp it tn) (st:tn 0 s.heap) (hf:∀ b∈fp,qci X pins H b)
  (hg:∀ C s0 H0 ex,PG (X.comp N scope C s0 H0 ex) tg g) (gk:qc2 nl g) (hi:∀ C s0 H0 ex,qey (X.comp N scope C s0 H0 ex) ifs tc) (he:∀ C s0 H0 ex,PE (X.comp N scope C s0 H0 ex) elt te)
  (h:∃ W:Nat→Nat→List V→Hp→Prop,(∃ m,W 0 m [] H)∧∀ i m ys H,W i m ys H →
   (J.stop i H∧ys.length≤sizeLine∧∀ p,H p=none→Q (.ref p) (upd H p (.lst ys))) ∨
   (J.go i H∧∃ M:List V→Hp→Prop,(∀ ys' H',M ys' H'→∃ m',m' < m∧W (i + 1) m' ys' H')∧∀ x H',J.yld i H x H'→g x (qc6 nl ixs σ) H' fun σ2 H2=>tc σ2 H2 fun b H3 =>
    if b=true then te σ2 H3 fun v H4=>ys.length < sizeLine∧M (ys++[v]) H4 else M ys H3))
  (hRR:∀ (D C:Addr) (s':Shared) (H':Hp) (σ':St) (ys:List V) (its:List Value) (n:Nat),s.heap.objs.size≤C→s.heap.objs.size≤D→Inv (X.comp N scope C s H fp) [(D,{ cls:=.type "list",data:=.seq its.toArray n })] σ' H' s'→Vals ys its→ys.length≤sizeLine →
   (∀ p,H' p=none→Q (.ref p) (upd H' p (.lst ys)))→RR (.ref D) C (.ok .next) s') :
  wpAny (model X.prog X.w) X.A (newList []) (fun acc s3=>wpAny (model X.prog X.w) X.A (newFunctionEnv scope X.env.globals (qQ X.env scope.names []) [] X.env.qual none .none (some X.env)) (fun cenv s4 =>
   codeAny (model X.prog X.w) X.A (.compStart (.ListComp elt [⟨tg,iter,ifs,0⟩] scope pos) 0 (.ref it) acc { cenv with scope:=relabel scope X.env }) (RR acc cenv.locals) s4) E s3) E s:=by
 obtain ⟨W,⟨m0,w0⟩,turn⟩:=h
 refine wpAny_newObj_type (newEnvK ?_)
 dsimp only
 generalize hH2:s.heap.push { cls:=.type "list",dict:=none,data:=.seq ([]:List Value).toArray }=H2
 have hns1:(pushCells (H2.push { cls:=.type "dict",data:=.dict #[] }) scope.names).Ns H2.objs.size fun _=>none:=(Heap.Ns.new H2 (.type "dict")).keeps (pushCells_keeps _ _)
 have hk1:=cellsFrom_ok scope.names (H2.push { cls:=.type "dict",data:=.dict #[] }) (H2.objs.size + 1) [] ⟨fun _ _ hm=>(nomatch hm),List.Pairwise.nil⟩ (by rw [Heap.size_push];exact yh _)
 rw [Heap.size_push] at hk1
 have kp1:∀ b o,H2.get? b=some o→(pushCells (H2.push { cls:=.type "dict",data:=.dict #[] }) scope.names).get? b=some o:=fun b o e=>pushCells_keeps _ _ b o (Heap.get?_push_of_some _ e)
 generalize pushCells (H2.push { cls:=.type "dict",data:=.dict #[] }) scope.names=h1 at hns1 hk1 kp1 ⊢
 have hC:H2.objs.size=s.heap.objs.size + 1:=by rw [← hH2,Heap.size_push]
 have hDC:s.heap.objs.size≠H2.objs.size:=by rw [hC];exact Nat.ne_of_lt (Nat.lt_succ_self _)
 have hCle:s.heap.objs.size≤H2.objs.size:=by rw [hC];exact Nat.le_succ _
 have below:∀ b,b < s.heap.objs.size→b≠H2.objs.size∧b≠s.heap.objs.size:=fun b hb=>⟨by rw [hC];exact Nat.ne_of_lt (Nat.lt_succ_of_lt hb),Nat.ne_of_lt hb⟩
 have old:∀ b o,s.heap.get? b=some o→h1.get? b=some o:=fun b o e=>kp1 b o (hH2 ▸ Heap.get?_push_of_some _ e)
 have hacc:h1.get? s.heap.objs.size=some { cls:=.type "list",data:=.seq ([]:List Value).toArray }:=kp1 _ _ (hH2 ▸ Heap.get?_push_size _ rfl)
 have hfl:∀ b∈fp,b < s.heap.objs.size:=fun b hb=>by
  obtain ⟨o,ho,_⟩:=T.obj 0 _ st b hb
  exact Heap.lt_size ho
 have loop:∀ s3:Shared,s3={ s with heap:=h1 } →
   codeAny (model X.prog X.w) X.A (.compLoop (.ListComp elt [⟨tg,iter,ifs,0⟩] scope pos) 0 (.ref it) (.ref s.heap.objs.size) (compEnvC scope (cellsFrom (H2.objs.size + 1) scope.names (qQ X.env scope.names [])) H2.objs.size X.env)) (RR (.ref s.heap.objs.size) H2.objs.size) s3:=by
  rintro s3 rfl
  have I0:=I.comp (N:=N) (C:=H2.objs.size) (D:=s.heap.objs.size) (h1:=h1) (tk:=s.toks) O hN hcap hf hfl hCle (yh _) hDC hns1 old hacc (fun v z=>by cases z) hk1
  have stat:∀ {H':Hp} {σ':St} {s':Shared} {pl:List (Addr×Obj)},Inv (X.comp N scope H2.objs.size s H fp) pl σ' H' s'→(∀ p∈pl,p.1=s.heap.objs.size)→(∀ b∈fp,H' b=none)→∀ b∈fp,qci (X.comp N scope H2.objs.size s H fp) pl H' b:=fun {H' σ' s' pl} J hpl hn b hb =>
   ⟨hn b hb,(below b (hfl b hb)).1,fun z=>(by
     rcases List.mem_cons.mp (I.stkSub b z) with e | e
     ·exact (hf b hb).2.1 e
     ·exact (hf b hb).2.2.1 e),.inl hb,J.ok.exf b hb |>.2,fun p hp z=>by
    have e:=hpl p (by simpa using hp)
    rw [e] at z
    exact (below b (hfl b hb)).2 z.symm⟩
  refine compLoop_own (fun k s'=>∃ i H' ys its n,Inv (X.comp N scope H2.objs.size s H fp) [(s.heap.objs.size,{ cls:=.type "list",data:=.seq its.toArray n })] (qc6 nl ixs σ) H' s'∧tn i s'.heap∧(∀ b∈fp,H' b=none)∧Vals ys its∧W i k ys H') ?_ m0
   ⟨0,H,[],[],0,I0,T.keep _ _ _ st fun b _ o e=>old b o e,fun b hb=>(hf b hb).1,.nil,w0⟩
  rintro k s' ⟨i,H',ys,its,n,J1,st1,fr1,v1,w1⟩
  have one:∀ p∈[((s.heap.objs.size,{ cls:=.type "list",data:=.seq its.toArray n }):Addr×Obj)],p.1=s.heap.objs.size:=fun p hp=>by
   have e:p=_:=List.mem_singleton.mp hp
   rw [e]
  rcases turn i k ys H' w1 with ⟨stop,hz,q⟩ | ⟨go,M,hM,step⟩
  ·refine thn (T.done (X.comp N scope H2.objs.size s H fp) rfl rfl rfl hc i _ s' _ H' _ J1 (stat J1 one fr1) st1 stop) fun r s4 ⟨hr,J4⟩=>?_
   subst hr
   exact hRR _ _ s4 H' _ ys its n hCle (yh _) J4 v1 hz q
  ·refine thn (T.item (X.comp N scope H2.objs.size s H fp) rfl rfl rfl hc i _ s' _ H' _ J1 (stat J1 one fr1) st1 go) fun r s4 ⟨u,hr,h4⟩=>?_
   subst hr
   refine thn h4 fun _ s5 ⟨x,H5,J5,r5,y5,st5,fr5⟩=>?_
   have J5':=J5.pinned (stat J5 one fr5) (T.obj _ _ st5)
   refine thn (hg _ _ _ _ _ s5 _ H5 x u _ J5' r5 (gk _ _ _ _ (step x H5 y5))) fun _ s6 ⟨σ6,H6,J6,q6,l6,k6⟩=>?_
   refine thn (hi _ _ _ _ _ s6 σ6 H6 _ J6 q6) fun ok s7 ⟨H7,J7,q7⟩=>?_
   have again:∀ {s8:Shared} {H8:Hp} {ys':List V} {k':Nat},Inv (X.comp N scope H2.objs.size s H fp) ([((s.heap.objs.size,{ cls:=.type "list",data:=.seq its.toArray n }):Addr×Obj)]++qbK fp s5.heap) σ6 H8 s8 →
     (∀ b o,b≠s.heap.objs.size→s8.heap.get? b=some o→s8.heap.get? b=some o)→tn (i + 1) s8.heap∧∀ b∈fp,H8 b=none:=fun {s8 H8 ys' k'} J8 _=>by
    refine ⟨T.keep _ _ _ st5 fun b hb o e=>(J8.pin (b,o) (List.mem_append_right _ (List.mem_append_right _ (zT hb e)))).1,fun b hb=>?_⟩
    obtain ⟨o,e,d⟩:=T.obj _ _ st5 b hb
    exact (J8.pin (b,o) (List.mem_append_right _ (List.mem_append_right _ (zT hb e)))).2.1
   have wk:∀ (j:Nat) v,(qc6 nl ixs σ)[j]?=some (some v)→σ6[j]?=some (some v):=fun j v e=>by
    obtain ⟨hj,_⟩:=qcH e
    rw [k6 j hj]
    exact e
   cases ok with
   | false =>
    rw [if_neg Bool.false_ne_true] at q7 ⊢
    obtain ⟨m',hm,w7⟩:=hM _ _ q7
    obtain ⟨st7,fr7⟩:=again (ys':=ys) (k':=0) J7 (fun _ _ _ e=>e)
    exact ⟨m',hm,i + 1,H7,ys,its,n,J7.unpinned.weak l6.symm wk,st7,fr7,v1,w7⟩
   | true =>
    rw [if_pos rfl] at q7 ⊢
    refine thn (he _ _ _ _ _ s7 σ6 H7 _ J7 q7) fun y s8 ⟨v,H8,J8,r8,hlt,mq⟩=>?_
    obtain ⟨m',hm,w8⟩:=hM _ _ mq
    obtain ⟨st8,fr8⟩:=again (ys':=ys) (k':=0) J8 (fun _ _ _ e=>e)
    have J9:=J8.unpinned
    obtain ⟨pD,nD,neD,nfD,_⟩:=J9.pin (s.heap.objs.size,{ cls:=.type "list",data:=.seq its.toArray n }) (List.mem_append_right _ (List.mem_singleton.mpr rfl))
    refine wpAny_list_append_plain (hsz:=by rw [List.size_toArray,← v1.length];omega) ⟨n,pD⟩ fun h9 hl9 hs9=>?_
    obtain ⟨n9,hl9⟩:=hl9
    have e9:(its.toArray.push y)=(its++[y]).toArray:=by simp
    rw [e9] at hl9
    have Ja:Inv (X.comp N scope H2.objs.size s H fp) [] (qc6 nl ixs σ) H8 { s8 with heap:=h9,toks:=s8.toks }:=
     ((J9.pins_of (pins':=[]) fun p hp=>absurd hp (by simp)).turned (it:=s.heap.objs.size) (h':=h9) (t':=s8.toks) (fun b o hb e=>(hs9.2 b hb).trans e) nD neD (.inr (yh _))
      (fun x c e z=>by
       rcases qaZ e with w | e
       ·have:=(hk1.empty _ _ w).2
        rw [z,hC] at this
        exact absurd (yi (Nat.le_succ _) this) (Nat.not_succ_le_self _)
       have:=zK e
       rcases this with ⟨hfr,hcc⟩ | hcc
       ·obtain ⟨c',hc'⟩:=I.ok.has x (by
         rcases O.free _ hfr rfl with q | q
         ·exact .inl q
         ·exact .inr q)
        rw [hc'] at hcc
        have hcc':c=c':=hcc
        obtain ⟨_,q⟩:=I.cell x c' hc'
        rw [← hcc',z] at q
        exact absurd q.lt (Nat.lt_irrefl _)
       ·cases hcc) (fun p hp=>absurd hp (by simp))).weak l6.symm wk
    refine ⟨m',hm,i + 1,H8,ys++[v],its++[y],n9,Ja.pins_of fun p hp=>?_,?_,fr8,v1.append (.cons r8 .nil),w8⟩
    ·have e:p=_:=List.mem_singleton.mp hp
     subst e
     exact ⟨hl9,nD,neD,nfD,fun v z=>by cases z⟩
    ·exact T.keep _ _ _ st8 fun b hb o e=>(hs9.2 b (below b (hfl b hb)).2).trans e
 exact codeAny_compStart_list (loop _ rfl) (T.self _ 0 _ _ _ (T.keep _ _ _ st fun b _ o e=>old b o e) (loop _ rfl))
end
section
variable {X:Cx} {tg elt iter:Expr} {ifs:List Expr} {scope:Scope} {pos:Pos} {N:List Str} {nl:Nat} {ixs:List Nat} {wi:TI} {g:TG} {tc:TT} {te:TE}
theorem ju {sc:Scope} {XN:List Str} (N:List Str) (nl:Nat) (ixs:List Nat) (hsc:X.env.scope=sc) (hXN:X.N=XN) (hc:X.calm=true) (O':qbZ sc scope=true) (hN:N.length=nl + ixs.length) (hcap':qe3 nl ixs N XN scope.names=true)
  (hi:PI X tg iter wi) (hg:∀ C s0 H0 ex,PG (X.comp N scope C s0 H0 ex) tg g) (gk:qc2 nl g) (ht:∀ C s0 H0 ex,qey (X.comp N scope C s0 H0 ex) ifs tc) (he:∀ C s0 H0 ex,PE (X.comp N scope C s0 H0 ex) elt te)
  (hs:∀ x,foldedSetIterable iter X.env x=pure x:=by intro _;rfl):PE X (.ListComp elt [⟨tg,iter,ifs,0⟩] scope pos) (qdN wi g tc te nl ixs):=by
 intro pins s σ H Q I h
 subst hsc hXN
 have O:=qcG O'
 have hcap:=qdl hcap'
 rw [eval_ListComp]
 have hcl:=qav (scope:=scope) (env:=X.env) fun n hn=>I.ok.has n (by
  rcases O.free _ hn rfl with z | z
  ·exact .inl z
  ·exact .inr z)
 refine wpAny_comprehension_free (use:=none) rfl hs hcl O.kind O.loc (thn (hi pins s σ H _ I h) fun v s1 h1=>thn h1 fun itv s2 h2=>?_)
 obtain ⟨it,fp,tn,J,H2,e,I2,T,st2,f2,hW⟩:=h2
 subst e
 refine qbi (Q:=Q) (RR:=fun acc C=>compPost (model X.prog X.w) X.A X.xe none (EP X pins σ Q) acc C) I2 hc O hN hcap T st2 f2 hg gk ht he hW ?_
 intro D C s' H' σ' ys its n hC hD J' hv hz q
 obtain ⟨m,hn,_⟩:=id J'.loc
 have B:=I2.compBack f2 hC hD J' hv hz
 obtain ⟨_,nD,neD,_,_⟩:=J'.pin (D,{ cls:=.type "list",data:=.seq its.toArray n }) (List.mem_append_right _ (List.mem_singleton.mpr rfl))
 refine ⟨m,hn,fun h' sb=>⟨.ref D,_,?_,rfl,q D nD⟩⟩
 refine B.turned (it:=C) (h':=h') (t':=s'.toks) (fun b o hb e=>(sb.2 b hb).trans e) ((qg (H:=H') (a:=D) (b:=C) (o:=.lst ys) (Ne.symm neD)).trans J'.free) (Nat.ne_of_gt (yj I2.lt hC)) (.inr (yi I2.sz hC)) (fun x c e z=>?_) (fun p hp z=>?_)
 ·obtain ⟨_,q⟩:=I2.cell x c e
  exact absurd (yj q.lt (by rw [z];exact hC)) (Nat.lt_irrefl _)
 ·exact absurd (yj (Heap.lt_size (I2.pin p hp).1) (by rw [z];exact hC)) (Nat.lt_irrefl _)
theorem qam {i:Nat} {y:Str} {py spos:Pos} {sc:Scope} {XN:List Str} (N:List Str) (nl:Nat) (ixs:List Nat) (hsc:X.env.scope=sc) (hXN':X.N=XN) (hc:X.calm=true) (O':qbZ sc scope=true) (hN:N.length=nl + ixs.length) (hcap':qe3 nl ixs N XN scope.names=true)
  (hXN:X.N.Nodup) (hi':X.N[i]?=some y) (hy:X.env.scope.names.lookup y=some .local)
  (hi:PI X tg iter wi) (hg:∀ C s0 H0 ex,PG (X.comp N scope C s0 H0 ex) tg g) (gk:qc2 nl g) (ht:∀ C s0 H0 ex,qey (X.comp N scope C s0 H0 ex) ifs tc) (he:∀ C s0 H0 ex,PE (X.comp N scope C s0 H0 ex) elt te)
  (hsw:swapsWith (.ListComp elt [⟨tg,iter,ifs,0⟩] scope pos) (some (.Name y py)) spos.line X.env=pure true:=by rfl)
  (hs:∀ x,foldedSetIterable iter X.env x=pure x:=by intro _;rfl):PS X (.Assign [.Name y py] (.ListComp elt [⟨tg,iter,ifs,0⟩] scope pos) spos) (qew (qdN wi g tc te nl ixs) (qbp i)):=by
 intro pins s σ H D0 I h
 subst hsc hXN'
 have O:=qcG O'
 have hcap:=qdl hcap'
 have hcl:=qav (scope:=scope) (env:=X.env) fun n hn=>I.ok.has n (by
  rcases O.free _ hn rfl with z | z
  ·exact .inl z
  ·exact .inr z)
 rw [exec_Assign_Name_used _ _ _ _ hsw]
 refine wpAny_bind (wpAny_standAt (wpAny_bind ?_))
 show wpAny _ X.A (do let _ ← comprehension (.ListComp elt [⟨tg,iter,ifs,0⟩] scope pos) scope X.env _ (newList []) false (eval iter X.env) (some (assign (.Name y py) X.env))) _ _ s
 refine wpAny_bind (wpAny_mono (wpAny_comprehension_free (use:=some (assign (.Name y py) X.env)) (Q:=fun _ s'=>SP X pins D0 .next s') rfl hs hcl O.kind O.loc
  (thn (hi pins s σ H _ I h) fun v s1 h1=>thn h1 fun itv s2 h2=>?_)) (fun _ s' hq=>wpAny_pure (wpAny_pure hq)) fun _ _ e=>e)
 obtain ⟨it,fp,tn,J,H2,e,I2,T,st2,f2,hW⟩:=h2
 subst e
 refine qbi (Q:=fun v H'=>qbp i v σ H' D0.nx) (RR:=fun acc C=>compPost (model X.prog X.w) X.A X.xe (some (assign (.Name y py) X.env)) (fun _ s'=>SP X pins D0 .next s') acc C) I2 hc O hN hcap T st2 f2 hg gk ht he hW ?_
 intro D C s' H' σ' ys its n hC hD J' hv hz q
 obtain ⟨m,hn,_⟩:=id J'.loc
 have B:=I2.compBack f2 hC hD J' hv hz
 obtain ⟨_,nD,neD,_,_⟩:=J'.pin (D,{ cls:=.type "list",data:=.seq its.toArray n }) (List.mem_append_right _ (List.mem_singleton.mpr rfl))
 show wpAny _ X.A (assign (.Name y py) X.env (.ref D)) _ _ _
 refine wpAny_assign_Name (qbF (i:=i) (x:=y) (v:=.ref D) B hXN hi' (.inl hy) rfl (fun s'' B' hsb=>?_) (.inr hy))
 obtain ⟨a,sa,ha⟩:=hsb
 have hCa:C≠a:=by
  rintro rfl
  rcases ha with z | z
  ·exact absurd (show X.env.locals < C from yj I2.lt hC) (by rw [z];exact Nat.lt_irrefl _)
  ·obtain ⟨_,q⟩:=I2.cell y C z
   exact absurd (yj q.lt hC) (Nat.lt_irrefl _)
 refine ⟨m,hn.sameBut sa hCa,fun h' sb=>⟨_,_,?_,q D nD⟩⟩
 refine B'.turned (it:=C) (h':=h') (t':=s''.toks) (fun b o hb e=>(sb.2 b hb).trans e) ((qg (H:=H') (a:=D) (b:=C) (o:=.lst ys) (Ne.symm neD)).trans J'.free) (Nat.ne_of_gt (yj I2.lt hC)) (.inr (yi I2.sz hC)) (fun x c e z=>?_) (fun p hp z=>?_)
 ·obtain ⟨_,q⟩:=I2.cell x c e
  exact absurd (yj q.lt (by rw [z];exact hC)) (Nat.lt_irrefl _)
 ·exact absurd (yj (Heap.lt_size (I2.pin p hp).1) (by rw [z];exact hC)) (Nat.lt_irrefl _)
end
def Its (x:Str):It:=⟨fun i _=>i < x.cps.size,fun i H v H'=>H'=H∧∃ c,x.cps[i]?=some c∧v=.str ⟨#[c]⟩,fun i _=>i=x.cps.size⟩
theorem qcI {P:Program} {w:World} {K:yg} {tg:Expr} {it:Addr} {x:Str} {t:Tok} {T:String} (W:∀ A:Around,A.handled=none→Walks P w A it [it] [it] x.cps.size (SignAt x) fun i h=>h.IsStrIter it T x t i)
  (sf:∀ (A:Around) (i:Nat) (s:Shared) (Q:Value→Shared→Prop) (E:Value→Shared→Prop),s.heap.IsStrIter it T x t i→Q (.ref it) s→wpAny (model P w) A (pyIter (.ref it)) Q E s)
  (htg:∀ v,letOwnedTupleGo tg (.ref it) v=pure ()):Turn P w K tg (Its x) [it] it (fun i h=>h.IsStrIter it T x t i) where
 mem:=by simp
 obj:=fun i h st b hb=>by
  have e:b=it:=by simpa using hb
  subst e
  obtain ⟨o,e,c,d⟩:=st
  exact ⟨o,e,fun v z=>by rw [d] at z;cases z⟩
 keep:=fun i h h' st k=>by
  obtain ⟨o,e,r⟩:=st
  exact ⟨o,k it (by simp) o e,r⟩
 item:=by
  intro X hP hw hK hc i pins s σ H E I hf st hg
  subst hP hw hK
  obtain ⟨f0,f1,f2,f3,f4,f5⟩:=hf it (by simp)
  refine (W X.A (I.ok.hd hc)).item i s _ _ hg st fun v h' tk hv st' kk=>?_
  obtain ⟨c,u,hcx,rfl⟩:=hv
  have I1:Inv X pins σ H { s with heap:=h',toks:=tk }:=I.turned (fun b o hb e=>kk b o (by simpa using hb) e) f0 f1 f3 f4 f5
  refine ⟨_,rfl,wpAny_of_eq (htg _) ⟨.str ⟨#[c]⟩,H,I1,⟨u,rfl⟩,⟨rfl,c,hcx,rfl⟩,st',fun b hb=>(hf b hb).1⟩⟩
 done:=by
  intro X hP hw hK hc i pins s σ H E I hf st hg
  subst hP hw hK
  obtain ⟨f0,f1,f2,f3,f4,f5⟩:=hf it (by simp)
  have e:i=x.cps.size:=hg
  subst e
  exact (W X.A (I.ok.hd hc)).done s _ _ st fun h' tk kk=>⟨rfl,I.turned (fun b o hb e=>kk b o (by simpa using hb) e) f0 f1 f3 f4 f5⟩
 self:=sf
section
variable {X:Cx} {tg:Expr}
end
section
variable {K:yg} {a:Addr} {xs:List V} {g:TG} {tc:TT} {te:TE} {σ':St} {H1:Hp} {Q:V→Hp→Prop}
def qdm (J:It) (g:TG) (tc:TT) (te:TE) (σ':St) (H1:Hp) (Q:V→Hp→Prop):Prop:=
 ∃ W:Nat→Nat→List V→Hp→Prop,(∃ m,W 0 m [] H1)∧∀ i m ys H,W i m ys H →
   (J.stop i H∧ys.length≤sizeLine∧∀ p,H p=none→Q (.ref p) (upd H p (.lst ys))) ∨
   (J.go i H∧∃ M:List V→Hp→Prop,(∀ ys' H',M ys' H'→∃ m',m' < m∧W (i + 1) m' ys' H')∧∀ x H',J.yld i H x H'→g x σ' H' fun σ2 H2=>tc σ2 H2 fun b H3 =>
    if b=true then te σ2 H3 fun v H4=>ys.length < sizeLine∧M (ys++[v]) H4 else M ys H3)
theorem qJ (Pv:Nat→List V→Hp→Prop) (h0:Pv 0 [] H1) (hl:∀ i ys H,i≤xs.length→Pv i ys H→SqL K H a xs)
  (hs:∀ i x ys H,xs[i]?=some x→Pv i ys H→g x σ' H fun σ2 H2=>tc σ2 H2 fun b H3=>if b=true then te σ2 H3 fun v H4=>ys.length < sizeLine∧Pv (i + 1) (ys++[v]) H4 else Pv (i + 1) ys H3)
  (hd:∀ ys H,Pv xs.length ys H→ys.length≤sizeLine∧∀ p,H p=none→Q (.ref p) (upd H p (.lst ys))):qdm (Itl K a) g tc te σ' H1 Q:=by
 refine ⟨fun i m ys H=>m=xs.length - i∧i≤xs.length∧Pv i ys H,⟨xs.length,by simp,Nat.zero_le _,h0⟩,?_⟩
 rintro i m ys H ⟨rfl,hi,p⟩
 have q:=hl i ys H hi p
 by_cases hlt:i < xs.length
 ·refine .inr ⟨⟨xs,xs[i],q,by simp [hlt]⟩,Pv (i + 1),fun ys' H' p'=>⟨xs.length - (i + 1),by omega,rfl,hlt,p'⟩,fun x H' y=>?_⟩
  obtain ⟨e,y⟩:=y
  subst e
  exact hs i x ys _ (y xs q) p
 ·have e:i=xs.length:=by omega
  subst e
  exact .inl ⟨⟨xs,q,yh _⟩,hd ys H p⟩
theorem qaG {lo:Int} {n:Nat} (Pv:Nat→List V→Hp→Prop) (h0:Pv 0 [] H1)
  (hs:∀ i ys H,i < n→Pv i ys H→g (.int (lo + i)) σ' H fun σ2 H2=>tc σ2 H2 fun b H3=>if b=true then te σ2 H3 fun v H4=>ys.length < sizeLine∧Pv (i + 1) (ys++[v]) H4 else Pv (i + 1) ys H3)
  (hd:∀ ys H,Pv n ys H→ys.length≤sizeLine∧∀ p,H p=none→Q (.ref p) (upd H p (.lst ys))):qdm (Itr lo n) g tc te σ' H1 Q:=by
 refine ⟨fun i m ys H=>m=n - i∧i≤n∧Pv i ys H,⟨n,by simp,Nat.zero_le _,h0⟩,?_⟩
 rintro i m ys H ⟨rfl,hi,p⟩
 by_cases hlt:i < n
 ·refine .inr ⟨hlt,Pv (i + 1),fun ys' H' p'=>⟨n - (i + 1),by omega,rfl,hlt,p'⟩,fun x H' y=>?_⟩
  obtain ⟨e,y⟩:=y
  subst e y
  exact hs i ys _ hlt p
 ·have e:i=n:=by omega
  subst e
  exact .inl ⟨yh _,hd ys H p⟩
theorem comp_str {x:Str} (Pv:Nat→List V→Hp→Prop) (h0:Pv 0 [] H1)
  (hs:∀ i c ys H,x.cps[i]?=some c→Pv i ys H→g (.str ⟨#[c]⟩) σ' H fun σ2 H2=>tc σ2 H2 fun b H3=>if b=true then te σ2 H3 fun v H4=>ys.length < sizeLine∧Pv (i + 1) (ys++[v]) H4 else Pv (i + 1) ys H3)
  (hd:∀ ys H,Pv x.cps.size ys H→ys.length≤sizeLine∧∀ p,H p=none→Q (.ref p) (upd H p (.lst ys))):qdm (Its x) g tc te σ' H1 Q:=by
 refine ⟨fun i m ys H=>m=x.cps.size - i∧i≤x.cps.size∧Pv i ys H,⟨x.cps.size,by simp,Nat.zero_le _,h0⟩,?_⟩
 rintro i m ys H ⟨rfl,hi,p⟩
 by_cases hlt:i < x.cps.size
 ·refine .inr ⟨hlt,Pv (i + 1),fun ys' H' p'=>⟨x.cps.size - (i + 1),by omega,rfl,hlt,p'⟩,fun v H' y=>?_⟩
  obtain ⟨e,c,hc,y⟩:=y
  subst e y
  exact hs i c ys _ hc p
 ·have e:i=x.cps.size:=by omega
  subst e
  exact .inl ⟨rfl,hd ys H p⟩
end
def qb0:V→Option Value
 | .ty n=>some (.type n)
 | .ref a=>some (.ref a)
 | _=>none
theorem qbj {y:V} {c u:Value} (h:qb0 y=some c) (r:RelV y u):u=c:=by
 cases y with
 | ty n=>cases h;exact r
 | ref a=>cases h;exact r
 | _=>cases h
section
variable {X:Cx} {pins:List (Addr×Obj)} {σ:St} {H:Hp} {s:Shared}
theorem TyOf.kit {x:V} {u t:Value} (I:Inv X pins σ H s) (rx:RelV x u) (ty:TyOf X.K H x t):∃ P:Heap→Prop,PySem.W.KitX X.K u t P∧P s.heap∧u≠.builtin "__main__.__loader__#opaque":=by
 cases ty with
 | non=>cases (show u=Value.none from rx);exact ⟨_,PySem.W.kitx_none,True.intro,(fun z=>nomatch z)⟩
 | bl y=>cases (show u=Value.bool y from rx);exact ⟨_,PySem.W.kitx_bool,True.intro,(fun z=>nomatch z)⟩
 | int i=>obtain ⟨t,q⟩:=(show ∃ t,u=Value.int i t from rx);cases q;exact ⟨_,PySem.W.kitx_int,True.intro,(fun z=>nomatch z)⟩
 | str y=>obtain ⟨t,q⟩:=(show ∃ t,u=Value.str y t from rx);cases q;exact ⟨_,PySem.W.kitx_str,True.intro,(fun z=>nomatch z)⟩
 | flt y=>obtain ⟨t,q⟩:=(show ∃ t,u=Value.float y t from rx);cases q;exact ⟨_,PySem.W.kitx_float,True.intro,(fun z=>nomatch z)⟩
 | @lst a xs ea =>
  cases (show u=Value.ref a from rx)
  obtain ⟨_,_,n,_,h1⟩:=(show ObjOk X.prog X.w H s.heap a (.lst xs) from I.hok a _ ea)
  exact ⟨_,PySem.W.kitx_list,⟨_,h1,rfl⟩,(fun z=>nomatch z)⟩
 | @frz a ob xs ea =>
  cases (show u=Value.ref a from rx)
  obtain ⟨_,_,_,n,_,h1⟩:=(show ObjOk X.prog X.w H s.heap a (.frz ob (.lst xs)) from I.hok a _ ea)
  exact ⟨_,PySem.W.kitx_list,⟨_,h1,rfl⟩,(fun z=>nomatch z)⟩
 | @tup a xs ea =>
  cases (show u=Value.ref a from rx)
  obtain ⟨_,_,_,p⟩:=(show ObjOk X.prog X.w H s.heap a (.tup xs) from I.hok a _ ea)
  obtain ⟨o,h1,h2,_⟩:=p
  exact ⟨_,PySem.W.kitx_tuple,⟨o,h1,h2⟩,(fun z=>nomatch z)⟩
 | @dK a kvs ea =>
  cases (show u=Value.ref a from rx)
  obtain ⟨_,_,vs,_,p⟩:=(show ObjOk X.prog X.w H s.heap a (.dK kvs) from I.hok a _ ea)
  obtain ⟨o,es,ep,h1,h2,_⟩:=p
  exact ⟨_,PySem.W.kitx_dict,⟨o,h1,h2.1⟩,(fun z=>nomatch z)⟩
 | @dT a kvs ea =>
  cases (show u=Value.ref a from rx)
  obtain ⟨_,_,xs,_,o,es,ep,h1,h2,_⟩:=(show ObjOk X.prog X.w H s.heap a (.dT kvs) from I.hok a _ ea)
  exact ⟨_,PySem.W.kitx_dict,⟨o,h1,h2.1⟩,(fun z=>nomatch z)⟩
 | @ins a C dx fs ea cl ha hn htk hm =>
  cases (show u=Value.ref a from rx)
  obtain ⟨mA,O,_⟩:=qaE I.hok ea
  obtain ⟨od,J,_⟩:=O.look
  exact ⟨_,PySem.W.kitx_own (cl.get _) cl.hd ha hn htk hm,J,(fun z=>nomatch z)⟩
end
section
variable {X:Cx}
theorem qa0:∀ {ys:List V} {cs us:List Value},ys.map qb0=cs.map some→Vals ys us→us=cs
 | [],[],_,_,.nil=>rfl
 | [],_::_,_,h,_=>by cases h
 | y::ys,[],_,h,_=>by cases h
 | y::ys,c::cs,_,h,.cons r t=>by
  rw [List.map_cons,List.map_cons] at h
  injection h with h1 h2
  rw [qbj h1 r,qa0 h2 t]
theorem qcJ:∀ {bs:List Bool} {us:List Value},Vals (bs.map V.bl) us→us=bs.map Value.bool
 | [],_,.nil=>rfl
 | b::bs,_,.cons r t=>by
  have e:=qcJ t
  rw [e]
  cases r
  rfl
def qfE (K:yg):List V→Hp→VK→Prop:=fun xs H Q=>∃ (p:Addr) (bs:List Bool),xs=[.ref p]∧SqL K H p (bs.map V.bl)∧Q (.bl (bs.all id)) H
theorem call_all (hc:X.calm=true):qaf X (.builtin "all") (qfE X.K):=by
 intro pins s σ H xs us Q I r h
 obtain ⟨p,bs,rfl,hp,q⟩:=h
 obtain ⟨u,rfl,ru⟩:=qbr r
 cases ru
 obtain ⟨its,rv,pl,hz⟩:=I.list hp
 have e:=qcJ rv
 subst e
 have hh:X.A.in1.handled=none:=I.ok.hd hc
 refine call_all_walk (wpAny_pyIter_list pl.isList ?_)
 have hne:p≠s.heap.objs.size:=by
  obtain ⟨o,ho,_⟩:=pl.isList
  exact Nat.ne_of_lt (Heap.lt_size ho)
 refine ⟨s.heap.objs.size,_,_,_,_,_,fun i=>(bs[i]?).getD false,rfl,Walks.list hh s.heap.objs.size p hne (bs.map Value.bool).toArray,⟨⟨_,Heap.get?_push_size _ rfl,rfl,rfl⟩,pl.isList.at fun o e=>Heap.get?_push_of_some _ e⟩,fun i v s Q E hv hq=>?_,fun h' tk hk=>?_⟩
 ·have hv':(bs.map Value.bool)[i]?=some v:=by simpa using hv
  rw [yd] at hv'
  cases e:bs[i]? with
  | none=>rw [e] at hv';cases hv'
  | some b =>
   rw [e] at hv'
   cases hv'
   have hq':Q ((bs[i]?).getD false) s:=hq
   rw [e] at hq'
   exact wpAny_pure hq'
 ·have e:((List.range (bs.map Value.bool).toArray.size).all fun i=>(bs[i]?).getD false)=bs.all id:=by
   rw [List.size_toArray,ya]
   have key:∀ bs:List Bool,((List.range bs.length).all fun i=>(bs[i]?).getD false)=bs.all id:=by
    intro bs
    induction bs with
    | nil=>rfl
    | cons b r ih =>
     rw [List.length_cons,List.range_succ_eq_map,List.all_cons,List.all_map,List.all_cons,← ih]
     rfl
   exact key bs
  rw [e]
  refine ⟨.bl _,H,?_,rfl,q⟩
  have I1:Inv X pins σ H { s with heap:=s.heap.push { cls:=.type "list_iterator",data:=.fields #[.ref p,.int 0 0] } }:=I.kept (t':=s.toks) fun b o e=>Heap.get?_push_of_some _ e
  have nf:=I.fpOk (b:=s.heap.objs.size) (yh _) (I.hok.fresh (yh _))
  exact I1.turned (it:=s.heap.objs.size) (h':=h') (t':=tk) (fun b o hb e=>hk b o (by simpa using hb) e) nf.1 nf.2.1 nf.2.2.2.1 nf.2.2.2.2.1 nf.2.2.2.2.2
theorem op_le_str:OpR X (compareOp .LtE) (fun x y H Q=>∃ i j,x=.str i∧y=.str j∧Q (.bl (!decide (j.cps.toList < i.cps.toList))) H):=by
 intro pins s σ H x y v u Q I rx ry h
 obtain ⟨i,j,rfl,rfl,q⟩:=h
 obtain ⟨t,rfl⟩:=rx
 obtain ⟨t',rfl⟩:=ry
 exact PySem.P.le_str (qcB I q (by rfl))
def qfe:R2:=fun x y H Q=>match x,y with
 | .int i,.int j=>Q (.bl (decide (i≤j))) H
 | .str i,.str j=>Q (.bl (!decide (j.cps.toList < i.cps.toList))) H
 | _,_=>False
theorem qe4:OpR X (compareOp .LtE) qfe:=by
 intro pins s σ H x y v u Q I rx ry h
 cases x with
 | int i=>cases y with
  | int j=>exact op_le pins s σ H _ _ v u Q I rx ry ⟨i,j,rfl,rfl,h⟩
  | _=>exact False.elim h
 | str i=>cases y with
  | str j=>exact op_le_str pins s σ H _ _ v u Q I rx ry ⟨i,j,rfl,rfl,h⟩
  | _=>exact False.elim h
 | _=>exact False.elim h
theorem op_is_bl:OpR X (compareOp .Is) (fun x y H Q=>∃ i j,x=.bl i∧y=.bl j∧Q (.bl (i==j)) H):=by
 intro pins s σ H x y v u Q I rx ry h
 obtain ⟨i,j,rfl,rfl,q⟩:=h
 cases rx
 cases ry
 exact wpAny_is_plain (by cases i<;>cases j<;>rfl) (qcB I q (by cases i<;>cases j<;>rfl))
def qff:R2:=fun x y H Q=>match x,y with
 | .bl i,.bl j=>Q (.bl (i==j)) H
 | x,.non=>Q (.bl (decide (x=.non))) H
 | _,_=>False
theorem qe5:OpR X (compareOp .Is) qff:=by
 intro pins s σ H x y v u Q I rx ry h
 cases y with
 | non=>exact op_isN pins s σ H x _ v u Q I rx ry ⟨rfl,by cases x<;>exact h⟩
 | bl j=>cases x with
  | bl i=>exact op_is_bl pins s σ H _ _ v u Q I rx ry ⟨i,j,rfl,rfl,h⟩
  | _=>exact False.elim h
 | _=>cases x<;>exact False.elim h
theorem op_rep_str:OpR X (binaryOp .Mult) (fun x y H Q=>∃ z k,x=.str z∧y=.int k∧MulOk z k∧Q (.str (Txt.mul z k)) H):=by
 intro pins s σ H x y v u Q I rx ry h
 obtain ⟨z,k,rfl,rfl,hm,q⟩:=h
 obtain ⟨t,rfl⟩:=rx
 obtain ⟨t',rfl⟩:=ry
 exact SB.mul hm fun t' k'=>⟨.str _,H,I.tok _,⟨_,rfl⟩,q⟩
def qeL:R2:=fun x y H Q=>match x,y with
 | .int i,.int j=>CMul i j∧Q (.int (i * j)) H
 | .str z,.int k=>MulOk z k∧Q (.str (Txt.mul z k)) H
 | .ref a,.int k=>qfC (.ref a) (.int k) H Q
 | _,_=>False
theorem qbs:OpR X (binaryOp .Mult) qeL:=by
 intro pins s σ H x y v u Q I rx ry h
 cases y with
 | int j=>cases x with
  | int i=>exact op_mul pins s σ H _ _ v u Q I rx ry ⟨i,j,rfl,rfl,h.1,h.2⟩
  | str i=>exact op_rep_str pins s σ H _ _ v u Q I rx ry ⟨i,j,rfl,rfl,h.1,h.2⟩
  | ref a=>exact qdZ pins s σ H _ _ v u Q I rx ry h
  | _=>exact False.elim h
 | _=>cases x<;>exact False.elim h
def qc3 (K:yg):R2:=fun x y H Q=>match x,y with
 | .int i,.int j=>Q (.int (i + j)) H
 | .str i,.str j=>i.length + j.length≤sizeLine∧Q (.str (i++j)) H
 | .ref a,.ref b=>qfB (.ref a) (.ref b) H Q∨qeJ K (.ref a) (.ref b) H Q
 | _,_=>False
theorem u_add:OpR X (binaryOp .Add) (qc3 X.K):=by
 intro pins s σ H x y v u Q I rx ry h
 cases x with
 | int i=>cases y with
  | int j=>exact op_add pins s σ H _ _ v u Q I rx ry ⟨i,j,rfl,rfl,h⟩
  | _=>exact False.elim h
 | str i=>cases y with
  | str j=>exact op_add_str pins s σ H _ _ v u Q I rx ry ⟨i,j,rfl,rfl,h.1,h.2⟩
  | _=>exact False.elim h
 | ref a=>cases y with
  | ref b=>exact h.elim (fun h=>op_cat pins s σ H _ _ v u Q I rx ry h) fun h=>op_catT pins s σ H _ _ v u Q I rx ry h
  | _=>exact False.elim h
 | _=>exact False.elim h
def qc4 (K:yg):List V→Hp→VK→Prop:=fun xs H Q=>match xs with
 | [.str z]=>z.length≤sizeLine∧Q (.int z.length) H
 | [.ref p]=>(∃ ys,(SqL K H p ys∨SqT K H p ys)∧Q (.int ys.length) H)∨∃ kvs,H p=some (.dK kvs)∧Q (.int kvs.length) H
 | _=>False
theorem call_lenU:qaf X (.builtin "len") (qc4 X.K):=by
 intro pins s σ H xs us Q I r h
 match xs,h with
 | [.str z],h=>exact call_len_str pins s σ H _ us Q I r ⟨z,rfl,h.1,h.2⟩
 | [.ref p],.inl ⟨ys,h,q⟩=>exact call_len_seq pins s σ H _ us Q I r ⟨p,ys,rfl,h,q⟩
 | [.ref p],.inr ⟨kvs,h,q⟩=>exact call_lenD pins s σ H _ us Q I r ⟨p,kvs,rfl,h,q⟩
theorem sl_str:SlR X (fun x lo hi H Q=>∃ z,x=.str z∧z.length≤sizeLine∧Q (.str (Txt.slice z lo hi)) H):=by
 intro pins s σ H x v vl vu lo hi sl Q I rx hs pl pu h
 obtain ⟨z,rfl,hz,q⟩:=h
 obtain ⟨t,rfl⟩:=rx
 refine ⟨"str",_,F.slot_str_getitem.lookup,typeIs_str _ _ _,?_⟩
 cases pl with
 | none =>
  cases pu with
  | none=>exact wpAny_getItem_str_slice (l:=none) (u:=none) (st:=none) hs rfl (post_val_or_str ⟨yi (Txt.slice_le z _ _) hz,fun t' k=>⟨.str _,H,I.tok _,⟨_,rfl⟩,q⟩⟩)
  | int j uj=>exact wpAny_getItem_str_slice (l:=none) (u:=some (j,uj)) (st:=none) hs rfl (post_val_or_str ⟨yi (Txt.slice_le z _ _) hz,fun t' k=>⟨.str _,H,I.tok _,⟨_,rfl⟩,q⟩⟩)
 | int i ui =>
  cases pu with
  | none=>exact wpAny_getItem_str_slice (l:=some (i,ui)) (u:=none) (st:=none) hs rfl (post_val_or_str ⟨yi (Txt.slice_le z _ _) hz,fun t' k=>⟨.str _,H,I.tok _,⟨_,rfl⟩,q⟩⟩)
  | int j uj=>exact wpAny_getItem_str_slice (l:=some (i,ui)) (u:=some (j,uj)) (st:=none) hs rfl (post_val_or_str ⟨yi (Txt.slice_le z _ _) hz,fun t' k=>⟨.str _,H,I.tok _,⟨_,rfl⟩,q⟩⟩)
def qfg (K:yg):V→Option Int→Option Int→Hp→VK→Prop:=fun x lo hi H Q=>match x with
 | .str z=>z.length≤sizeLine∧Q (.str (Txt.slice z lo hi)) H
 | .ref a=>qfA K (.ref a) lo hi H Q∨qfw K (.ref a) lo hi H Q
 | _=>False
theorem u_sl:SlR X (qfg X.K):=by
 intro pins s σ H x v vl vu lo hi sl Q I rx hs pl pu h
 cases x with
 | str z=>exact sl_str pins s σ H _ v vl vu lo hi sl Q I rx hs pl pu ⟨z,rfl,h.1,h.2⟩
 | ref a=>exact h.elim (fun h=>sl_list pins s σ H _ v vl vu lo hi sl Q I rx hs pl pu h) fun h=>sl_tup pins s σ H _ v vl vu lo hi sl Q I rx hs pl pu h
 | _=>exact False.elim h
theorem qdn:∀ {ys:List Str} {us:List Value},Vals (ys.map V.str) us→StrsAre us ys
 | [],_,.nil=>.nil
 | y::ys,_,.cons r t=>by
  obtain ⟨tk,rfl⟩:=r
  exact .cons y tk (qdn t)
def qeM (K:yg):V→List V→Hp→VK→Prop:=fun x vs H Q=>∃ (z:Str) (p:Addr) (ys:List Str),x=.str z∧vs=[.ref p]∧SqL K H p (ys.map V.str)∧(ys.map (·.length)).sum + ys.length * z.length≤16777216∧Q (.str (Txt.join z ys)) H
theorem mt_join:MtR X "str.join" (qeM X.K):=by
 intro pins s σ H x vs v us Q I rx rv h
 obtain ⟨z,p,ys,rfl,rfl,hp,hz,q⟩:=h
 obtain ⟨t,rfl⟩:=rx
 obtain ⟨u,rfl,ru⟩:=rv.one
 cases ru
 obtain ⟨its,r,pl,_⟩:=I.list hp
 exact join_list pl.isList (by simpa using qdn r) hz fun t' k=>⟨.str _,H,I.tok _,⟨_,rfl⟩,q⟩
def qfh (K:yg) (te:TE):TI:=fun σ H R=>te σ H fun v H1=>match v with
 | .str x=>R (Its x) H1
 | .ref a=>((∃ xs,SqL K H1 a xs)∧R (Itl K a) H1)∨((∃ xs,SqT K H1 a xs)∧R (Itt K a) H1)
 | _=>False
theorem pi_any {tg e:Expr} {te:TE} (he:PE X e te) (htg:∀ it v,letOwnedTupleGo tg it v=pure ():=by intro _ _;rfl):PI X tg e (qfh X.K te):=by
 intro pins s σ H R I h
 refine thn (he pins s σ H _ I h) fun v s1 ⟨y,H1,I1,r1,q1⟩=>?_
 cases y with
 | str x =>
  obtain ⟨t,rfl⟩:=r1
  have fp:∀ b∈[s1.heap.objs.size],qci X pins H1 b:=fun b hb=>by
   have e:b=s1.heap.objs.size:=by simpa using hb
   subst e
   exact I1.fpOk (yh _) (I1.hok.fresh (yh _))
  cases ha:x.cps.all (· < 128)
  ·exact wpAny_pyIter_wide ha ⟨s1.heap.objs.size,[s1.heap.objs.size],_,_,H1,rfl,I1.kept (t':=s1.toks) fun b o e=>Heap.get?_push_of_some _ e,
    qcI (T:="str_iterator") (fun A hA=>Walks.strWide hA _ x t) (fun A i s Q E st h=>wpAny_pyIter_striter_wide st h) (htg _),⟨_,Heap.get?_push_size _ rfl,rfl,rfl⟩,fp,q1⟩
  ·exact wpAny_pyIter_ascii ha ⟨s1.heap.objs.size,[s1.heap.objs.size],_,_,H1,rfl,I1.kept (t':=s1.toks) fun b o e=>Heap.get?_push_of_some _ e,
    qcI (T:="str_ascii_iterator") (fun A hA=>Walks.strAscii hA _ x t) (fun A i s Q E st h=>wpAny_pyIter_striter_ascii st h) (htg _),⟨_,Heap.get?_push_size _ rfl,rfl,rfl⟩,fp,q1⟩
 | ref a =>
  cases r1
  have fp:∀ b∈[s1.heap.objs.size],qci X pins H1 b:=fun b hb=>by
   have e:b=s1.heap.objs.size:=by simpa using hb
   subst e
   exact I1.fpOk (yh _) (I1.hok.fresh (yh _))
  rcases q1 with ⟨⟨xs,hq⟩,q⟩ | ⟨⟨xs,hq⟩,q⟩
  ·obtain ⟨its,rv,p,hz⟩:=I1.list hq
   exact wpAny_pyIter_list p.isList ⟨s1.heap.objs.size,[s1.heap.objs.size],_,_,H1,rfl,I1.kept (t':=s1.toks) fun b o e=>Heap.get?_push_of_some _ e,qbJ a _,⟨_,Heap.get?_push_size _ rfl,rfl,rfl⟩,fp,q⟩
  ·obtain ⟨its,rv,p,hz⟩:=I1.tuple hq
   exact wpAny_pyIter_tuple (show s1.heap.IsTuple a its.toArray from p) ⟨s1.heap.objs.size,[s1.heap.objs.size],_,_,H1,rfl,I1.kept (t':=s1.toks) fun b o e=>Heap.get?_push_of_some _ e,turn_tuple a _,⟨_,Heap.get?_push_size _ rfl,rfl,rfl⟩,fp,q⟩
 | _=>exact False.elim q1
end
section
variable {D:Ends} {σ:St} {H:Hp} {Q:VK} {QT:Bool→Hp→Prop} {QA:List V→Hp→Prop} {t u:TS} {te ta tb tc:TE} {c c':TT} {tr tas:TA} {r r':R2} {K:yg}
theorem vSeq (h:t { D with nx:=u D } σ H):qfa t u D σ H:=h
theorem vAsg {i:Nat} (h:te σ H fun x H1=>D.nx (σ.set i (some x)) H1):qew te (qbp i) D σ H:=h
theorem vAsgS {to ti:TE} {s:qeE} (h:te σ H fun x H1=>to σ H1 fun o H2=>ti σ H2 fun i H3=>s o i x H3 fun H4=>D.nx σ H4):qew te (qfr to ti s) D σ H:=h
theorem vIfS (h:c σ H fun b H1=>if b=true then t D σ H1 else u D σ H1):qfp c t u D σ H:=h
theorem vRet (h:te σ H D.rt):qfo te D σ H:=h
theorem vRetN (h:D.rt .non H):qeD D σ H:=h
theorem vDrop (h:te σ H fun _ H1=>D.nx σ H1):qeC te D σ H:=h
theorem vNext (h:D.nx σ H):qeB D σ H:=h
theorem vC {v:V} (h:Q v H):tC v σ H Q:=h
theorem vVar {i:Nat} {v:V} (e:σ[i]?=some (some v)) (h:Q v H):qe9 i σ H Q:=⟨v,e,h⟩
theorem vOp (h:ta σ H fun x H1=>tb σ H1 fun y H2=>r x y H2 Q):tOp r ta tb σ H Q:=h
theorem vUn {f:V→Hp→VK→Prop} (h:ta σ H fun x H1=>f x H1 Q):tUn f ta σ H Q:=h
theorem vChain (h:ta σ H fun x H1=>tb σ H1 fun y H2=>r x y H2 fun z H3=>∃ k,z=.bl k∧if k=true then tc σ H3 fun z2 H4=>r' y z2 H4 Q else Q (.bl false) H3):qda r r' ta tb tc σ H Q:=h
theorem vNil (h:QA [] H):qe2 σ H QA:=h
theorem vCons (h:ta σ H fun x H1=>tr σ H1 fun xs H2=>QA (x::xs) H2):qeH ta tr σ H QA:=h
theorem vCB {f:List V→Hp→VK→Prop} (h:tas σ H fun vs H1=>f vs H1 Q):tCB f tas σ H Q:=h
theorem vCall {sp:Sp} {E:XK} (h:tas σ H fun vs H1=>sp (vs++[]) H1 Q E):qel sp [] E tas σ H Q:=h
theorem vLst (h:tas σ H fun xs H1=>xs.length≤sizeLine∧∀ p,H1 p=none→Q (.ref p) (upd H1 p (.lst xs))):qfv tas σ H Q:=h
theorem vTup (h:tas σ H fun xs H1=>xs.length≤sizeLine∧∀ p,H1 p=none→Q (.ref p) (upd H1 p (.tup xs))):qfu tas σ H Q:=h
theorem vTest (h:te σ H fun x H'=>∃ k,x=.bl k∧QT k H'):qek te σ H QT:=h
theorem vB (h:te σ H fun x H'=>∃ k,x=.bl k∧QT k H'):tB te σ H QT:=h
theorem vNot (h:c σ H fun b H1=>QT (!b) H1):qfm c σ H QT:=h
theorem vAnd (h:c σ H fun b H1=>if b=true then c' σ H1 QT else QT false H1):qfl c c' σ H QT:=h
theorem vOr (h:c σ H fun b H1=>if b=true then QT true H1 else c' σ H1 QT):tOr c c' σ H QT:=h
theorem vAndV (h:ta σ H fun x H1=>∃ k,x=.bl k∧if k=true then tb σ H1 Q else Q (.bl false) H1):qeA ta tb σ H Q:=h
theorem vOrV (h:ta σ H fun x H1=>∃ k,x=.bl k∧if k=true then Q (.bl true) H1 else tb σ H1 Q):qfn ta tb σ H Q:=h
theorem vNotV (h:ta σ H fun x H1=>∃ k,x=.bl k∧Q (.bl (!k)) H1):tNotV ta σ H Q:=h
theorem vIf (h:c σ H fun b H1=>if b=true then ta σ H1 Q else tb σ H1 Q):tIf c ta tb σ H Q:=h
theorem vYes (h:QT true H):qfD σ H QT:=h
theorem vI0 {g:Int→Int→V} {i j:Int} (h:Q (g i j) H):rI0 g (.int i) (.int j) H Q:=⟨i,j,rfl,rfl,h⟩
theorem vI {C:Int→Int→Prop} {g:Int→Int→V} {i j:Int} (hc:C i j) (h:Q (g i j) H):rI C g (.int i) (.int j) H Q:=⟨i,j,rfl,rfl,hc,h⟩
theorem vU {g:Int→V} {i:Int} (h:Q (g i) H):rU g (.int i) H Q:=⟨i,rfl,h⟩
theorem vEqI {i j:Int} (h:Q (.bl (decide (i=j))) H):rEq (.int i) (.int j) H Q:=⟨rfl,by
 have e:decide (V.int i=V.int j)=decide (i=j):=by
  by_cases h:i=j
  ·subst h;simp
  ·rw [yl h,yl (fun e=>h (V.int.inj e))]
 rw [e];exact h⟩
theorem vEqB {i j:Bool} (h:Q (.bl (i==j)) H):rEq (.bl i) (.bl j) H Q:=⟨rfl,by rw [dec_bl];exact h⟩
theorem qah {p:Addr} {xs:List V} {i:Int} {v:V} (hp:H p=some (.lst xs)) (ha:atI xs i=some v) (h:Q v H):rIx K (.ref p) (.int i) H Q:=.inl ⟨p,xs,i,v,rfl,rfl,SqL.of hp,ha,h⟩
theorem vIxLs {p:Addr} {xs:List V} {i:Int} {v:V} (hp:SqL K H p xs) (ha:atI xs i=some v) (h:Q v H):rIx K (.ref p) (.int i) H Q:=.inl ⟨p,xs,i,v,rfl,rfl,hp,ha,h⟩
theorem qaK {p:Addr} {xs:List V} {i:Int} {v:V} (hp:H p=some (.tup xs)) (ha:atI xs i=some v) (h:Q v H):rIx K (.ref p) (.int i) H Q:=.inr (.inl ⟨p,xs,i,v,rfl,rfl,SqT.of hp,ha,h⟩)
theorem qfi {z:Str} {i:Int} {ch:Nat} (hz:z.length≤sizeLine) (ha:atI z.cps.toList i=some ch) (h:Q (.str ⟨#[ch]⟩) H):rIx K (.str z) (.int i) H Q:=.inr (.inr ⟨z,i,ch,rfl,rfl,hz,ha,h⟩)
theorem qdO {p:Addr} {xs:List V} {k:Int} {v:V} {j:Nat} {QH:Hp→Prop} (hp:H p=some (.lst xs)) (hj:ixN xs.length k=some j) (h:QH (upd H p (.lst (xs.set j v)))):qen (.ref p) (.int k) v H QH:=⟨p,xs,k,j,rfl,rfl,hp,hj,h⟩
theorem vEx {k:Bool} {P:Bool→Prop} (h:P k):∃ k',V.bl k=.bl k'∧P k':=⟨k,rfl,h⟩
theorem vLeI {i j:Int} (h:Q (.bl (decide (i≤j))) H):qfe (.int i) (.int j) H Q:=h
theorem vLeS {i j:Str} (h:Q (.bl (!decide (j.cps.toList < i.cps.toList))) H):qfe (.str i) (.str j) H Q:=h
theorem vIsB {i j:Bool} (h:Q (.bl (i==j)) H):qff (.bl i) (.bl j) H Q:=h
theorem vAddI {i j:Int} (h:Q (.int (i + j)) H):qc3 K (.int i) (.int j) H Q:=h
theorem qdP {i j:Str} (hz:i.length + j.length≤sizeLine) (h:Q (.str (i++j)) H):qc3 K (.str i) (.str j) H Q:=⟨hz,h⟩
theorem qbt {i j:Int} (hc:CMul i j) (h:Q (.int (i * j)) H):qeL (.int i) (.int j) H Q:=⟨hc,h⟩
theorem vLenS {z:Str} (hz:z.length≤sizeLine) (h:Q (.int z.length) H):qc4 K [.str z] H Q:=⟨hz,h⟩
theorem qai {p:Addr} {ys:List V} (hp:H p=some (.lst ys)) (h:Q (.int ys.length) H):qc4 K [.ref p] H Q:=.inl ⟨ys,.inl (SqL.of hp),h⟩
theorem qd1 {p:Addr} {ys:List V} (hp:SqL K H p ys) (h:Q (.int ys.length) H):qc4 K [.ref p] H Q:=.inl ⟨ys,.inl hp,h⟩
theorem vLenT {p:Addr} {ys:List V} (hp:H p=some (.tup ys)) (h:Q (.int ys.length) H):qc4 K [.ref p] H Q:=.inl ⟨ys,.inr (SqT.of hp),h⟩
theorem qfj {z:Str} {lo hi:Option Int} (hz:z.length≤sizeLine) (h:Q (.str (Txt.slice z lo hi)) H):qfg K (.str z) lo hi H Q:=⟨hz,h⟩
theorem vSl {f:V→Option Int→Option Int→Hp→VK→Prop} {tl th:TO} (h:te σ H fun x H1=>tl σ H1 fun l H2=>th σ H2 fun u H3=>f x l u H3 Q):tSl f te tl th σ H Q:=h
theorem vNoPart {QO:Option Int→Hp→Prop} (h:QO none H):qdf σ H QO:=h
theorem vPart {QO:Option Int→Hp→Prop} (h:te σ H fun x H1=>∃ i,x=.int i∧QO (some i) H1):qeI te σ H QO:=h
theorem vExI {i:Int} {P:Int→Prop} (h:P i):∃ j,V.int i=.int j∧P j:=⟨i,rfl,h⟩
theorem vBM {T:String} {f:V→List V→Hp→VK→Prop} (h:te σ H fun x H1=>tyV K T x H1∧tas σ H1 fun xs H2=>f x xs H2 Q):tBM K T f te tas σ H Q:=h
theorem vBM0 {T:String} {f:V→List V→Hp→VK→Prop} (h:te σ H fun x H1=>tyV K T x H1∧f x [] H1 Q):tBM0 K T f te σ H Q:=h
theorem vComp {wi:TI} {g:TG} {nl:Nat} {ixs:List Nat} (h:wi σ H fun J H1=>qdm J g c te (qc6 nl ixs σ) H1 Q):qdN wi g c te nl ixs σ H Q:=h
theorem vFor {wi:TI} {g:TG} (h:wi σ H fun J H1=>∃ W:Nat→Nat→St→Hp→Prop,(∃ m,W 0 m σ H1)∧∀ i m σ H,W i m σ H →
 (J.stop i H∧D.nx σ H)∨(J.go i H∧∃ N:St→Hp→Prop,(∀ σ' H',N σ' H'→∃ m',m' < m∧W (i + 1) m' σ' H')∧∀ x H',J.yld i H x H'→g x σ H' fun σ2 H2=>t { D with nx:=N,ct:=N,bk:=D.nx } σ2 H2)):qfs wi g t D σ H:=h
theorem vRng1 {R:It→Hp→Prop} (h:tas σ H fun vs H1=>∃ j:Int,vs=[.int j]∧-(2 ^ 62)≤j∧j < 2 ^ 62∧R (Itr 0 j.toNat) H1):qeF tas σ H R:=h
theorem vAny {R:It→Hp→Prop} (h:te σ H fun v H1=>match v with
 | .str x=>R (Its x) H1
 | .ref a=>((∃ xs,SqL K H1 a xs)∧R (Itl K a) H1)∨((∃ xs,SqT K H1 a xs)∧R (Itt K a) H1)
 | _=>False):qfh K te σ H R:=h
theorem vGN {i:Nat} {v:V} {QS:St→Hp→Prop} (h:QS (σ.set i (some v)) H):qbp i v σ H QS:=h
theorem qdo {α:Type} {xs:List α} {i:Int} (h0:0≤i) (h1:i < xs.length):∃ v,atI xs i=some v∧xs[i.toNat]?=some v:=by
 obtain ⟨n,rfl⟩:=Int.eq_ofNat_of_zero_le h0
 have hn:n < xs.length:=by omega
 exact ⟨xs[n],qz (by simp [hn]),by simp [hn]⟩
end
section
variable {X:Cx} {K:yg} {o e:Expr} {es:List Expr} {to ta:TE} {t:TA} {name f:Str} {apos cpos pos:Pos} {T id:String} {r:V→List V→Hp→VK→Prop} {tg:Expr}
theorem zw (hK:X.K=K):qaf X (.builtin "len") (qc4 K):=by subst hK;exact call_lenU
theorem qeo (hK:X.K=K) (hc:X.calm=true):qaf X (.builtin "all") (qfE K):=by subst hK;exact call_all hc
theorem qdp (hK:X.K=K):SlR X (qfg K):=by subst hK;exact u_sl
theorem zC (hK:X.K=K):OpR X (binaryOp .Add) (qc3 K):=by subst hK;exact u_add
theorem k_join (hK:X.K=K):MtR X "str.join" (qeM K):=by subst hK;exact mt_join
theorem qT (hK:X.K=K) (he:PE X e ta) (htg:∀ it v,letOwnedTupleGo tg it v=pure ():=by intro _ _;rfl):PI X tg e (qfh K ta):=by subst hK;exact pi_any he htg
theorem qbu (hK:X.K=K) (pa:PlainAttrs T) (slot:Slot T name id) (hty:typeOf (.builtin id)=pure (.type "method_descriptor")) (hm:MtR X id r) (ho:PE X o to) (ha:PA X (e::es) t)
  (hbase:attributeBase o name X.env (eval o X.env)=eval o X.env:=by rfl)
  (hfew:((backTo cpos (starEach (e::es) X.env)).all (fun x=>!x.1)&&(backToKw cpos (keywordEach [] X.env)).all (fun x=>x.1.isSome)
   && decide ((e::es).length + ([]:List Keyword).length + (if ([]:List Keyword).isEmpty then 0 else 1) < 30))=true:=by rfl)
  (hline:(apos.endLine==cpos.line)=true:=by rfl) (hs:starEach (e::es) X.env=(false,eval e X.env)::starEach es X.env:=by rfl) (hplain:(backTo cpos (starEach es X.env)).any (·.1)=false:=by rfl) :
  PE X (.Call (.Attribute o name apos) (e::es) [] cpos) (tBM K T r to t):=by
 subst hK
 exact pe_bm pa slot hty hm ho ha hbase hfew hline hs hplain
end
structure DefOk (P:Program) (w:World) (K:yg) (mg:Str→Option Value) (base:Heap) (CX:CXT) (k:Nat) (x:Str) (ps:List Str) (sp:Sp):Prop where
 ex:∃ f fd,FnOk P w K mg base CX k f fd ps sp∧mg x=some (.ref f)∧PySem.W.keepIn K (.ref f)=true∧Binds K fd ps []
section
variable {X:Cx} {CX:CXT} {k:Nat} {ps:List Str} {sp:Sp} {E:XK} {x:Str} {p pos:Pos} {e:Expr} {es:List Expr} {t:TA}
theorem qp (D:DefOk X.prog X.w X.K X.mg X.base CX k x ps sp) (hr:Room k X.A) (hx:qaJ CX X E) (ha:PA X (e::es) t) (hg:Gl X x:=by rfl) (hdb:(x==("__debug__":Str))=false:=by decide)
  (he:starEach (e::es) X.env=(false,eval e X.env)::starEach es X.env:=by rfl) (hpl:(backTo pos (starEach es X.env)).any (·.1)=false:=by rfl):PE X (.Call (.Name x p) (e::es) [] pos) (qel sp [] E t):=by
 obtain ⟨f,fd,F,hm,hk,hb⟩:=D.ex
 exact pe_call F hr hg hm hk hb .nil hx ha hdb he hpl
theorem qbv {i:Int} (hg:Gl X x) (hm:∃ tk,X.mg x=some (.int i tk)) (hd:(x==("__debug__":Str))=false:=by decide):PE X (.Name x pos) (tC (.int i)):=by
 obtain ⟨tk,hm⟩:=hm
 exact pe_glob hg hm ⟨tk,rfl⟩ hd
end
def isaT (t c:String):Bool:=t==c||(t=="bool"&&c=="int")
theorem qbw (K:yg):∀ t∈["NoneType", "bool", "int", "str", "list", "tuple", "dict"],∀ c∈["bool", "int", "str", "list", "tuple", "dict"],PySem.W.kitOne K (.type t) (.type c)=some (isaT t c):=by
 intro t ht c hc
 simp only [List.mem_cons,List.not_mem_nil,or_false] at ht hc
 rcases ht with rfl | rfl | rfl | rfl | rfl | rfl | rfl<;>rcases hc with rfl | rfl | rfl | rfl | rfl | rfl<;>rfl
def qd2:List Value→Bool
 | [.type a,.type b,.type c,.type d]=>a=="ValueError"&&b=="Exception"&&c=="BaseException"&&d=="object"
 | .ref _::r=>qd2 r
 | _=>false
def xcIn (K:yg) (C:Addr):Bool:=match K.lookup C with
 | some ⟨.type "type",_,.cls cd,sl⟩=>(match cd.mro,sl.toList with
  | .ref D::bm,[_,_,_,_,some (.builtin n),_]=>D==C&&!cd.hasDel&&qd2 bm&&n=="ValueError.__new__"
  | _,_=>false)
 | _=>false
structure XAt (K:yg) (C:Addr):Prop where
 ga:PySem.W.findIn K (.ref C) "__getattribute__"=some (some (.builtin "BaseException.__getattribute__"))
 gn:PySem.W.findIn K (.ref C) "__getattr__"=some none
 bx:PySem.W.mroIn K C (.type "BaseException")=some true
 ob:PySem.W.mroIn K C (.type "object")=some true
 hd:PySem.W.hasDictIn K C=true
 cl:PySem.W.findIn K (.ref C) "__class__"=some (some (.builtin "object.__class__"))
 cg:PySem.W.specialIn K (.builtin "object.__class__") "__get__"=some (some (.builtin "getset_descriptor.__get__"))
 ct:PySem.W.takesIn K (.builtin "object.__class__")=some true
 sa:PySem.W.findIn K (.ref C) "__setattr__"=some (some (.builtin "object.__setattr__"))
 mr:(PySem.W.clsIn K C).any (fun cd=>qd2 cd.mro)=true
 xc:xcIn K C=true
theorem bexc_ga_slot:Slot "ValueError" "__getattribute__" "BaseException.__getattribute__":=PySem.F.attr_ValueError.ga
section
variable {prog:Program} {w:World} {A:Around} {E:Value→Shared→Prop} {s:Shared} {K:yg} {x C:Addr} {ox:Obj} {od:Option Obj} {name:Str} {v:Value}
theorem xga_value {tk:Tok} {Q:Fin→Shared→Prop} (X:K.In s.heap) (I:PySem.W.InstAt s.heap x ox C od) (hf:PySem.W.findObj K C od name=some (.value v)) (h:Q (.done (.ret v)) s) :
  wpAny (model prog w) A (Builtin.«object.__getattribute__» ⟨[.ref x,.str name tk],[]⟩) Q E s:=by
 have F:=PySem.W.looks_find (M:=model prog w) X I hf
 refine wpAny_bind (wpAny_pure (wpAny_bind (wpAny_pure (wpAny_bind (I.type.here (wpAny_bind (F.here ?_)))))))
 exact wpAny_pure h
theorem xga_call {tk:Tok} {R:Result→Shared→Prop} (X:K.In s.heap) (I:PySem.W.InstAt s.heap x ox C od) (hb:PySem.W.mroIn K C (.type "BaseException")=some true)
  (h:wpAny (model prog w) A.in1 (Builtin.«object.__getattribute__» ⟨[.ref x,.str name tk],[]⟩) (fun fin s'=>match fin with | .done f=>R (.ok f) s' | .again c'=>c'.quiet=true∧codeAny (model prog w) A c' R s') (fun e s'=>R (.error e) s') s) :
  codeAny (model prog w) A (.call (.builtin "BaseException.__getattribute__") ⟨[.ref x,.str name tk],[]⟩) R s:=by
 refine codeAny_call_builtin bexc_ga_slot.plain PySem.F.entry_bexc_ga ?_
 exact @PySem.W.check_slot (model prog w) _ _ s "BaseException.__getattribute__" "BaseException" "__getattribute__" (.ref x) [.str name tk] [] _ (by decide +kernel) (by decide +kernel) (I.type.andThen (PySem.W.looks_mroIn X hb)) (PySem.F.args_bexc_ga _ _) h
theorem qdq {fill expr:Bool} {tk:Tok} {Q:Value→Shared→Prop} (X:K.In s.heap) (I:PySem.W.InstAt s.heap x ox C od) (c:XAt K C)
  (h:wpAny (model prog w) A.in1 (Builtin.«object.__getattribute__» ⟨[.ref x,.str name tk],[]⟩) (fun fin s'=>match fin with | .done (.ret v)=>wpAny (model prog w) A (handedOut v) Q E s' | _=>False) (fun _ _=>False) s) :
  wpAny (model prog w) A (getAttrBy (.ref x) (.str name tk) fill expr) Q E s:=by
 unfold getAttrBy
 refine wpAny_holding (wpAny_bind (I.type.here (wpAny_bind ((PySem.W.looks_findIn X c.ga).here ?_))))
 have e1:(onTheHeap (Value.ref C)&&Value.builtin "BaseException.__getattribute__"==Value.builtin "object.__getattribute__")=false:=by
  rw [show (Value.builtin "BaseException.__getattribute__"==Value.builtin "object.__getattribute__")=false by decide +kernel]
  rfl
 dsimp only
 rw [e1,if_neg (by decide)]
 unfold getAttrByItsOwn hookBefore
 rw [if_pos (show onTheHeap (Value.ref C)=true from rfl)]
 refine wpAny_bind ((PySem.W.looks_findIn X c.gn).here (wpAny_bind (wpAny_attempt (wpAny_holding ?_))))
 have e2:(expr&&onTheHeap (Value.builtin "BaseException.__getattribute__"))=false:=by cases expr<;>rfl
 unfold callGetattribute
 rw [e2,if_neg (by decide)]
 unfold boundAndCalled
 rw [bexc_ga_slot.bind]
 refine wpAny_bind (wpAny_pure ?_)
 show wpAny _ _ (call (.builtin "BaseException.__getattribute__") [.ref x,.str name tk]) _ _ _
 refine wpAny_call (xga_call X I c.bx (wpAny_mono h (fun fin s' z=>?_) fun _ _ z=>z.elim))
 rcases fin with (_ | _ | _ | _) | _<;>first | exact z | exact z.elim
theorem xget {expr:Bool} {Q:Value→Shared→Prop} (X:K.In s.heap) (I:PySem.W.InstAt s.heap x ox C od) (c:XAt K C) (hf:PySem.W.findObj K C od name=some (.value v)) (hh:PySem.W.handedIn v=true)
  (h:Q v { s with toks:=s.toks + 1 }):wpAny (model prog w) A (getAttr (.ref x) name expr) Q E s:=by
 unfold getAttr
 refine wpAny_bind (wpAny_mkText (qdq (s:={ s with toks:=s.toks + 1 }) X I c (xga_value (s:={ s with toks:=s.toks + 1 }) X I hf ?_)))
 show wpAny _ _ (handedOut v) _ _ _
 rw [PySem.W.handedOut_of hh]
 exact wpAny_pure h
theorem xclass {Q:Option Value→Shared→Prop} (X:K.In s.heap) (I:PySem.W.InstAt s.heap x ox C od) (c:XAt K C) (hf:PySem.W.findObj K C od "__class__"=some (.bind (.builtin "getset_descriptor.__get__") (.builtin "object.__class__")))
  (h:Q (some (.ref C)) { s with toks:=s.toks + 1 }):wpAny (model prog w) A (getAttr? (.ref x) "__class__") Q E s:=by
 unfold getAttr? getAttrBy?
 refine wpAny_bind (wpAny_mkText (wpAny_bind (wpAny_attempt (qdq (s:={ s with toks:=s.toks + 1 }) X I c ?_))))
 have F:=PySem.W.looks_find (M:=model prog w) X I hf
 refine wpAny_bind (wpAny_pure (wpAny_bind (wpAny_pure (wpAny_bind (I.type.here (s:={ s with toks:=s.toks + 1 }) (wpAny_bind (F.here (s:={ s with toks:=s.toks + 1 }) ?_)))))))
 show wpAny _ _ (holding [Value.builtin "object.__class__"] (call (.builtin "getset_descriptor.__get__") [.builtin "object.__class__",.ref x,.ref C])>>=ret) _ _ _
 refine wpAny_bind (wpAny_holding (wpAny_call (PySem.W.class_get (s:={ s with toks:=s.toks + 1 }) X I c.ob ?_)))
 refine wpAny_pure ?_
 show wpAny _ _ (handedOut (.ref C)) _ _ _
 exact wpAny_pure (wpAny_pure h)
theorem findObj_class (c:XAt K C):PySem.W.findObj K C od "__class__"=some (.bind (.builtin "getset_descriptor.__get__") (.builtin "object.__class__")):=by
 obtain ⟨cd,hc,_⟩:=PySem.W.any_some c.hd
 unfold PySem.W.findObj
 rw [hc,Option.bind_some,c.cl,Option.bind_some]
 simp [c.cg,c.ct]
theorem qcK {od:Option Obj} (c:XAt K C):PySem.W.KitX K (.ref x) (.ref C) (fun h=>PySem.W.InstAt h x ox C od) where
 ty:=fun _ _ _ I=>I.type
 it:=fun _ _ X _=>by
  obtain ⟨cd,hc,_⟩:=PySem.W.any_some c.hd
  unfold PySem.W.clsIn at hc
  split at hc
  ·rename_i c1 d1 cd1 sl1 ho
   intro A' Q' E' s' k q
   unfold isType loadHead
   exact wpAny_bind (wpAny_loadPart (k _ _ (X _ _ ho)) (wpAny_pure q))
  ·cases hc
 ne:=fun h tp dd its n sl X htp=>by
  obtain ⟨cd,hc,_⟩:=PySem.W.any_some c.hd
  refine Bool.eq_false_iff.mpr fun q=>?_
  have e:C=tp:=Value.ref.inj (beq_iff_eq.mp q)
  subst e
  unfold PySem.W.clsIn at hc
  split at hc
  ·rename_i c1 d1 cd1 sl1 ho
   have z:=(X _ _ ho).symm.trans htp
   cases z
  ·cases hc
 ca:=fun X I k=>xclass X I c (findObj_class c) k
end
theorem qb1 {c:Addr} {r:List Value} (e:qd2 (.ref c::r)=true):qd2 r=true:=by
 cases r with
 | nil=>cases e
 | cons a r=>exact e
theorem qb2:∀ {l:List Value},qd2 l=true→∃ rs:List Addr,l=rs.map Value.ref++[.type "ValueError",.type "Exception",.type "BaseException",.type "object"]
 | [],e=>by cases e
 | .ref c::r,e=>by
  obtain ⟨rs,q⟩:=qb2 (qb1 e)
  exact ⟨c::rs,by rw [q];rfl⟩
 | .type a::r,e=>by
  match r,e with
  | [.type b,.type c,.type d],e =>
   simp only [qd2,Bool.and_eq_true,beq_iff_eq] at e
   obtain ⟨⟨⟨rfl,rfl⟩,rfl⟩,rfl⟩:=e
   exact ⟨[],rfl⟩
theorem refuse_exc (self:Value) {l:List Value} (e:qd2 l=true):refuseLoop self "__setattr__" l=pure ():=by
 obtain ⟨rs,rfl⟩:=qb2 e
 induction rs with
 | nil=>exact PySem.F.store_ValueError.passes self
 | cons c rs ih=>rw [List.map_cons,List.cons_append,refuseLoop_ref];exact ih (qb1 e)
section
variable {prog:Program} {w:World} {A:Around} {E:Value→Shared→Prop} {s:Shared} {K:yg} {x C:Addr} {name:Str} {v:Value} {R:Result→Shared→Prop}
theorem xosa {tk:Tok} {ox:Obj} {od:Option Obj} (X:K.In s.heap) (I:PySem.W.InstAt s.heap x ox C od) (c:XAt K C) (n:NoAttr K C name)
  (h:wpAny (model prog w) A.in1 (Builtin.ObjectAttr.storeInOwnDict (.ref x) (.ref C) (.str name tk) name v false)
   (fun fin s'=>match fin with | .done f=>R (.ok f) s' | .again c'=>c'.quiet=true∧codeAny (model prog w) A c' R s') (fun e s'=>R (.error e) s') s) :
  codeAny (model prog w) A (.call (.builtin "object.__setattr__") ⟨[.ref x,.str name tk,v],[]⟩) R s:=by
 have SF:=PySem.F.store_object
 obtain ⟨cd,hc,ho⟩:=PySem.W.any_some c.mr
 have hm:PySem.W.Looks (model prog w) s.heap (mroOf (.ref C)) cd.mro:=(PySem.W.looks_clsIn X hc).andThen .now
 refine codeAny_call_builtin SF.slot.plain SF.entry (@PySem.W.check_slot (model prog w) _ _ s "object.__setattr__" "object" "__setattr__" (.ref x) [.str name tk,v] [] _ SF.kind SF.split (I.type.andThen (PySem.W.looks_mroIn X c.ob)) (SF.args (.ref x) (.str name tk) v) ?_)
 rw [PySem.W.osa_eq,refuse_eq]
 refine wpAny_bind (wpAny_bind (I.type.here (wpAny_bind (hm.here ?_))))
 rw [refuse_exc _ ho]
 refine wpAny_pure (wpAny_bind (I.type.here (wpAny_bind ((PySem.W.looks_findIn X n).here (wpAny_bind (wpAny_pure ?_))))))
 exact h
theorem xset {vs:Array Value} (X:K.In s.heap) (hx:s.heap.get? x=some ⟨.ref C,none,.fields vs,#[]⟩) (c:XAt K C) (n:NoAttr K C name) {Q:Unit→Shared→Prop}
  (h:∀ h',h'.get? x=some ⟨.ref C,some s.heap.objs.size,.fields vs,#[]⟩→h'.Ns1 s.heap.objs.size (fun y=>if y=name then some v else none)→(∀ b o,b≠x→s.heap.get? b=some o→h'.get? b=some o) →
   Q () { s with heap:=h',toks:=s.toks + 2 }):wpAny (model prog w) A (setAttr (.ref x) name v) Q E s:=by
 have I:PySem.W.InstAt s.heap x ⟨.ref C,none,.fields vs,#[]⟩ C none:=⟨hx,rfl,rfl,True.intro⟩
 obtain ⟨cd,hc,hd⟩:=PySem.W.any_some c.hd
 refine PySem.W.set_plain X I c.sa (xosa (s:={ s with toks:=s.toks + 1 }) X I c n ?_)
 refine wpAny_bind (wpAny_pure (wpAny_bind (wpAny_bind (wpAny_loadPart hx (wpAny_bind ((PySem.W.looks_clsIn X hc).here (s:={ s with toks:=s.toks + 1 }) ?_))))))
 rw [hd]
 obtain ⟨hh,g,dr,tk,os⟩:=s
 show wpAny _ _ (alloc { cls:=.type "dict",data:=.dict #[] }>>=fun d=>update x (fun o=>{ cls:=o.cls,dict:=some d,data:=o.data,slots:=o.slots })>>=fun _=>pure (some d)) _ _ _
 have hxs:x≠hh.objs.size:=Nat.ne_of_lt (Heap.lt_size hx)
 have hx1:=Heap.get?_push_of_some { cls:=.type "dict",data:=.dict #[] } hx
 refine wpAny_bind (wpAny_alloc' (wpAny_bind (wpAny_update' hx1 (wpAny_pure ?_))))
 have hx2:=Heap.get?_update_self (fun o:Obj=>{ cls:=o.cls,dict:=some hh.objs.size,data:=o.data,slots:=o.slots }) hx1 rfl
 have hd2:=(Heap.get?_update_ne (hh.push { cls:=.type "dict",data:=.dict #[] }) hh.objs.size x (fun o:Obj=>{ cls:=o.cls,dict:=some hh.objs.size,data:=o.data,slots:=o.slots }) hxs.symm).trans (Heap.get?_push_at rfl rfl)
 generalize hg:(hh.push { cls:=.type "dict",data:=.dict #[] }).update x (fun o:Obj=>{ cls:=o.cls,dict:=some hh.objs.size,data:=o.data,slots:=o.slots })=h2 at hx2 hd2 ⊢
 have nd:h2.Ns hh.objs.size (fun _=>none):=⟨_,#[],_,hd2,rfl,fun e he=>absurd he (by simp),fun _=>rfl⟩
 show wpAny _ _ (Builtin.ObjectAttr.storeInDict hh.objs.size (.str name tk) name v) _ _ _
 unfold Builtin.ObjectAttr.storeInDict Builtin.ObjectAttr.newKeyGuard
 refine wpAny_bind (wpAny_pure (wpAny_bind (wpAny_nsSet1 (Heap.Ns1.of_empty nd) fun h' n2 sb=>?_)))
 obtain ⟨oD,esD,epD,hoD,hdD,hcD⟩:=n2.count (PySem.Within.cons name v PySem.Within.nil)
 have hz:esD.size≤sizeLine:=yi hcD (by rw [List.length_cons,List.length_nil,sizeLine_eq];omega)
 refine wpAny_bind (wpAny_lookBehind hoD (by rw [hdD];exact pastItsLine_dict (Nat.le_succ_of_le hz)) ?_)
 refine wpAny_pure (h h' ((sb.2 x hxs).trans hx2) n2 fun b o hb e=>(sb.2 b (Nat.ne_of_lt (Heap.lt_size e))).trans ?_)
 rw [← hg]
 exact (Heap.get?_update_ne _ _ _ _ hb).trans (Heap.get?_push_of_some _ e)
abbrev xfs (a0:Addr):Array Value:=#[.ref a0,.none,.none,.none,.bool false,.none]
end
section
variable {prog:Program} {w:World} {A:Around} {R:Result→Shared→Prop} {E:Value→Shared→Prop} {h:Heap} {g:Array GenState} {d:Drawn} {t:Nat} {os:OsState}
variable {nm q:Str} {C N:Addr} {bs bm:List Value} {hdct:Bool} {sn:List Str} {sub:List Value} {ab:Bool} {col:Option Bool} {dd:Option Addr} {k0 k1 k2 k3 k5:Option Value}
end
def XN (e C:Addr) (dx:Option Addr):HO:=.ext fun h=>∃ a0,h.get? e=some ⟨.ref C,dx,.fields (xfs a0),#[]⟩
def XO (e C:Addr) (dx:Option Addr):HO:=.ext fun h=>∃ vs,h.get? e=some ⟨.ref C,dx,.fields vs,#[]⟩
theorem XN.ok {P:Program} {w:World} {H:Hp} {h:Heap} {e C a0:Addr} {dx:Option Addr} (q:h.get? e=some ⟨.ref C,dx,.fields (xfs a0),#[]⟩):ObjOk P w H h e (XN e C dx):=
 ⟨⟨a0,q⟩,⟨_,q⟩,fun _ _ ⟨a,x⟩ k=>⟨a,k _ x⟩⟩
def IsX (H:Hp) (e C:Addr) (dx:Option Addr):Prop:=H e=some (XN e C dx)∨H e=some (XO e C dx)
theorem IsX.get {P:Program} {w:World} {H:Hp} {h:Heap} {e C:Addr} {dx:Option Addr} (q:IsX H e C dx) (hok:HOk P w H h):∃ vs,h.get? e=some ⟨.ref C,dx,.fields vs,#[]⟩:=by
 rcases q with q | q
 ·obtain ⟨⟨a,x⟩,_⟩:=(show ObjOk P w H h e (XN e C dx) from hok e _ q)
  exact ⟨_,x⟩
 ·obtain ⟨⟨a,x⟩,_⟩:=(show ObjOk P w H h e (XO e C dx) from hok e _ q)
  exact ⟨_,x⟩
section
variable {X:Cx} {pins:List (Addr×Obj)} {σ:St} {H:Hp} {s:Shared} {e C:Addr} {dx:Option Addr}
theorem qd3 (I:Inv X pins σ H s) {d:Addr} {fs:List (Str×V)} (h:H d=some (.xd fs)):∃ (od:Obj) (mA:Str→Option Value),s.heap.get? d=some od∧(∀ name,PySem.W.lookIn name od=some (mA name))∧∀ f,RelO (fs.lookup f) (mA f):=by
 obtain ⟨mA,n,r⟩:=(show ObjOk X.prog X.w H s.heap d (.xd fs) from I.hok d _ h)
 obtain ⟨od,h1,h2⟩:=qbN n
 exact ⟨od,mA,h1,h2,r⟩
end
section
variable {X:Cx} {pins:List (Addr×Obj)} {σ:St} {H:Hp} {s:Shared} {a d:Addr} {h':Heap} {o u:HO} {t':Nat}
theorem Inv.both (I:Inv X pins σ H s) (mu:Mut (H a)) (hd:s.heap.objs.size≤d) (k:∀ b v,b≠a→s.heap.get? b=some v→h'.get? b=some v) (ha:∃ v,h'.get? a=some v)
  (n1:ObjOk X.prog X.w (upd (upd H d u) a o) h' a o) (n2:ObjOk X.prog X.w (upd (upd H d u) a o) h' d u) (ne:d≠a):Inv X pins σ (upd (upd H d u) a o) { s with heap:=h',toks:=t' }:=by
 have nd:H d=none:=I.hok.fresh hd
 have na:∀ b q,H b=some q→¬ Mut (some q)→b≠a:=fun b q e nm z=>by subst z;rw [e] at mu;exact nm mu
 have nn:∀ b,H b=none→b≠a:=fun b e z=>by subst z;rw [e] at mu;exact mu
 have big:∀ b v,s.heap.get? b=some v→b≠d:=fun b v e=>Nat.ne_of_lt (yj (Heap.lt_size e) hd)
 have up:∀ b q,H b=some q→b≠a→upd (upd H d u) a o b=some q:=fun b q e n=>by rw [qg n,qg (qE e nd)];exact e
 refine I.un ⟨fun b v e n _ _=>k b v (nn b n) e,fun b v e n _ _=>⟨v.slots,k b v (nn b n) e⟩,fun b v e n _=>by rw [qg (nn b n),qg (big b v e)];exact n,fun b v e _=>?_,fun b xs e=>up b _ e (na b _ e fun z=>z),fun b q xs e=>up b _ e (na b _ e fun z=>z),
  fun b ps e=>⟨#[],by rw [up b _ e (na b _ e fun z=>z)];simp⟩⟩ fun b q e=>?_
 ·by_cases hb:b=a
  ·subst hb;exact ha
  ·exact ⟨v,k b v hb e⟩
 ·by_cases hb:b=a
  ·subst hb
   rw [qb] at e
   cases e
   exact n1
  ·rw [qg hb] at e
   by_cases hbd:b=d
   ·subst hbd
    rw [qb] at e
    cases e
    exact n2
   ·rw [qg hbd] at e
    refine (I.hok b q e).stay (fun c v hc r=>k c v ?_ r) (fun c r=>up c _ r (na c _ r fun z=>z)) fun c xs r=>up c _ r (na c _ r fun z=>z)
    rcases hc with rfl | hc
    ·exact hb
    ·exact na c _ hc fun z=>z
end
def qeN (K:yg) (ta:TE) (f:Str):TE:=fun σ H Q=>ta σ H fun x H1=>(∃ a C dx fs v,x=.ref a∧H1 a=some (.ins C dx fs)∧Cls K C∧NoAttr K C f∧fs.lookup f=some v∧Q v H1) ∨
 (∃ a C dx fs v,x=.ref a∧IsX H1 a C (some dx)∧XAt K C∧NoAttr K C f∧H1 dx=some (.xd fs)∧fs.lookup f=some v∧Q v H1)
def qeO (K:yg) (ta tv:TE) (f:Str):TS:=fun D σ H=>tv σ H fun y H1=>ta σ H1 fun x H2=>(∃ a C dx fs,x=.ref a∧H2 a=some (.ins C dx fs)∧Cls K C∧NoAttr K C f∧fs.length < 1000 ∧
  D.nx σ (upd H2 a (.ins C dx (qI f y fs)))) ∨
 (∃ a C,x=.ref a∧H2 a=some (XN a C none)∧XAt K C∧NoAttr K C f∧∀ dx,H2 dx=none→D.nx σ (upd (upd H2 dx (.xd [(f,y)])) a (XN a C (some dx))))
section
variable {X:Cx} {o e value:Expr} {f:Str} {pos pos':Pos} {ta tv:TE} {K:yg}
theorem qD (hK:X.K=K) (he:PE X e ta) (hb:attributeBase e f X.env (eval e X.env)=eval e X.env):PE X (.Attribute e f pos) (qeN K ta f):=by
 subst hK
 intro pins s σ H Q I h
 refine attr_of hb (thn (he pins s σ H _ I h) fun u s1 ⟨x,H1,I1,rx,hx⟩=>?_)
 rcases hx with ⟨a,C,dx,fs,v,rfl,ea,c,n,l,q⟩ | ⟨a,C,dx,fs,v,rfl,ea,c,n,hd,l,q⟩
 ·obtain rfl:u=Value.ref a:=rx
  exact getattr_ok I1 ea c n l fun u' s2 I2 ru=>⟨v,H1,I2,ru,q⟩
 ·obtain rfl:u=Value.ref a:=rx
  obtain ⟨vs,hx⟩:=ea.get I1.hok
  obtain ⟨od,mA,h1,h2,r⟩:=qd3 I1 hd
  obtain ⟨u',hu,ru⟩:=RelO.some_of (v:=v) (o:=mA f) (by rw [← l];exact r f)
  exact xget I1.kIn (od:=some od) ⟨hx,rfl,rfl,h1⟩ c (PySem.W.findObj_own c.hd n rfl (by rw [h2,hu])) (qbO ru) ⟨v,H1,I1.tok _,ru,q⟩
theorem j6 (hK:X.K=K) (ha:PE X o ta) (hv:PE X value tv) (hs:swapsWith value (some (.Attribute o f pos')) pos.line X.env=pure false):PS X (.Assign [.Attribute o f pos'] value pos) (qeO K ta tv f):=by
 subst hK
 intro pins s σ H D I h
 refine plainObj_wpAny_Assign_Attribute (thn (hv pins s σ H _ I h) fun u s1 ⟨y,H1,I1,ry,q⟩=>thn (ha pins s1 σ H1 _ I1 q) fun ov s2 ⟨x,H2,I2,rx,hx⟩=>?_) hs
 rcases hx with ⟨a,C,dx,fs,rfl,ea,c,n,l,q2⟩ | ⟨a,C,rfl,ea,c,n,q2⟩
 ·obtain rfl:ov=Value.ref a:=rx
  exact setattr_ok I2 ea c n l ry fun s3 I3=>⟨σ,_,I3,q2⟩
 ·obtain rfl:ov=Value.ref a:=rx
  obtain ⟨⟨a0,hx⟩,_⟩:=(show ObjOk X.prog X.w H2 s2.heap a (XN a C none) from I2.hok a _ ea)
  refine xset I2.kIn hx c n fun h' g1 g2 g3=>?_
  have nd:H2 s2.heap.objs.size=none:=I2.hok.fresh (yh _)
  have ne:s2.heap.objs.size≠a:=Nat.ne_of_gt (Heap.lt_size hx)
  refine ⟨σ,_,I2.both (o:=XN a C (some s2.heap.objs.size)) (u:=.xd [(f,y)]) (by rw [ea];exact True.intro) (yh _) g3 ⟨_,g1⟩ (XN.ok g1) ⟨_,g2,fun g=>?_⟩ ne,q2 _ nd⟩
  by_cases hg:g=f
  ·subst hg
   simp only [List.lookup,beq_self_eq_true,if_true]
   exact ry
  ·have hb:(g==f)=false:=beq_eq_false_iff_ne.mpr hg
   simp only [List.lookup,hb,if_neg hg]
   exact True.intro
end
def tXMake (C:Addr) (sp:Sp) (E:XK) (t:TA):TE:=fun σ H Q=>t σ H fun vs H1=>vs.length≤1000∧∀ x,H1 x=none→sp (.ref x::vs) (upd H1 x (XN x C none)) (fun v H2=>v=.non∧Q (.ref x) H2) E
structure XMk (K:yg) (C f:Addr):Prop where
 at_:XAt K C
 init:PySem.W.findIn K (.ref C) "__init__"=some (some (.ref f))
 fn:PySem.W.isFn K (.ref f)=true
 kp:PySem.W.keepIn K (.ref C)=true
section
variable {X:Cx} {CX:CXT} {k:Nat} {f C:Addr} {fd:FuncData} {ps:List Str} {sp:Sp} {E:XK} {x m:Str} {p pos apos:Pos} {e o:Expr} {es:List Expr} {ta:TE} {t:TA}
structure CMeth (K:yg) (C:Addr) (m:Str) (f:Addr):Prop where
 rd:PySem.W.readsIn K C (.type "type")=true
 at_:PySem.W.findCls K (.ref C) (.type "type") m=some (.val (.ref f))
 ga:PySem.W.specialIn K (.ref C) "__getattribute__"=some (some (.builtin "type.__getattribute__"))
 kp:PySem.W.keepIn K (.ref f)=true
end
def tVinit (K:yg) (t:TA):TE:=fun σ H Q=>t σ H fun vs H1=>∃ a C y,vs=[.ref a,y]∧H1 a=some (XN a C none)∧XAt K C∧Q .non H1
structure VInit (K:yg):Prop where
 ga:PySem.W.findIn K (.type "type") "__getattribute__"=some (some (.builtin "type.__getattribute__"))
 su:PySem.W.subIn K (.type "type") (.type "type")=some true
 at_:PySem.W.findCls K (.type "ValueError") (.type "type") "__init__"=some (.val (.builtin "ValueError.__init__"))
section
variable {X:Cx} {p pos apos:Pos} {e:Expr} {es:List Expr} {t:TA} {K:yg}
end
structure Keep (fs zs:List Addr) (h h':Heap):Prop where
 keep:∀ b o,h.get? b=some o→b∉zs→b∉fs→h'.get? b=some o
 slot:∀ b o,h.get? b=some o→b∉zs→b∈fs→∃ sl,h'.get? b=some { o with slots:=sl }
structure Trc (h:Heap) (e:Addr) (C:Value) (dx:Option Addr) (T:Addr) (fl:Value):Prop where
 ex:∃ vs,h.get? e=some ⟨C,dx,.fields vs,#[]⟩∧vs[1]?=some (.ref T)∧vs[2]?=some .none
 tb:∃ ts,h.get? T=some ⟨.type "traceback",none,.fields ts,#[]⟩∧ts[3]?=some fl
 ne:T≠e
section
variable {M:Model} {A:Around} {E:Value→Shared→Prop} {s:Shared} {base:Heap} {env:Env} {outer:List Env} {L e:Addr} {C:Value} {dx:Option Addr} {vs:Array Value}
end
def CX1 (P:Program) (w:World):CXT:=fun outer H s E ev s'=>∃ (a C:Addr) (dx:Option Addr) (T:Addr) (H':Hp),ev=.ref a∧s'.os=s.os∧AllBare s'.gens∧Un (frs outer) [] H H' s.heap s'.heap∧HOk P w H' s'.heap ∧
 H' a=some (XO a C dx)∧Trc s'.heap a (.ref C) dx T .none∧s.heap.objs.size≤T∧H' T=none∧E (.ref C) dx H'
section
variable {X:Cx} {pins:List (Addr×Obj)} {σ:St} {H:Hp} {s:Shared}
end
structure XOk (X:Cx) (EK:St→XK):Prop where
 pass:∀ (pins:List (Addr×Obj)) (σ:St) (H:Hp) (s:Shared) (e:Value) (s':Shared),Inv X pins σ H s→CX1 X.prog X.w X.stack H s (EK σ) e s'→X.xe e s'
 rais:∀ (pins:List (Addr×Obj)) (σ:St) (H:Hp) (s:Shared) (a C:Addr) (dx:Option Addr),Inv X pins σ H s→H a=some (XN a C dx)→EK σ (.ref C) dx (upd H a (XO a C dx))→X.xe (.ref a) s
 calm:X.calm=true
section
variable {P:Program} {w:World} {K:yg} {mg:Str→Option Value} {base:Heap} {N:List Str} {qual:Str} {scope:Scope} {f:Addr} {cd:Value} {A:Around} {outer:List Env} {s0:Shared} {H0:Hp} {E:XK}
end
def tRaise (K:yg) (EK:St→XK) (te:TE):TS:=fun _ σ H=>te σ H fun x H1=>∃ a C dx,x=.ref a∧H1 a=some (XN a C dx)∧XAt K C∧EK σ (.ref C) dx (upd H1 a (XO a C dx))
section
variable {X:Cx} {EK:St→XK} {e:Expr} {te:TE} {pos:Pos} {K:yg}
end
def tCallS (sp:Sp) (EK:St→XK) (t:TA):TE:=fun σ H Q=>t σ H fun vs H1=>sp vs H1 Q (EK σ)
def tMethS (C:Addr) (m:Str) (sp:Sp) (EK:St→XK) (ta:TE) (t:TA):TE:=fun σ H Q=>ta σ H fun x H1=>∃ a dx fs,x=.ref a∧H1 a=some (.ins C dx fs)∧fs.lookup m=none∧t σ H1 fun vs H2=>sp (x::vs) H2 Q (EK σ)
def tMakeS (C:Addr) (sp:Sp) (EK:St→XK) (t:TA):TE:=fun σ H Q=>t σ H fun vs H1=>∀ x dx,H1 x=none→H1 dx=none→dx≠x →
 sp (.ref x::vs) (upd (upd H1 dx (.own x)) x (.ins C dx [])) (fun v H2=>v=.non∧Q (.ref x) H2) (EK σ)
structure MethOk (P:Program) (w:World) (K:yg) (mg:Str→Option Value) (base:Heap) (CX:CXT) (k:Nat) (C:Addr) (m:Str) (ps:List Str) (sp:Sp):Prop where
 ex:∃ f fd,FnOk P w K mg base CX k f fd ps sp∧Meth K C m f∧Binds K fd ps []
 cl:Cls K C
structure MakeOk (P:Program) (w:World) (K:yg) (mg:Str→Option Value) (base:Heap) (CX:CXT) (k:Nat) (C:Addr) (x:Str) (ps:List Str) (sp:Sp):Prop where
 ex:∃ f fd,FnOk P w K mg base CX k f fd ps sp∧Mk K C f∧Binds K fd ps []
 mg_:mg x=some (.ref C)
structure XMakeOk (P:Program) (w:World) (K:yg) (mg:Str→Option Value) (base:Heap) (k:Nat) (C:Addr) (x:Str) (ps:List Str) (sp:Sp):Prop where
 ex:∃ f fd,FnOk P w K mg base CX0 k f fd ps sp∧XMk K C f∧Binds K fd ps []
 mg_:mg x=some (.ref C)
section
variable {X:Cx} {EK:St→XK} {k:Nat} {f C:Addr} {fd:FuncData} {ps:List Str} {sp:Sp} {x m:Str} {p pos apos:Pos} {e o:Expr} {es:List Expr} {ta:TE} {t:TA}
theorem qH {pl:Sem Bool} (D:MethOk X.prog X.w X.K X.mg X.base CX0 k C m ps sp) (hr:Room k X.A) (he:PE X o ta) (ha:PA X (e::es) t)
  (hst:starEach (e::es) X.env=(false,eval e X.env)::starEach es X.env:=by rfl) (hpl:(backTo pos (starEach es X.env)).any (·.1)=false:=by rfl)
  (ht:eval (.Call (.Attribute o m apos) (e::es) [] pos) X.env=(do
   let ov ← eval o X.env
   standAt apos.atName
   let (f,first) ← holding [ov] (getMethod ov m pl)
   callWith pos f first (backTo pos (starEach (e::es) X.env)) (backToKw pos (keywordEach [] X.env))):=by rfl) :
  PE X (.Call (.Attribute o m apos) (e::es) [] pos) (qdc C m sp [] E0 ta t):=by
 obtain ⟨f,fd,F,hm,hb⟩:=D.ex
 exact pe_meth (pl:=pl) he D.cl hm F hr hb .nil qC ha hst hpl ht
theorem jm {pl:Sem Bool} (D:MethOk X.prog X.w X.K X.mg X.base CX0 k C m ps sp) (hr:Room k X.A) (he:PE X o ta)
  (ht:eval (.Call (.Attribute o m apos) [] [] pos) X.env=(do
   let ov ← eval o X.env
   standAt apos.atName
   let (f,first) ← holding [ov] (getMethod ov m pl)
   callWith pos f first (backTo pos (starEach [] X.env)) (backToKw pos (keywordEach [] X.env))):=by rfl) :
  PE X (.Call (.Attribute o m apos) [] [] pos) (qdc C m sp [] E0 ta qe2):=by
 obtain ⟨f,fd,F,hm,hb⟩:=D.ex
 exact pe_meth0 (pl:=pl) he D.cl hm F hr hb .nil qC ht
end
section
variable {P:Program} {w:World} {K:yg} {mg:Str→Option Value} {base:Heap}
end
abbrev Cx.tried (X:Cx) (pn:List (Addr×Obj)) (E:Value→Shared→Prop):Cx:={ X with pn:=pn,xe:=E }
abbrev Cx.hand (X:Cx) (a:Addr):Cx:={ X with A:=X.A.mark (some (.ref a)),calm:=false,xe:=fun _ _=>False }
section
variable {X:Cx} {pins pins':List (Addr×Obj)} {σ:St} {H:Hp} {s:Shared} {E:Value→Shared→Prop} {a:Addr}
structure Loose (X:Cx) (pins:List (Addr×Obj)) (H:Hp) (T:Addr):Prop where
 hn:H T=none
 lo:X.s₀.heap.objs.size≤T
 nl:T≠X.env.locals
 nf:T∉X.fs
 nc:∀ x c,X.env.cells.lookup x=some c→c≠T
 np:∀ p∈X.pn++pins,p.1≠T
end
structure Held (X:Cx) (pins:List (Addr×Obj)) (H:Hp) (h:Heap) (a C:Addr) (dx:Option Addr):Prop where
 at_:H a=some (XO a C dx)
 tr:∃ T,Trc h a (.ref C) dx T .none∧Loose X pins H T
section
variable {X:Cx} {a C D:Addr} {dx:Option Addr} {c n:Str} {cp pos:Pos} {b0:Stmt} {body:List Stmt} {qcg:List ExceptHandler} {tb tr:TS} {i:Nat} {K:yg}
end
section
variable {X:Cx} {body orelse:List Stmt} {h0:ExceptHandler} {hs:List ExceptHandler} {pos:Pos} {te:TS}
end
def TyX (K:yg) (H:Hp) (x:V) (t:Value):Prop:=TyOf K H x t∨∃ a C dx,x=.ref a∧t=.ref C∧IsX H a C dx∧XAt K C∧∀ d,dx=some d→∃ fs,H d=some (.xd fs)
theorem TyX.kit {X:Cx} {pins:List (Addr×Obj)} {σ:St} {H:Hp} {s:Shared} {x:V} {u t:Value} (I:Inv X pins σ H s) (rx:RelV x u) (ty:TyX X.K H x t):∃ P:Heap→Prop,PySem.W.KitX X.K u t P∧P s.heap∧u≠.builtin "__main__.__loader__#opaque":=by
 rcases ty with ty | ⟨a,C,dx,rfl,rfl,hx,c,hd⟩
 ·exact ty.kit I rx
 ·cases rx
  obtain ⟨vs,he⟩:=hx.get I.hok
  cases dx with
  | none=>exact ⟨_,qcK (od:=none) c,⟨he,rfl,rfl,True.intro⟩,fun z=>nomatch z⟩
  | some d =>
   obtain ⟨fs,hf⟩:=hd d rfl
   obtain ⟨od,mA,h1,_⟩:=qd3 I hf
   exact ⟨_,qcK (od:=some od) c,⟨he,rfl,rfl,h1⟩,fun z=>nomatch z⟩
def qeP (K:yg):List V→Hp→VK→Prop:=fun xs H Q=>∃ x y t c b,xs=[x,y]∧TyX K H x t∧qb0 y=some c∧PySem.W.kitOne K t c=some b∧Q (.bl b) H
def qd4 (K:yg):List V→Hp→VK→Prop:=fun xs H Q=>∃ x p ys t cs b,xs=[x,.ref p]∧TyX K H x t∧H p=some (.tup ys)∧ys.map qb0=cs.map some∧PySem.W.kitAny K t cs=some b∧Q (.bl b) H
section
variable {X:Cx} {K:yg}
theorem qcL (hK:X.K=K):qaf X (.builtin "isinstance") (qeP K):=by
 subst hK
 intro pins s σ H xs us Q I r h
 obtain ⟨x,y,t,c,b,rfl,ty,hy,hb,q⟩:=h
 obtain ⟨u,v,rfl,ru,rv⟩:=qdb r
 have e:=qbj hy rv
 subst e
 obtain ⟨P,Z,p,ne⟩:=ty.kit I ru
 exact PySem.W.kia_one Z I.kIn p hb ne fun tk=>⟨.bl b,H,I.tok tk,rfl,q⟩
theorem qcn (hK:X.K=K):qaf X (.builtin "isinstance") (qd4 K):=by
 subst hK
 intro pins s σ H xs us Q I r h
 obtain ⟨x,p,ys,t,cs,b,rfl,ty,hp,hy,hb,q⟩:=h
 obtain ⟨u,v,rfl,ru,rv⟩:=qdb r
 cases rv
 obtain ⟨P,Z,pz,ne⟩:=ty.kit I ru
 obtain ⟨_,its,rv,o,ho,hc,n,hd⟩:=(show ObjOk X.prog X.w H s.heap p (.tup ys) from I.hok p _ hp)
 have e:=qa0 hy rv
 subst e
 obtain ⟨c,dd,dt,sl⟩:=o
 have hc':c=.type "tuple":=hc
 have hd':dt=.seq its.toArray n:=hd
 subst hc' hd'
 exact PySem.W.kia_tup Z I.kIn pz ho hb ne fun tk=>⟨.bl b,H,I.tok tk,rfl,q⟩
end
mutual
inductive EqD (K:yg) (H:Hp):Nat→V→V→Bool→Prop
 | flat {n:Nat} {x y:V} (fx:qag x=true) (fy:qag y=true):EqD K H n x y (eqV x y)
 | self {n:Nat} {a:Addr}:EqD K H n (.ref a) (.ref a) true
 | deep {n:Nat} {a b:Addr} {k:Bool} (h:EqT K H n a b k) (ne:a≠b):EqD K H n (.ref a) (.ref b) k
inductive EqT (K:yg) (H:Hp):Nat→Addr→Addr→Bool→Prop
 | lst {n:Nat} {a b:Addr} {xs ys:List V} {e:Nat→Bool} (ha:SqL K H a xs) (hb:SqL K H b ys) (hl:xs.length=ys.length) (he:∀ j x y,xs[j]?=some x→ys[j]?=some y→EqD K H n x y (e j)):EqT K H (n + 1) a b ((List.range xs.length).all e)
 | lstL {n:Nat} {a b:Addr} {xs ys:List V} (ha:SqL K H a xs) (hb:SqL K H b ys) (hl:xs.length≠ys.length):EqT K H (n + 1) a b false
 | tup {n:Nat} {a b:Addr} {xs ys:List V} {e:Nat→Bool} (ha:SqT K H a xs) (hb:SqT K H b ys) (he:∀ j x y,xs[j]?=some x→ys[j]?=some y→EqD K H n x y (e j)):EqT K H (n + 1) a b ((List.range (min xs.length ys.length)).all e&&xs.length==ys.length)
 | lt {n:Nat} {a b:Addr} {xs ys:List V} (ha:SqL K H a xs) (hb:SqT K H b ys):EqT K H (n + 1) a b false
 | tl {n:Nat} {a b:Addr} {xs ys:List V} (ha:SqT K H a xs) (hb:SqL K H b ys):EqT K H (n + 1) a b false
end
theorem jG:∀ {xs:List V} {us:List Value} {j:Nat} {u:Value},Vals xs us→us[j]?=some u→∃ x,xs[j]?=some x∧RelV x u
 | _,_,_,_,.nil,e=>by simp at e
 | _,_,0,_,.cons r _,e=>by simp at e;subst e;exact ⟨_,rfl,r⟩
 | _,_,j + 1,u,.cons _ t,e=>by
  obtain ⟨x,h1,h2⟩:=jG (j:=j) (u:=u) t (by simpa using e)
  exact ⟨x,by simpa using h1,h2⟩
section
variable {X:Cx} {pins:List (Addr×Obj)} {σ:St} {H:Hp} {s:Shared}
theorem qco (I:Inv X pins σ H s):∀ n,(∀ (A:Around) (x y:V) (k:Bool) (u v:Value),EqD X.K H n x y k→RelV x u→RelV y v→A.units + n < cLine→SeqAt.EqAt A s u v k)∧(∀ (A:Around) (a b:Addr) (k:Bool),EqT X.K H n a b k→A.units + n < cLine→SeqAt.RcAt A s (.ref a) (.ref b) k):=by
 intro n
 induction n with
 | zero =>
  have t0:∀ (A:Around) (a b:Addr) (k:Bool),EqT X.K H 0 a b k→A.units + 0 < cLine→SeqAt.RcAt A s (.ref a) (.ref b) k:=fun A a b k h=>by cases h
  refine ⟨fun A x y k u v h rx ry hu=>?_,t0⟩
  cases h with
  | flat fx fy=>exact qdg rx ry fx fy
  | self=>cases rx;cases ry;exact SeqAt.EqAt.same _
  | deep h ne=>cases h
 | succ n ih =>
  have t1:∀ (A:Around) (a b:Addr) (k:Bool),EqT X.K H (n + 1) a b k→A.units + (n + 1) < cLine→SeqAt.RcAt A s (.ref a) (.ref b) k:=fun A a b k h hu=>by
   have hu0:A.units < cLine:=by omega
   have hu1:A.in1.units + n < cLine:=by show A.units + 1 + n < cLine;omega
   cases h with
   | @lst _ _ _ xs ys e ha hb hl he =>
    obtain ⟨its,r,pl,hz⟩:=I.list ha
    obtain ⟨its2,r2,pl2,hz2⟩:=I.list hb
    have e1:xs.length=its.toArray.size:=by rw [List.size_toArray];exact r.length
    have e2:ys.length=its2.toArray.size:=by rw [List.size_toArray];exact r2.length
    rw [e1]
    refine SeqAt.RcAt.lists pl.isList pl2.isList (by rw [← e1,← e2,hl]) hu0 fun j h1 h2=>?_
    have g1:its[j]?=some its.toArray[j]:=by simp
    have g2:its2[j]?=some its2.toArray[j]:=by simp
    obtain ⟨x,hx,rx⟩:=jG r g1
    obtain ⟨y,hy,ry⟩:=jG r2 g2
    exact ih.1 A.in1 x y (e j) _ _ (he j x y hx hy) rx ry hu1
   | @lstL _ _ _ xs ys ha hb hl =>
    obtain ⟨its,r,pl,hz⟩:=I.list ha
    obtain ⟨its2,r2,pl2,hz2⟩:=I.list hb
    refine SeqAt.RcAt.lists_lengths pl.isList pl2.isList ?_ hu0
    rw [List.size_toArray,List.size_toArray,← r.length,← r2.length]
    simp [hl]
   | @tup _ _ _ xs ys e ha hb he =>
    obtain ⟨its,r,pl,hz⟩:=I.tuple ha
    obtain ⟨its2,r2,pl2,hz2⟩:=I.tuple hb
    have e1:xs.length=its.toArray.size:=by rw [List.size_toArray];exact r.length
    have e2:ys.length=its2.toArray.size:=by rw [List.size_toArray];exact r2.length
    rw [e1,e2]
    refine SeqAt.RcAt.tuples pl pl2 hu0 fun j h1 h2=>?_
    have g1:its[j]?=some its.toArray[j]:=by simp
    have g2:its2[j]?=some its2.toArray[j]:=by simp
    obtain ⟨x,hx,rx⟩:=jG r g1
    obtain ⟨y,hy,ry⟩:=jG r2 g2
    exact ih.1 A.in1 x y (e j) _ _ (he j x y hx hy) rx ry hu1
   | lt ha hb =>
    obtain ⟨its,r,pl,hz⟩:=I.list ha
    obtain ⟨its2,r2,pl2,hz2⟩:=I.tuple hb
    exact SeqAt.RcAt.list_tuple pl.isList pl2 hu0
   | tl ha hb =>
    obtain ⟨its,r,pl,hz⟩:=I.tuple ha
    obtain ⟨its2,r2,pl2,hz2⟩:=I.list hb
    exact SeqAt.RcAt.tuple_list pl pl2.isList hu0
  refine ⟨fun A x y k u v h rx ry hu=>?_,t1⟩
  cases h with
  | flat fx fy=>exact qdg rx ry fx fy
  | self=>cases rx;cases ry;exact SeqAt.EqAt.same _
  | deep h ne=>cases rx;cases ry;exact SeqAt.EqAt.of_refs ne (t1 A _ _ k h hu)
theorem ne_refs (I:Inv X pins σ H s) {n:Nat} {A:Around} {a b:Addr} {k:Bool} (h:EqT X.K H n a b k) (hu:A.units + n < cLine):SeqAt.RcNeAt A s (.ref a) (.ref b) (!k):=by
 cases n with
 | zero=>cases h
 | succ n =>
  have ih:=qco I n
  have hu0:A.units < cLine:=by omega
  have hu1:A.in1.units + n < cLine:=by show A.units + 1 + n < cLine;omega
  cases h with
  | @lst _ _ _ xs ys e ha hb hl he =>
   obtain ⟨its,r,pl,hz⟩:=I.list ha
   obtain ⟨its2,r2,pl2,hz2⟩:=I.list hb
   have e1:xs.length=its.toArray.size:=by rw [List.size_toArray];exact r.length
   have e2:ys.length=its2.toArray.size:=by rw [List.size_toArray];exact r2.length
   rw [e1]
   refine SeqAt.RcNeAt.lists pl.isList pl2.isList (by rw [← e1,← e2,hl]) hu0 fun j h1 h2=>?_
   obtain ⟨x,hx,rx⟩:=jG r (show its[j]?=some its.toArray[j] by simp)
   obtain ⟨y,hy,ry⟩:=jG r2 (show its2[j]?=some its2.toArray[j] by simp)
   exact ih.1 A.in1 x y (e j) _ _ (he j x y hx hy) rx ry hu1
  | @lstL _ _ _ xs ys ha hb hl =>
   obtain ⟨its,r,pl,hz⟩:=I.list ha
   obtain ⟨its2,r2,pl2,hz2⟩:=I.list hb
   refine SeqAt.RcNeAt.lists_lengths pl.isList pl2.isList ?_ hu0
   rw [List.size_toArray,List.size_toArray,← r.length,← r2.length]
   simp [hl]
  | @tup _ _ _ xs ys e ha hb he =>
   obtain ⟨its,r,pl,hz⟩:=I.tuple ha
   obtain ⟨its2,r2,pl2,hz2⟩:=I.tuple hb
   have e1:xs.length=its.toArray.size:=by rw [List.size_toArray];exact r.length
   have e2:ys.length=its2.toArray.size:=by rw [List.size_toArray];exact r2.length
   rw [e1,e2]
   refine SeqAt.RcNeAt.tuples pl pl2 hu0 fun j h1 h2=>?_
   obtain ⟨x,hx,rx⟩:=jG r (show its[j]?=some its.toArray[j] by simp)
   obtain ⟨y,hy,ry⟩:=jG r2 (show its2[j]?=some its2.toArray[j] by simp)
   exact ih.1 A.in1 x y (e j) _ _ (he j x y hx hy) rx ry hu1
  | lt ha hb =>
   obtain ⟨its,r,pl,hz⟩:=I.list ha
   obtain ⟨its2,r2,pl2,hz2⟩:=I.tuple hb
   exact SeqAt.RcNeAt.list_tuple pl.isList pl2 hu0
  | tl ha hb =>
   obtain ⟨its,r,pl,hz⟩:=I.tuple ha
   obtain ⟨its2,r2,pl2,hz2⟩:=I.list hb
   exact SeqAt.RcNeAt.tuple_list pl pl2.isList hu0
theorem qd5 {A:Around} {x y:V} {u v:Value} (rx:RelV x u) (ry:RelV y v) (fx:qag x=true) (fy:qag y=true):SeqAt.RcAt A s u v (eqV x y)∧SeqAt.RcNeAt A s u v (!eqV x y):=by
 cases x with
 | non =>
  cases rx
  cases y with
  | non=>cases ry;exact ⟨SeqAt.RcAt.none_none,SeqAt.RcNeAt.none_none⟩
  | bl b=>cases ry;exact ⟨SeqAt.RcAt.none_bool b,SeqAt.RcNeAt.none_bool b⟩
  | int b=>obtain ⟨t,rfl⟩:=ry;exact ⟨SeqAt.RcAt.none_int b t,SeqAt.RcNeAt.none_int b t⟩
  | str b=>obtain ⟨t,rfl⟩:=ry;exact ⟨SeqAt.RcAt.none_str b t,SeqAt.RcNeAt.none_str b t⟩
  | _=>cases fy
 | bl a =>
  cases rx
  cases y with
  | non=>cases ry;exact ⟨SeqAt.RcAt.bool_none a,SeqAt.RcNeAt.bool_none a⟩
  | bl b=>cases ry;exact ⟨SeqAt.RcAt.bool_bool a b,SeqAt.RcNeAt.bool_bool a b⟩
  | int b=>obtain ⟨t,rfl⟩:=ry;exact ⟨SeqAt.RcAt.bool_int a b t,SeqAt.RcNeAt.bool_int a b t⟩
  | str b=>obtain ⟨t,rfl⟩:=ry;exact ⟨SeqAt.RcAt.bool_str a b t,SeqAt.RcNeAt.bool_str a b t⟩
  | _=>cases fy
 | int a =>
  obtain ⟨t',rfl⟩:=rx
  cases y with
  | non=>cases ry;exact ⟨SeqAt.RcAt.int_none a t',SeqAt.RcNeAt.int_none a t'⟩
  | bl b=>cases ry;exact ⟨SeqAt.RcAt.int_bool a t' b,SeqAt.RcNeAt.int_bool a t' b⟩
  | int b=>obtain ⟨t,rfl⟩:=ry;exact ⟨SeqAt.RcAt.int_int a t' b t,SeqAt.RcNeAt.int_int a t' b t⟩
  | str b=>obtain ⟨t,rfl⟩:=ry;exact ⟨SeqAt.RcAt.int_str a t' b t,SeqAt.RcNeAt.int_str a t' b t⟩
  | _=>cases fy
 | str a =>
  obtain ⟨t',rfl⟩:=rx
  cases y with
  | non=>cases ry;exact ⟨SeqAt.RcAt.str_none a t',SeqAt.RcNeAt.str_none a t'⟩
  | bl b=>cases ry;exact ⟨SeqAt.RcAt.str_bool a t' b,SeqAt.RcNeAt.str_bool a t' b⟩
  | int b=>obtain ⟨t,rfl⟩:=ry;exact ⟨SeqAt.RcAt.str_int a t' b t,SeqAt.RcNeAt.str_int a t' b t⟩
  | str b=>obtain ⟨t,rfl⟩:=ry;exact ⟨SeqAt.RcAt.str_str a t' b t,SeqAt.RcNeAt.str_str a t' b t⟩
  | _=>cases fy
 | _=>cases fx
end
def qep (K:yg) (neg:Bool):R2:=fun x y H Q=>(qag x=true∧qag y=true∧Q (.bl (if neg then !eqV x y else eqV x y)) H) ∨
 (∃ a b k n,x=.ref a∧y=.ref b∧n≤60∧EqT K H n a b k∧Q (.bl (if neg then !k else k)) H) ∨
 (∃ a kvs,x=.ref a∧y=.ref a∧H a=some (.dK kvs)∧Q (.bl (!neg)) H)
theorem qa1 {κ:Type} [DecidableEq κ]:∀ {kb:List (κ×Value)} {k:κ} {v:Value},(kb.map (·.1)).Nodup→(k,v)∈kb→valueAt kb k=some v
 | [],_,_,_,h=>by cases h
 | (k',v')::r,k,v,hn,h=>by
  obtain ⟨h1,h2⟩:=yo.mp (show (k'::r.map (·.1)).Nodup from hn)
  unfold valueAt
  rw [List.find?_cons]
  by_cases e:k'=k
  ·subst e
   simp only [decide_true]
   rcases List.mem_cons.mp h with z | z
   ·cases z;rfl
   ·exact absurd (List.mem_map.mpr ⟨(k',v),z,rfl⟩) h1
  ·simp only [e,decide_false]
   rcases List.mem_cons.mp h with z | z
   ·cases z;exact absurd rfl e
   ·exact qa1 h2 z
theorem qcp {A:Around} {s:Shared} {κ:Type} [DecidableEq κ] (kb:List (κ×Value)) (hn:(kb.map (·.1)).Nodup):∀ ka:List (κ×Value),(∀ p∈ka,p∈kb)→PySem.W.KeqHits A s kb ka true
 | [],_=>.nil
 | (k,v)::r,h=>by
  have hv:valueAt kb k=some v:=qa1 hn (h (k,v) List.mem_cons_self)
  exact .hit (e:=true) (b:=true) hv (SeqAt.EqAt.same v) (qcp kb hn r fun p hp=>h p (List.mem_cons_of_mem _ hp))
section
variable {X:Cx} {K:yg}
theorem k_eqU (hK:X.K=K) (hu:X.A.units + 100 < cLine):OpR X (compareOp .Eq) (qep K false):=by
 subst hK
 intro pins s σ H x y u v Q I rx ry h
 rcases h with ⟨fx,fy,q⟩ | ⟨a,b,k,n,rfl,rfl,hn,e,q⟩ | ⟨a,kvs,rfl,rfl,ea,q⟩
 ·exact (qd5 rx ry fx fy).1 _ _ _ _ ⟨.bl _,H,I,rfl,q⟩
 ·cases rx;cases ry
  exact (qco I n).2 X.A a b k e (by omega) _ _ _ _ ⟨.bl _,H,I,rfl,q⟩
 ·cases rx;cases ry
  obtain ⟨_,hs,vs,r,d⟩:=(show ObjOk X.prog X.w H s.heap a (.dK kvs) from I.hok a _ ea)
  obtain ⟨_,_,_,_,_,_,_,_,nd⟩:=id d
  refine PySem.W.keq_eq hs hs d d (by omega) (fun _=>qcp vs nd vs fun _ h=>h) ?_
  rw [beq_self_eq_true]
  exact ⟨.bl true,H,I,rfl,q⟩
theorem qan (hK:X.K=K) (hu:X.A.units + 100 < cLine):OpR X (compareOp .NotEq) (qep K true):=by
 subst hK
 intro pins s σ H x y u v Q I rx ry h
 rcases h with ⟨fx,fy,q⟩ | ⟨a,b,k,n,rfl,rfl,hn,e,q⟩ | ⟨a,kvs,rfl,rfl,ea,q⟩
 ·exact (qd5 rx ry fx fy).2 _ _ _ _ ⟨.bl _,H,I,rfl,q⟩
 ·cases rx;cases ry
  exact ne_refs I e (by omega) _ _ _ _ ⟨.bl _,H,I,rfl,q⟩
 ·cases rx;cases ry
  obtain ⟨_,hs,vs,r,d⟩:=(show ObjOk X.prog X.w H s.heap a (.dK kvs) from I.hok a _ ea)
  obtain ⟨_,_,_,_,_,_,_,_,nd⟩:=id d
  refine PySem.W.keq_ne hs hs d d (by omega) (fun _=>qcp vs nd vs fun _ h=>h) ?_
  rw [beq_self_eq_true]
  exact ⟨.bl false,H,I,rfl,q⟩
end
section
variable {X:Cx} {K:yg}
def qe6 (K:yg):R2:=fun x y H Q=>rIx K x y H Q∨∃ a v,x=.ref a∧DGet H a y (some v)∧Q v H
theorem qy (hK:X.K=K) (hu:X.A.units + 100 < cLine):IxR X (qe6 K):=by
 subst hK
 refine IxR.or ix_seq ?_
 intro value slice pins s σ H x y v u Q I rx ry h hs
 obtain ⟨a,z,rfl,g,q⟩:=h
 cases rx
 exact tail_any (dict_typeIs I g) PySem.F.slot_dict_getitem.lookup (d_getItem (by omega) I g ry fun w' s3 I3 rw'=>⟨z,H,I3,rw',q⟩) hs
def rSetU:qeE:=fun o i v H Q=>qen o i v H Q∨∃ a H',o=.ref a∧DPut H a i v H'∧Q H'
theorem zn (hu:X.A.units + 100 < cLine):qfb X rSetU:=by
 intro pins s σ H o i v ov iv u Q I ro ri rv h
 rcases h with h | ⟨a,H',rfl,g,q⟩
 ·exact set_list pins s σ H o i v ov iv u Q I ro ri rv h
 ·cases ro
  exact d_setItem (by omega) I g ri rv fun s' I'=>⟨H',I',q⟩
def qdQ (K:yg) (neg:Bool):R2:=fun x y H Q=>rIn K neg x y H Q∨(∃ a o,y=.ref a∧DGet H a x o∧Q (.bl (if neg then !o.isSome else o.isSome)) H) ∨
 (∃ p xs e n,y=.ref p∧SqL K H p xs∧n≤60∧(∀ z∈xs,EqD K H n z x (e z))∧Q (.bl (if neg then !xs.any e else xs.any e)) H)
theorem qd6 {pins:List (Addr×Obj)} {σ:St} {H:Hp} {s:Shared} {xs:List V} {its:List Value} {x:V} {u:Value} {e:V→Bool} {n:Nat} {A:Around} (I:Inv X pins σ H s) (r:Vals xs its) (rx:RelV x u) (hu:A.units + n < cLine) (he:∀ z∈xs,EqD X.K H n z x (e z)) :
  ∃ e':Value→Bool,(∀ w,w∈its.toArray→SeqAt.EqAt A s w u (e' w))∧its.toArray.any e'=xs.any e:=by
 classical
 refine ⟨fun w=>decide (∃ z∈xs,RelV z w∧e z=true),fun w hw=>?_,?_⟩
 ·have hw':w∈its:=by simpa using hw
  obtain ⟨j,hj⟩:=List.mem_iff_getElem?.mp hw'
  obtain ⟨z,hz,rz⟩:=jG r hj
  have hm:=ye hz
  have eq:decide (∃ z∈xs,RelV z w∧e z=true)=e z:=by
   cases q:e z with
   | true=>exact decide_eq_true ⟨z,hm,rz,q⟩
   | false =>
    refine yl fun ⟨z',_,rz',q'⟩=>?_
    rw [RelV.inj rz' rz,q] at q'
    cases q'
  show SeqAt.EqAt A s w u (decide (∃ z∈xs,RelV z w∧e z=true))
  rw [eq]
  exact (qco I n).1 A z x (e z) w u (he z hm) rz rx hu
 ·rw [Bool.eq_iff_iff,List.any_eq_true]
  constructor
  ·intro h
   have h':its.any (fun w=>decide (∃ z∈xs,RelV z w∧e z=true))=true:=by simpa using h
   obtain ⟨w,_,q⟩:=List.any_eq_true.mp h'
   obtain ⟨z,hz,_,ez⟩:=yk q
   exact ⟨z,hz,ez⟩
  ·rintro ⟨z,hz,ez⟩
   obtain ⟨j,hj⟩:=List.mem_iff_getElem?.mp hz
   obtain ⟨w,hw,rz⟩:=r.get hj
   have:its.any (fun w=>decide (∃ z∈xs,RelV z w∧e z=true))=true:=List.any_eq_true.mpr ⟨w,ye hw,decide_eq_true ⟨z,hz,rz,ez⟩⟩
   simpa using this
theorem zQ (hK:X.K=K) (hu:X.A.units + 100 < cLine):OpR X (compareOp .In) (qdQ K false):=by
 subst hK
 intro pins s σ H x y u v Q I rx ry h
 rcases h with h | ⟨a,o,rfl,g,q⟩ | ⟨p,xs,e,n,rfl,hl,hn,he,q⟩
 ·exact op_in_seq pins s σ H x y u v Q I rx ry h
 ·cases ry
  exact d_in (by omega) I g rx fun s' I'=>⟨.bl _,H,I',rfl,q⟩
 ·cases ry
  obtain ⟨its,r,pl,hz⟩:=I.list hl
  obtain ⟨e',h1,h2⟩:=qd6 (A:=X.A.in1) I r rx (by show X.A.units + 1 + n < cLine;omega) he
  exact SeqAt.in_listAt e' pl.isList h1 (by rw [h2];exact ⟨.bl _,H,I,rfl,q⟩)
theorem qax (hK:X.K=K) (hu:X.A.units + 100 < cLine):OpR X (compareOp .NotIn) (qdQ K true):=by
 subst hK
 intro pins s σ H x y u v Q I rx ry h
 rcases h with h | ⟨a,o,rfl,g,q⟩ | ⟨p,xs,e,n,rfl,hl,hn,he,q⟩
 ·exact op_notIn_seq pins s σ H x y u v Q I rx ry h
 ·cases ry
  exact d_notIn (by omega) I g rx fun s' I'=>⟨.bl _,H,I',rfl,q⟩
 ·cases ry
  obtain ⟨its,r,pl,hz⟩:=I.list hl
  obtain ⟨e',h1,h2⟩:=qd6 (A:=X.A.in1) I r rx (by show X.A.units + 1 + n < cLine;omega) he
  exact SeqAt.notIn_listAt e' pl.isList h1 (by rw [h2];exact ⟨.bl _,H,I,rfl,q⟩)
def rListU (K:yg):List V→Hp→VK→Prop:=fun xs H Q=>(∃ p ys,xs=[.ref p]∧(SqL K H p ys∨SqT K H p ys)∧∀ l,H l=none→Q (.ref l) (upd H l (.lst ys))) ∨
 (∃ p kvs,xs=[.ref p]∧H p=some (.dK kvs)∧∀ l,H l=none→Q (.ref l) (upd H l (.lst (kvs.map fun kv=>kV kv.1)))) ∨
 (∃ x,xs=[.str x]∧x.length≤1000∧∀ l,H l=none→Q (.ref l) (upd H l (.lst (x.cps.toList.map fun c=>.str ⟨#[c]⟩))))
theorem qbk {α β:Type} {F:α→β→Prop}:∀ {l:List α} {m:List β} {j:Nat} {a:α},Paired F l m→l[j]?=some a→∃ b,m[j]?=some b∧F a b
 | _,_,_,_,.nil,e=>by simp at e
 | _,_,0,_,.cons r _,e=>by simp at e;subst e;exact ⟨_,rfl,r⟩
 | _,_,j + 1,a,.cons _ t,e=>by
  obtain ⟨b,h1,h2⟩:=qbk (j:=j) (a:=a) t (by simpa using e)
  exact ⟨b,by simpa using h1,h2⟩
theorem zW:∀ {ys:List V} {us:List Value},ys.length=us.length→(∀ (j:Nat) y u,ys[j]?=some y→us[j]?=some u→RelV y u)→Vals ys us
 | [],[],_,_=>.nil
 | [],_::_,h,_=>by cases h
 | _::_,[],h,_=>by cases h
 | y::ys,u::us,h,q=>.cons (q 0 y u rfl rfl) (zW (Nat.succ.inj h) fun j y' u' h1 h2=>q (j + 1) y' u' (by simpa using h1) (by simpa using h2))
theorem qa2 (hK:X.K=K) (hc:X.calm=true):qaf X (.type "list") (rListU K):=by
 subst hK
 intro pins s σ H xs us Q I r h
 rcases h with h | ⟨p,kvs,rfl,ea,q⟩ | ⟨x,rfl,hx,q⟩
 ·exact call_list_of pins s σ H xs us Q I r h
 ·obtain ⟨u,rfl,ru⟩:=qbr r
  cases ru
  obtain ⟨hz,hs,vs,rv,d⟩:=(show ObjOk X.prog X.w H s.heap p (.dK kvs) from I.hok p _ ea)
  obtain ⟨ep,hat⟩:=d.dictAt
  have hl:kvs.length=vs.length:=rv.length
  refine PySem.W.kdl_call (PySem.W.kdl_dict (knd:=jE X.prog X.w) (kvs:=vs) (ep:=ep) hs) (I.ok.hd hc) hat (by rw [← hl];exact hz) fun h' tk acc' c' kp e it=>?_
  obtain ⟨i1,i2⟩:=it
  have hv:Vals (kvs.map fun kv=>kV kv.1) acc'.toList:=by
   refine zW (by rw [ya,hl,← i1];simp) fun j y u h1 h2=>?_
   obtain ⟨k,x,h3,h4⟩:=i2 j u (by simpa using h2)
   rw [yd] at h1
   cases q1:kvs[j]? with
   | none=>rw [q1] at h1;cases h1
   | some kv =>
    rw [q1] at h1
    cases h1
    obtain ⟨q2,h5,h6,h7⟩:=qbk rv q1
    rw [h3] at h5
    cases h5
    have e1:kv.1=k:=h6
    show RelV (kV kv.1) u
    rw [e1]
    rcases jc (show qcf k u=true from h4) with ⟨i,t,rfl,rfl⟩ | ⟨z,t,rfl,rfl⟩
    ·exact ⟨t,rfl⟩
    ·exact ⟨t,rfl⟩
  refine ⟨.ref s.heap.objs.size,_,I.laid (t':=tk) kp (yh _) (show ObjOk X.prog X.w _ h' _ (.lst (kvs.map fun kv=>kV kv.1)) from ⟨by rw [ya];exact hz,acc'.toList,c',hv,by simpa using e⟩),rfl,q _ (I.hok.fresh (yh _))⟩
 ·obtain ⟨u,rfl,t,rfl⟩:=qbr r
  have hsz:x.cps.size≤sizeLine:=Nat.le_of_lt (qh hx)
  refine call_list_str (I.ok.hd hc) x t (fun h' tk acc' c' kp e it=>?_) hsz
  obtain ⟨i1,i2⟩:=it
  have hv:Vals (x.cps.toList.map fun c=>V.str ⟨#[c]⟩) acc'.toList:=by
   refine zW (by rw [ya];simp [i1]) fun j y u h1 h2=>?_
   obtain ⟨c,t',h3,rfl⟩:=i2 j u (by simpa using h2)
   rw [yd] at h1
   have h3':x.cps.toList[j]?=some c:=by simpa using h3
   rw [h3'] at h1
   cases h1
   exact ⟨t',rfl⟩
  refine ⟨.ref s.heap.objs.size,_,I.laid (t':=tk) kp (yh _) (show ObjOk X.prog X.w _ h' _ (.lst (x.cps.toList.map fun c=>V.str ⟨#[c]⟩)) from ⟨by rw [ya];simpa using hsz,acc'.toList,c',hv,by simpa using e⟩),rfl,q _ (I.hok.fresh (yh _))⟩
end
structure CMethOk (P:Program) (w:World) (K:yg) (mg:Str→Option Value) (base:Heap) (CX:CXT) (k:Nat) (C:Addr) (x m:Str) (ps:List Str) (sp:Sp):Prop where
 ex:∃ f fd,FnOk P w K mg base CX k f fd ps sp∧CMeth K C m f∧Binds K fd ps []
 mg_:mg x=some (.ref C)
section
variable {X:Cx} {k:Nat} {C:Addr} {ps:List Str} {sp:Sp} {x m:Str} {p pos apos:Pos} {e:Expr} {es:List Expr} {t:TA}
theorem zz (D:MakeOk X.prog X.w X.K X.mg X.base CX0 k C x ps sp) (hr:Room (k + 1) X.A) (ha:PA X (e::es) t) (hg:Gl X x:=by rfl) (hdb:(x==("__debug__":Str))=false:=by decide)
  (he:starEach (e::es) X.env=(false,eval e X.env)::starEach es X.env:=by rfl) (hpl:(backTo pos (starEach es X.env)).any (·.1)=false:=by rfl):PE X (.Call (.Name x p) (e::es) [] pos) (qem C sp [] E0 t):=by
 obtain ⟨f,fd,F,M,hb⟩:=D.ex
 exact pe_make M F hr hg D.mg_ hb .nil qC ha hdb he hpl
end
theorem own_eq_same {prog:Program} {w:World} {A:Around} {E:Value→Shared→Prop} {s:Shared} {K:yg} {x C:Addr} {ox:Obj} {od:Option Obj} {Q:Value→Shared→Prop} (hu:A.units < cLine) (X:K.In s.heap) (I:PySem.W.InstAt s.heap x ox C od)
  (hs:PySem.W.findIn K (.ref C) "__eq__"=some (some (.builtin "object.__eq__"))) (ho:PySem.W.mroIn K C (.type "object")=some true) (h:Q (.bool true) s):wpAny (model prog w) A (richCompare .Eq (.ref x) (.ref x)) Q E s:=by
 have call1:∀ {A':Around} {Q':Value→Shared→Prop},Q' (.bool true) s→wpAny (model prog w) A' (call (.builtin "object.__eq__") [.ref x,.ref x]) Q' E s:=fun {A' Q'} q=>by
  refine wpAny_call (codeAny_call_builtin PySem.F.slot_object_eq.plain PySem.F.entry_object_eq (@PySem.W.check_slot (model prog w) _ _ s "object.__eq__" "object" "__eq__" (.ref x) [.ref x] [] _ (by decide +kernel) (by decide +kernel) (I.type.andThen (PySem.W.looks_mroIn X ho)) (PySem.F.args_object_eq_2 _ _) ?_))
  refine wpAny_bind (wpAny_pure (wpAny_bind (wpAny_isSame_ref_self ?_)))
  exact wpAny_pure q
 have one:wpAny (model prog w) A (tryCompare (.ref x) "__eq__" (.ref x)) (fun r s'=>∃ v,r=some v∧Q v s') E s:=by
  unfold tryCompare
  refine wpAny_bind ?_
  simp only [callSpecialIfBound?,bindSpecialIfBound?]
  refine wpAny_holding (wpAny_bind (wpAny_bind (wpAny_bind (I.type.here ((PySem.W.looks_findIn X hs).here ?_)))))
  refine wpAny_bind (wpAny_askSetting (wpAny_ite ?_))
  have b:=PySem.F.slot_object_eq.bind (.ref x)
  have fin:wpAny (model prog w) A (call (.builtin "object.__eq__") ([.ref x]++[.ref x])>>=fun v=>pure (some v)) (fun r s'=>wpAny (model prog w) A (match r with | some .notImplemented | none=>pure none | some v=>pure (some v)) (fun r s'=>∃ v,r=some v∧Q v s') E s') E s:=
   wpAny_bind (call1 (wpAny_pure (wpAny_pure ⟨_,rfl,h⟩)))
  split
  ·exact wpAny_bind (wpAny_of_eq b (wpAny_pure fin))
  ·exact wpAny_tryCatch (wpAny_bind (wpAny_of_eq b (wpAny_pure fin)))
 unfold richCompare
 simp only [oneThing_ref]
 refine wpAny_holding (wpAny_bind (wpAny_cRoomFor hu ?_))
 refine wpAny_bind (I.type.here (wpAny_bind (I.type.here ?_)))
 rw [if_neg (by simp)]
 refine wpAny_bind (wpAny_pure ?_)
 simp only [Bool.false_eq_true,if_false]
 refine wpAny_bind (wpAny_mono one (fun r s' z=>?_) fun _ _ e=>e)
 obtain ⟨v,rfl,hq⟩:=z
 exact wpAny_pure hq
structure OEq (K:yg) (C:Addr):Prop where
 eq:PySem.W.findIn K (.ref C) "__eq__"=some (some (.builtin "object.__eq__"))
 ob:PySem.W.mroIn K C (.type "object")=some true
def qfF (K:yg):R2:=fun x y H Q=>qep K false x y H Q∨∃ a C dx fs,x=.ref a∧y=.ref a∧H a=some (.ins C dx fs)∧OEq K C∧Q (.bl true) H
theorem k_eqW {X:Cx} {K:yg} (hK:X.K=K) (hu:X.A.units + 100 < cLine):OpR X (compareOp .Eq) (qfF K):=by
 subst hK
 intro pins s σ H x y u v Q I rx ry h
 rcases h with h | ⟨a,C,dx,fs,rfl,rfl,ea,oe,q⟩
 ·exact k_eqU rfl hu pins s σ H x y u v Q I rx ry h
 ·cases rx;cases ry
  obtain ⟨mA,O,_⟩:=qaE I.hok ea
  obtain ⟨od,J,_⟩:=O.look
  exact own_eq_same (by omega) I.kIn J oe.eq oe.ob ⟨.bl true,H,I,rfl,q⟩
theorem jz {X:Cx}:MtR X "list.append" qdi:=mt_append
theorem qbl {X:Cx}:MtR X "list.extend" qdj:=mt_extend
theorem qb3 {X:Cx}:MtR X "list.pop" qdY:=mt_popAt
section
variable {D:Ends} {σ:St} {H:Hp} {Q:VK} {t u:TS} {te ta tb tc:TE} {tas:TA} {K:yg} {sp:Sp} {E:XK} {EK:St→XK} {C:Addr} {f m:Str}
theorem vFldU (h:ta σ H fun x H1=>(∃ a C dx fs v,x=.ref a∧H1 a=some (.ins C dx fs)∧Cls K C∧NoAttr K C f∧fs.lookup f=some v∧Q v H1) ∨
 (∃ a C dx fs v,x=.ref a∧IsX H1 a C (some dx)∧XAt K C∧NoAttr K C f∧H1 dx=some (.xd fs)∧fs.lookup f=some v∧Q v H1)):qeN K ta f σ H Q:=h
theorem vSFldU (h:te σ H fun y H1=>ta σ H1 fun x H2=>(∃ a C dx fs,x=.ref a∧H2 a=some (.ins C dx fs)∧Cls K C∧NoAttr K C f∧fs.length < 1000∧D.nx σ (upd H2 a (.ins C dx (qI f y fs)))) ∨
 (∃ a C,x=.ref a∧H2 a=some (XN a C none)∧XAt K C∧NoAttr K C f∧∀ dx,H2 dx=none→D.nx σ (upd (upd H2 dx (.xd [(f,y)])) a (XN a C (some dx))))):qeO K ta te f D σ H:=h
theorem vXMake (h:tas σ H fun vs H1=>vs.length≤1000∧∀ x,H1 x=none→sp (.ref x::vs) (upd H1 x (XN x C none)) (fun v H2=>v=.non∧Q (.ref x) H2) E):tXMake C sp E tas σ H Q:=h
theorem vMake (h:tas σ H fun vs H1=>∀ x dx,H1 x=none→H1 dx=none→dx≠x→sp (.ref x::(vs++[])) (upd (upd H1 dx (.own x)) x (.ins C dx [])) (fun v H2=>v=.non∧Q (.ref x) H2) E):qem C sp [] E tas σ H Q:=h
theorem vMeth (h:ta σ H fun x H1=>∃ a dx fs,x=.ref a∧H1 a=some (.ins C dx fs)∧fs.lookup m=none∧tas σ H1 fun vs H2=>sp (x::(vs++[])) H2 Q E):qdc C m sp [] E ta tas σ H Q:=h
theorem vVinit (h:tas σ H fun vs H1=>∃ a C y,vs=[.ref a,y]∧H1 a=some (XN a C none)∧XAt K C∧Q .non H1):tVinit K tas σ H Q:=h
theorem vCallS (h:tas σ H fun vs H1=>sp vs H1 Q (EK σ)):tCallS sp EK tas σ H Q:=h
theorem vMethS (h:ta σ H fun x H1=>∃ a dx fs,x=.ref a∧H1 a=some (.ins C dx fs)∧fs.lookup m=none∧tas σ H1 fun vs H2=>sp (x::vs) H2 Q (EK σ)):tMethS C m sp EK ta tas σ H Q:=h
theorem vMakeS (h:tas σ H fun vs H1=>∀ x dx,H1 x=none→H1 dx=none→dx≠x→sp (.ref x::vs) (upd (upd H1 dx (.own x)) x (.ins C dx [])) (fun v H2=>v=.non∧Q (.ref x) H2) (EK σ)):tMakeS C sp EK tas σ H Q:=h
theorem vRaise (h:te σ H fun x H1=>∃ a C dx,x=.ref a∧H1 a=some (XN a C dx)∧XAt K C∧EK σ (.ref C) dx (upd H1 a (XO a C dx))):tRaise K EK te D σ H:=h
theorem qdR {x y:V} {t cv:Value} {b:Bool} (ty:TyX K H x t) (hy:qb0 y=some cv) (hb:PySem.W.kitOne K t cv=some b) (h:Q (.bl b) H):qeP K [x,y] H Q:=⟨x,y,t,cv,b,rfl,ty,hy,hb,h⟩
end
section
variable {prog:Program} {w:World} {A:Around} {E:Value→Shared→Prop} {s:Shared}
theorem none_dict {a:Addr} {Q:Value→Shared→Prop} (hT:s.TypeIs (.ref a) "dict") (hu:A.units < cLine) (h:Q (.bool false) s):wpAny (model prog w) A (richCompare .Eq .none (.ref a)) Q E s:=by
 refine SeqAt.rc_eq_decline_or (k:=false) rfl hT (by decide) PySem.F.sub_dict_NoneType PySem.F.slot_NoneType_eq PySem.F.slot_dict_eq_refl
  (fun _ hq=>call_gives PySem.F.slot_NoneType_eq rfl PySem.F.entry_NoneType_eq (PySem.F.args_NoneType_eq_2 _ _) (SeqAt.NoneType___eq___none_ref_0 a) hq) (fun Q' hq=>?_) (fun _ hq=>wpAny_of_eq (rfl:isSame .none (.ref a)=pure false) hq) (.inr hu) h
 refine wpAny_call_entry PySem.F.slot_dict_eq_refl hT PySem.F.entry_dict_eq ?_ (PySem.F.args_dict_eq_2 _ _)
 show wpAny _ _ (Builtin.Dict.dictSlotArgs "__eq__" ⟨[.ref a,.none],[]⟩>>=_) _ _ s
 refine wpAny_bind ?_
 unfold Builtin.Dict.dictSlotArgs
 refine wpAny_bind (wpAny_notOrdered_dict hT ?_)
 show wpAny _ _ (pure (Value.ref a,Value.none)) _ _ s
 refine wpAny_pure ?_
 refine wpAny_bind (wpAny_isInstance (T:="NoneType") (b:=false) rfl PySem.F.sub_NoneType_dict ?_)
 simp only [Bool.not_false,if_true]
 exact wpAny_bind (wpAny_rule (wpAny_pure ⟨_,rfl,hq⟩))
theorem none_own {K:yg} {x C:Addr} {ox:Obj} {od:Option Obj} {Q:Value→Shared→Prop} (hu:A.units < cLine) (X:K.In s.heap) (I:PySem.W.InstAt s.heap x ox C od) (oe:OEq K C) (hn:PySem.W.mroIn K C (.type "NoneType")=some false)
  (h:Q (.bool false) s):wpAny (model prog w) A (richCompare .Eq .none (.ref x)) Q E s:=by
 have t1:wpAny (model prog w) A (tryCompare .none "__eq__" (.ref x)) (fun r s'=>r=none∧s'=s) E s:=by
  unfold tryCompare
  refine wpAny_bind ?_
  simp only [callSpecialIfBound?,bindSpecialIfBound?]
  refine wpAny_holding (wpAny_bind (wpAny_bind ?_))
  refine wpAny_bind (wpAny_of_eq (rfl:typeOf .none=pure (.type "NoneType")) ?_)
  refine wpAny_of_eq PySem.F.slot_NoneType_eq.lookup ?_
  refine wpAny_bind (wpAny_askSetting (wpAny_ite ?_))
  have fin:wpAny (model prog w) A (call (.builtin "NoneType.__eq__") ([.none]++[.ref x])>>=fun v=>pure (some v)) (fun r s'=>wpAny (model prog w) A (match r with | some .notImplemented | none=>pure none | some v=>pure (some v)) (fun r s'=>r=none∧s'=s) E s') E s:=
   wpAny_bind (call_gives PySem.F.slot_NoneType_eq rfl PySem.F.entry_NoneType_eq (PySem.F.args_NoneType_eq_2 _ _) (SeqAt.NoneType___eq___none_ref_0 x) (wpAny_pure (wpAny_pure ⟨rfl,rfl⟩)))
  split
  ·exact wpAny_bind (wpAny_of_eq (PySem.F.slot_NoneType_eq.bind .none) (wpAny_pure fin))
  ·exact wpAny_tryCatch (wpAny_bind (wpAny_of_eq (PySem.F.slot_NoneType_eq.bind .none) (wpAny_pure fin)))
 have t2:wpAny (model prog w) A (tryCompare (.ref x) "__eq__" .none) (fun r s'=>r=none∧s'=s) E s:=by
  unfold tryCompare
  refine wpAny_bind ?_
  simp only [callSpecialIfBound?,bindSpecialIfBound?]
  refine wpAny_holding (wpAny_bind (wpAny_bind (wpAny_bind (I.type.here ((PySem.W.looks_findIn X oe.eq).here ?_)))))
  refine wpAny_bind (wpAny_askSetting (wpAny_ite ?_))
  have b:=PySem.F.slot_object_eq.bind (.ref x)
  have c:∀ {Q':Value→Shared→Prop},Q' .notImplemented s→wpAny (model prog w) A (call (.builtin "object.__eq__") [.ref x,.none]) Q' E s:=fun {Q'} q=>by
   refine wpAny_call (codeAny_call_builtin PySem.F.slot_object_eq.plain PySem.F.entry_object_eq (@PySem.W.check_slot (model prog w) _ _ s "object.__eq__" "object" "__eq__" (.ref x) [.none] [] _ (by decide +kernel) (by decide +kernel) (I.type.andThen (PySem.W.looks_mroIn X oe.ob)) (PySem.F.args_object_eq_2 _ _) ?_))
   refine wpAny_bind (wpAny_pure (wpAny_bind (wpAny_of_eq (rfl:isSame (.ref x) .none=pure false) ?_)))
   exact wpAny_pure q
  have fin:wpAny (model prog w) A (call (.builtin "object.__eq__") ([.ref x]++[.none])>>=fun v=>pure (some v)) (fun r s'=>wpAny (model prog w) A (match r with | some .notImplemented | none=>pure none | some v=>pure (some v)) (fun r s'=>r=none∧s'=s) E s') E s:=
   wpAny_bind (c (wpAny_pure (wpAny_pure ⟨rfl,rfl⟩)))
  split
  ·exact wpAny_bind (wpAny_of_eq b (wpAny_pure fin))
  ·exact wpAny_tryCatch (wpAny_bind (wpAny_of_eq b (wpAny_pure fin)))
 unfold richCompare
 refine wpAny_holding (wpAny_bind (wpAny_cRoomFor hu ?_))
 show wpAny _ _ (typeOf .none>>=_) _ _ _
 refine wpAny_bind (wpAny_of_eq (rfl:typeOf .none=pure (.type "NoneType")) (wpAny_bind (I.type.here ?_)))
 rw [if_pos (by rfl)]
 refine wpAny_bind ((PySem.W.looks_mroIn X hn).here ?_)
 simp only [Bool.false_eq_true,if_false]
 refine wpAny_bind (wpAny_mono t1 (fun r s' z=>?_) fun _ _ e=>e)
 obtain ⟨rfl,rfl⟩:=z
 simp only [Bool.not_false,if_true]
 refine wpAny_bind (wpAny_mono t2 (fun r s' z=>?_) fun _ _ e=>e)
 obtain ⟨rfl,rfl⟩:=z
 refine wpAny_bind (wpAny_rule (wpAny_bind (wpAny_of_eq (rfl:isSame .none (.ref x)=pure false) (wpAny_pure h))))
end
def rNoneRef (K:yg):R2:=fun x y H Q=>∃ a,x=.non∧y=.ref a∧((∃ xs,SqL K H a xs∨SqT K H a xs)∨(∃ kvs,H a=some (.dK kvs))∨∃ C dx fs,H a=some (.ins C dx fs)∧OEq K C∧PySem.W.mroIn K C (.type "NoneType")=some false)∧Q (.bl false) H
def qe7 (K:yg):R2:=fun x y H Q=>qfF K x y H Q∨rNoneRef K x y H Q
theorem qaj {X:Cx} {K:yg} (hK:X.K=K) (hu:X.A.units + 100 < cLine):OpR X (compareOp .Eq) (qe7 K):=by
 intro pins s σ H x y u v Q I rx ry h
 rcases h with h | ⟨a,rfl,rfl,h,q⟩
 ·exact k_eqW hK hu pins s σ H x y u v Q I rx ry h
 ·subst hK
  cases rx;cases ry
  have fin:EP X pins σ Q (.bool false) s:=⟨.bl false,H,I,rfl,q⟩
  rcases h with ⟨xs,hl | hl⟩ | ⟨kvs,ea⟩ | ⟨C,dx,fs,ea,oe,hn⟩
  ·obtain ⟨its,r,pl,_⟩:=I.list hl
   exact SeqAt.RcAt.none_list pl.isList (by omega) _ _ _ _ fin
  ·obtain ⟨its,r,pl,_⟩:=I.tuple hl
   exact SeqAt.RcAt.none_tuple pl (by omega) _ _ _ _ fin
  ·obtain ⟨_,_,vs,_,d⟩:=(show ObjOk X.prog X.w H s.heap a (.dK kvs) from I.hok a _ ea)
   exact none_dict d.typeIs (by omega) fin
  ·obtain ⟨mA,O,_⟩:=qaE I.hok ea
   obtain ⟨od,J,_⟩:=O.look
   exact none_own (by omega) I.kIn J oe hn fin
def XL (K:yg) (C:Addr) (bm:List Value):Prop:=∃ nm qn N bs hdct sn sub ab col dd k0 k1 k2 k3 k5,K.lookup C=some (excClassObj nm qn C N bs bm hdct sn sub ab col dd k0 k1 k2 k3 k5 "ValueError.__new__")
section
variable {K:yg} {C D:Addr} {bm bn:List Value}
end
end L2
namespace HT
open PySem PySem.Spec PyProof.Rows
section
variable {prog:Program} {w:World} {A:Around} {E:Value→Shared→Prop} {s:Shared}
theorem sliceApplied_rev {sl:Addr} {vs:Value} {Q:Int×Int×Nat→Shared→Prop} (hs:s.heap.IsSliceOf sl .none .none vs) (ps:IsPart vs (some (-1)))
  (h:Q (1,-1,2) s):wpAny (model prog w) A (Builtin.Slice.sliceApplied (.ref sl) (pure ((2:Nat):Int))) Q E s:=by
 obtain ⟨os,hos,hcs,hds⟩:=id hs
 unfold Builtin.Slice.sliceApplied Builtin.Slice.sliceFields
 refine wpAny_bind (wpAny_bind (wpAny_field hos hds (x:=.none) rfl (wpAny_bind (wpAny_field hos hds (x:=.none) rfl (wpAny_bind (wpAny_field hos hds (x:=vs) rfl (wpAny_pure ?_)))))))
 refine wpAny_bind (qaF ps ?_)
 show wpAny _ _ (if ((-1:Int)==0)=true then _ else _) _ _ s
 rw [if_neg (by decide)]
 refine wpAny_bind (slicePart_none (wpAny_bind (slicePart_none (wpAny_bind (wpAny_pure ?_)))))
 exact wpAny_pure h
theorem getItem_pair_rev {t sl:Addr} {x y:Value} {vs:Value} {Q:Value→Shared→Prop} (ht:IsTup s.heap t #[x,y]) (hs:s.heap.IsSliceOf sl .none .none vs) (ps:IsPart vs (some (-1)))
  (h:Q (.ref s.heap.objs.size) { s with heap:=s.heap.push { cls:=.type "tuple",data:=.seq #[y,x] } }):wpAny (model prog w) A (getItem (.ref t) (.ref sl)) Q E s:=by
 have htake:sizeOk (.seq #[y,x]):=by
  show 2≤sizeLine
  decide
 obtain ⟨os,hos,hcs,hds⟩:=id hs
 have hTs:s.TypeIs (.ref sl) "slice":=⟨os,hos,hcs⟩
 unfold getItem
 try with_reducible refine wpAny_holding ?_
 first | refine wpAny_bind (wpAny_pure ?_) | skip
 refine wpAny_bind (wpAny_sequenceKey ht.typeIs (by decide) ?_)
 refine wpAny_bind (wpAny_callSpecial?_slot (name:=Str.ofString "__getitem__") ht.typeIs PyProof.Rows.slot_tuple_getitem
  (wpAny_call_entry PyProof.Rows.slot_tuple_getitem ht.typeIs entry_tuple_getitem ?_ (args_tuple_getitem _ _)))
 show wpAny _ _ (Builtin.Tuple.tupleItemsOf (.ref t)>>=_) _ _ s
 refine wpAny_bind (tupleItemsOf_ ht ?_)
 refine wpAny_bind (wpAny_typeOf hTs ?_)
 rw [if_pos (by decide)]
 refine wpAny_bind (sliceApplied_rev hs ps ?_)
 show wpAny _ _ (if ((1:Int)==0&&(-1:Int)==1&&2==2)=true then _ else _) _ _ s
 rw [if_neg (by decide)]
 first
  | exact wpAny_bind (m:=Builtin.Tuple.tupleExact _) (wpAny_newObj_type (wpAny_pure ⟨_,rfl,wpAny_pure h⟩) htake)
  | exact wpAny_bind (m:=Builtin.Tuple.tupleExact _) (wpAny_newObj_type (wpAny_bind (wpAny_pure (wpAny_pure ⟨_,rfl,wpAny_pure h⟩))) htake)
  | exact wpAny_bind (wpAny_bind (m:=Builtin.Tuple.tupleExact _) (wpAny_newObj_type (wpAny_pure (wpAny_pure ⟨_,rfl,wpAny_pure h⟩)) htake))
  | exact wpAny_bind (wpAny_bind (m:=Builtin.Tuple.tupleExact _) (wpAny_newObj_type (wpAny_pure ⟨_,rfl,wpAny_pure h⟩) htake))
end
end HT
namespace L2
open PySem PySem.Spec PyProof.Rows
def qfG (K:yg) (te:TE) (ts:TO):TE:=fun σ H Q=>te σ H fun x H1=>ts σ H1 fun o H2=>o=some (-1)∧∃ a y z,x=.ref a∧SqT K H2 a [y,z]∧∀ p,H2 p=none→Q (.ref p) (upd H2 p (.tup [z,y]))
theorem vRev {K:yg} {te:TE} {ts:TO} {σ:St} {H:Hp} {Q:VK} (h:te σ H fun x H1=>ts σ H1 fun o H2=>o=some (-1)∧∃ a y z,x=.ref a∧SqT K H2 a [y,z]∧∀ p,H2 p=none→Q (.ref p) (upd H2 p (.tup [z,y]))):qfG K te ts σ H Q:=h
section
variable {X:Cx} {K:yg} {e st:Expr} {te:TE} {ts:TO} {p2 pos:Pos}
theorem pe_rev (hK:X.K=K) (he:PE X e te) (hs:PO X (some st) ts):PE X (.Subscript e (.Slice none none (some st) p2) pos) (qfG K te ts):=by
 subst hK
 intro pins s σ H Q I h
 refine Subscript_ (thn (he pins s σ H _ I h) fun v s1 ⟨x,H1,I1,r1,q1⟩=>?_)
 refine wpAny_Slice ?_
 rw [evalPart_none]
 refine wpAny_pure ?_
 refine wpAny_pure ?_
 refine thn (hs pins s1 σ H1 _ I1 q1) fun vt s2 ⟨o,H2,I2,pt,eo,a,y,z,ex,hx,q⟩=>?_
 subst eo ex
 cases r1
 have I4:Inv X pins σ H2 { s2 with heap:=s2.heap.push { cls:=.type "slice",data:=.fields #[.none,.none,vt] } }:=I2.kept (t':=s2.toks) fun b ob q=>Heap.get?_push_of_some _ q
 obtain ⟨its,r,ht,hz⟩:=I4.tuple hx
 obtain ⟨u1,u2,rfl,ru1,ru2⟩:=qdb r
 show wpAny (model X.prog X.w) X.A (subscriptTail e (.Slice none none (some st) p2) (.ref a) (.ref s2.heap.objs.size)) (EP X pins σ Q) X.xe { s2 with heap:=s2.heap.push { cls:=.type "slice",data:=.fields #[.none,.none,vt] } }
 refine tail_any (ops:=[.ref a,.ref s2.heap.objs.size]) ht.typeIs PyProof.Rows.slot_tuple_getitem.lookup (HT.getItem_pair_rev ht (Heap.IsSliceOf.new ..) pt ?_) (by with_unfolding_all rfl)
 refine ⟨.ref _,_,I4.laid (t':=s2.toks) (o:=.tup [z,y]) (fun b ob q=>Heap.get?_push_of_some _ q) (yh _) ?_,rfl,q _ (I4.hok.fresh (yh _))⟩
 exact ⟨by show 2≤sizeLine;decide,_,.cons ru2 (.cons ru1 .nil),IsTup.new _ _⟩
end
theorem Inv.turnedL {X:Cx} {pins:List (Addr×Obj)} {σ:St} {H:Hp} {s:Shared} {h':Heap} {t':Nat} {fp:List Addr} (I:Inv X pins σ H s) (k:∀ b o,b∉fp→s.heap.get? b=some o→h'.get? b=some o) (hf:∀ b∈fp,qci X pins H b):Inv X pins σ H { s with heap:=h',toks:=t' }:=by
 have nit:∀ b u,H b=some u→b∉fp:=fun b u e z=>by rw [(hf b z).1] at e;cases e
 have hL:X.env.locals∉fp:=fun z=>(hf _ z).2.1 rfl
 refine I.step (g':=s.gens) (d':=s.drawn) (ch:=fp) (fun b hb=>?_) (fun b o _ _ hc e _=>k b o hc e) (fun b o _ _ hc e _=>⟨o.slots,k b o hc e⟩) (fun _ _ _ _ n=>n)
  (fun b o hc e=>⟨o,k b o hc e⟩) (fun _ _ e=>e) (fun _ _ _ e=>e) (fun b ps e=>⟨#[],by rw [e];simp⟩) (fun m hm=>?_) (fun b u e=>?_) I.bare
 ·obtain ⟨f0,f1,f2,f3,f4,f5⟩:=hf b hb
  exact ⟨f3,f1,f4,f5⟩
 ·obtain ⟨o,es,ep,ho,r⟩:=hm
  exact ⟨o,es,ep,k _ o hL ho,r⟩
 ·refine (I.hok b u e).stay (fun c v hc q=>k c v ?_ q) (fun _ q=>q) fun _ _ q=>q
  rcases hc with z | z
  ·rw [z];exact nit b u e
  ·exact nit c _ z
def Ite (K:yg) (a:Addr):It:=
 ⟨fun i H=>∃ xs x,SqL K H a xs∧xs[i]?=some x,fun i H x H'=>∃ t y,x=.ref t∧H t=none∧H'=upd H t (.tup [.int i,y])∧∀ xs,SqL K H a xs→xs[i]?=some y,fun i H=>∃ xs,SqL K H a xs∧xs.length≤i⟩
theorem push_some {h:Heap} {o v:Obj} {b:Addr} (e:(h.push o).get? b=some v) (ne:b≠h.objs.size):h.get? b=some v:=(Heap.get?_push_cases e).elim (fun z=>absurd z.1 ne) fun z=>z
def iEnum (K:yg) (ta:TA):TI:=fun σ H R=>ta σ H fun vs H1=>∃ a xs,vs=[.ref a]∧SqL K H1 a xs∧R (Ite K a) H1
theorem vEnum {K:yg} {tas:TA} {σ:St} {H:Hp} {R:It→Hp→Prop} (h:tas σ H fun vs H1=>∃ a xs,vs=[.ref a]∧SqL K H1 a xs∧R (Ite K a) H1):iEnum K tas σ H R:=h
section
variable {X:Cx}
end
end L2
namespace L2
open PySem PySem.Spec PyProof.Rows PySem.Builtin PySem.Builtin.Str
theorem qeQ {a c:Nat} (h:a + 100 < c):a + 1 < c:=by omega
theorem vDGet2 {td ty tx:TE} {σ:St} {H:Hp} {Q:VK} (h:td σ H fun x H1=>∃ a,x=.ref a∧IsD H1 a∧ty σ H1 fun y H2=>tx σ H2 fun z H3=>∃ o,DGet H3 a y o∧Q (o.getD z) H3):tDGet2 td ty tx σ H Q:=h
end L2
namespace L2
open PySem PySem.Spec PyProof.Rows
theorem eqV_strD (a b:Str):eqV (.str a) (.str b)=decide (a=b):=by
 have e:eqV (.str a) (.str b)=(a==b):=by simp [eqV]
 rw [e,Bool.eq_iff_iff,beq_iff_eq,decide_eq_true_iff]
theorem qb4:∀ (ys:List Str) (y:Str) (m:Nat) (hm:m < ys.length),m < ys.idxOf y→ys[m]≠y
 | [],_,_,hm,_=>by simp at hm
 | a::r,y,m,hm,h=>by
  rw [List.idxOf_cons] at h
  by_cases e:a=y
  ·subst e;simp at h
  ·have hb:(a==y)=false:=beq_eq_false_iff_ne.mpr e
   rw [hb] at h
   cases m with
   | zero=>exact e
   | succ k =>
    have hk:k < r.idxOf y:=by
     have h:k + 1 < r.idxOf y + 1:=h
     omega
    exact qb4 r y k (by simpa using hm) hk
section
variable {X:Cx} {K:yg}
def rIndex (K:yg):V→List V→Hp→VK→Prop:=fun x vs H Q=>∃ (p:Addr) (ys:List Str) (y:Str),x=.ref p∧vs=[.str y]∧SqL K H p (ys.map V.str)∧y∈ys∧Q (.int (ys.idxOf y:Nat)) H
theorem qa3 (hK:X.K=K):MtR X "list.index" (rIndex K):=by
 subst hK
 intro pins s σ H x vs v us Q I rx rv h
 obtain ⟨p,ys,y,rfl,rfl,hq,hy,q⟩:=h
 cases rx
 obtain ⟨u,rfl,ru⟩:=rv.one
 obtain ⟨its,r,pl,hz⟩:=I.list hq
 obtain ⟨⟨cls,dd,data,sl⟩,ho,hc,n,hd⟩:=id pl.isList
 simp only at hc hd
 subst hc hd
 have fs:(ys.map V.str).all qag=true:=by rw [List.all_map];exact List.all_eq_true.mpr fun _ _=>rfl
 have hlen:(ys.map V.str).length=its.length:=r.length
 rw [ya] at hlen
 have hj:ys.idxOf y < ys.length:=List.idxOf_lt_length_iff.mpr hy
 have at_:∀ (m:Nat) (hm:m < ys.length) (hm':m < its.toArray.size),eqU (.str y) its.toArray[m]=decide (ys[m]=y):=fun m hm hm'=>by
  have g:(ys.map V.str)[m]?=some (.str ys[m]):=by rw [yd,yb hm];rfl
  obtain ⟨w,hw,rw'⟩:=r.get g
  have e:its.toArray[m]=w:=by
   have:its.toArray[m]?=some w:=by simpa using hw
   rw [Array.getElem?_eq_getElem hm'] at this
   exact ym this
  rw [e,qdh rw' rfl,eqV_strD]
 have hi:ys.length≤sizeLine:=by rw [ya] at hz;exact hz
 have hsl:sizeLine < 2 ^ 63 - 1:=by decide
 refine call_meets PySem.F.slot_list_index ⟨_,ho,rfl⟩ PySem.F.entry_list_index (PySem.F.args_list_index_2 _ _)
  (SeqAt.list_indexAt p its.toArray n dd sl u (eqU (.str y)) (ys.idxOf y) (by simpa [← hlen] using hj) (by omega) ?_ ?_) ⟨ho,fun w hw=>zU ru rfl r fs w (by simpa using hw),.int _,H,I.tok _,⟨_,rfl⟩,q⟩
 ·rw [at_ _ hj]
  exact decide_eq_true (List.getElem_idxOf hj)
 ·intro m hm hlt
  rw [at_ m (by omega)]
  exact yl fun e=>qb4 ys y m (by omega) hlt e
end
theorem qb5 (xs:List V) (k:Nat):qcD xs none (some (k:Int))=xs.take k:=by
 unfold qcD
 rw [HT.sIx_none,HT.sIx_nat,List.drop_zero,Nat.sub_zero]
 by_cases h:k≤xs.length
 ·rw [Nat.min_eq_left h]
 ·rw [Nat.min_eq_right (by omega),List.take_of_length_le (yh _),List.take_of_length_le (by omega)]
theorem qb6 (xs:List V) (k:Nat):qcD xs (some (k:Int)) none=xs.drop k:=by
 unfold qcD
 rw [HT.sIx_none,HT.sIx_nat]
 by_cases h:k≤xs.length
 ·rw [Nat.min_eq_left h,List.take_of_length_le (by rw [List.length_drop];omega)]
 ·rw [Nat.min_eq_right (by omega),List.drop_length,List.drop_of_length_le (by omega)]
  simp
section
variable {X:Cx} {K:yg}
end
end L2
namespace HT
open PySem PySem.Spec PyProof.Rows
section
variable {prog:Program} {w:World} {A:Around} {E:Value→Shared→Prop} {s:Shared}
end
end HT
namespace L2
open PySem PySem.Spec PyProof.Rows
def tStep (K:yg) (te:TE) (ts:TO):TE:=fun σ H Q=>te σ H fun x H1=>ts σ H1 fun o H2=>∃ a y z,x=.ref a∧SqT K H2 a [y,z]∧((o=some (-1)∧∀ p,H2 p=none→Q (.ref p) (upd H2 p (.tup [z,y])))∨(o=some 1∧Q (.ref a) H2))
theorem vStep {K:yg} {te:TE} {ts:TO} {σ:St} {H:Hp} {Q:VK} (h:te σ H fun x H1=>ts σ H1 fun o H2=>∃ a y z,x=.ref a∧SqT K H2 a [y,z]∧((o=some (-1)∧∀ p,H2 p=none→Q (.ref p) (upd H2 p (.tup [z,y])))∨(o=some 1∧Q (.ref a) H2))):tStep K te ts σ H Q:=h
section
variable {X:Cx} {K:yg} {e st:Expr} {te:TE} {ts:TO} {p2 pos:Pos}
end
def FG (K:yg) (nm:Str) (st:Stmt):Prop:=∃ f fd,PySem.W.nsIn K mainGlobals nm=some (some (.ref f))∧Fun K nm nm st f fd
def FM (K:yg) (C:Addr) (m ql:Str) (st:Stmt):Prop:=∃ f fd,PySem.W.findIn K (.ref C) m=some (some (.ref f))∧PySem.W.isFn K (.ref f)=true∧Fun K m ql st f fd
structure XQ (K:yg) (C:Addr):Prop where
 xa:PySem.W.findIn K (.ref C) "__getattribute__"=some (some (.builtin "BaseException.__getattribute__"))
 xb:PySem.W.findIn K (.ref C) "__getattr__"=some none
 xd:PySem.W.mroIn K C (.type "BaseException")=some true
 xe:PySem.W.mroIn K C (.type "object")=some true
 xf:PySem.W.hasDictIn K C=true
 xg:PySem.W.findIn K (.ref C) "__class__"=some (some (.builtin "object.__class__"))
 xh:PySem.W.findIn K (.ref C) "__setattr__"=some (some (.builtin "object.__setattr__"))
 p:PySem.W.keepIn K (.ref C)=true
section
variable {P:Program} {w:World} {K:yg} {mg:Str→Option Value} {base h:Heap} {CX:CXT} {k:Nat} {sp:Sp} {st:Stmt} {f:Addr} {fd:FuncData} {ps:List Str} {nm m ql x:Str} {C:Addr}
abbrev BA (x ql:Str) (st:Stmt) (ps:List Str):Prop:=∀ (kV doc pm:Value) (an:Option Addr) (cdv ct:Value) (us:List Value),us.length=ps.length→bindArgs (PySem.W.fnOf x ql (qk st) (qj st) (qd st) .none kV doc pm an cdv ct) ⟨us,[]⟩=pure (ps.zip us)
theorem fg_mk (X:K.In h) (G:h.Ns mainGlobals mg) (a:PySem.W.nsIn K mainGlobals nm=some (some (.ref f))) (F:Fun K nm nm st f fd) (o:FnOk P w K mg base CX k f fd ps sp)
  (hb:BA nm nm st ps:=by first | (exact fun _ _ _ _ _ _ us hl=>(match us,hl with | [_],_=>rfl)) | (exact fun _ _ _ _ _ _ us hl=>(match us,hl with | [_,_],_=>rfl)) | (exact fun _ _ _ _ _ _ us hl=>(match us,hl with | [_,_,_],_=>rfl)) | (exact fun _ _ _ _ _ _ us hl=>(match us,hl with | [_,_,_,_],_=>rfl))) :
  DefOk P w K mg base CX k nm ps sp:=⟨_,_,o,PySem.W.mg_of X G a,F.kp,F.binds hb⟩
theorem fm_mk (wcl:Cls K C) (a:PySem.W.findIn K (.ref C) m=some (some (.ref f))) (n:PySem.W.isFn K (.ref f)=true) (F:Fun K m ql st f fd) (o:FnOk P w K mg base CX k f fd ps sp)
  (hb:BA m ql st ps:=by first | (exact fun _ _ _ _ _ _ us hl=>(match us,hl with | [_],_=>rfl)) | (exact fun _ _ _ _ _ _ us hl=>(match us,hl with | [_,_],_=>rfl)) | (exact fun _ _ _ _ _ _ us hl=>(match us,hl with | [_,_,_],_=>rfl)) | (exact fun _ _ _ _ _ _ us hl=>(match us,hl with | [_,_,_,_],_=>rfl))) :
  MethOk P w K mg base CX k C m ps sp:=⟨⟨_,_,o,⟨a,n,F.kp⟩,F.binds hb⟩,wcl⟩
theorem fw_mk (X:K.In h) (G:h.Ns mainGlobals mg) (c:PySem.W.nsIn K mainGlobals x=some (some (.ref C))) (w5:PySem.W.makesIn K C=true) (w6:PySem.W.keepIn K (.ref C)=true) (a:PySem.W.findIn K (.ref C) "__init__"=some (some (.ref f))) (n:PySem.W.isFn K (.ref f)=true) (F:Fun K "__init__" ql st f fd) (o:FnOk P w K mg base CX k f fd ps sp)
  (hb:BA "__init__" ql st ps:=by first | (exact fun _ _ _ _ _ _ us hl=>(match us,hl with | [_],_=>rfl)) | (exact fun _ _ _ _ _ _ us hl=>(match us,hl with | [_,_],_=>rfl)) | (exact fun _ _ _ _ _ _ us hl=>(match us,hl with | [_,_,_],_=>rfl))) :
  MakeOk P w K mg base CX k C x ps sp:=⟨⟨_,_,o,⟨w5,a,n,w6⟩,F.binds hb⟩,PySem.W.mg_of X G c⟩
end
end L2
namespace HT
open PySem PySem.Spec PyProof.Rows
section
variable {prog:Program} {w:World} {A:Around} {E:Value→Shared→Prop} {s:Shared}
end
end HT
namespace L2
open PySem PySem.Spec PyProof.Rows
section
variable {X:Cx} {K:yg} {pos p:Pos} {x:Str}
end
section
variable {X:Cx} {K:yg} {e lo st:Expr} {te:TE} {tl ts:TO} {p2 pos:Pos}
def qfH (K:yg) (te:TE):TI:=fun σ H R=>te σ H fun v H1=>∃ a xs,v=.ref a∧SqL K H1 a xs∧R (Itl K a) H1
theorem qeq {K:yg} {te:TE} {σ:St} {H:Hp} {R:It→Hp→Prop} (h:te σ H fun v H1=>∃ a xs,v=.ref a∧SqL K H1 a xs∧R (Itl K a) H1):qfH K te σ H R:=h
theorem qdr {tg:Expr} (hK:X.K=K) (he:PE X e te):PI X tg e (qfH K te):=by
 subst hK
 intro pins s σ H R I h
 refine thn (he pins s σ H _ I h) fun v s1 ⟨y,H1,I1,r1,a,xs,ey,hq,q⟩=>?_
 subst ey
 cases r1
 have fp:∀ b∈[s1.heap.objs.size],qci X pins H1 b:=fun b hb=>by
  have e:b=s1.heap.objs.size:=by simpa using hb
  subst e
  exact I1.fpOk (yh _) (I1.hok.fresh (yh _))
 obtain ⟨its,rv,p,hz⟩:=I1.list hq
 exact wpAny_pyIter_list p.isList ⟨s1.heap.objs.size,[s1.heap.objs.size],_,_,H1,rfl,I1.kept (t':=s1.toks) fun b o e=>Heap.get?_push_of_some _ e,qbJ a _,⟨_,Heap.get?_push_size _ rfl,rfl,rfl⟩,fp,q⟩
end
def Itz (K:yg) (a b:Addr):It:=
 ⟨fun i H=>∃ xs ys x y,SqL K H a xs∧SqL K H b ys∧xs[i]?=some x∧ys[i]?=some y,fun i H v H'=>∃ t x y,v=.ref t∧H t=none∧H'=upd H t (.tup [x,y])∧(∀ xs,SqL K H a xs→xs[i]?=some x)∧∀ ys,SqL K H b ys→ys[i]?=some y,fun i H=>∃ xs ys,SqL K H a xs∧SqL K H b ys∧(xs.length≤i∨ys.length≤i)⟩
def tnZ (z TI TO i1 i2 a b:Addr) (i:Nat) (h:Heap):Prop:=IsZip h z TI TO .none∧IsPair h TI (.ref i1) (.ref i2)∧(∃ u v,IsPair h TO u v)∧h.IsListIter i1 a i∧h.IsListIter i2 b i
theorem turn_zip {P:Program} {w:World} {K:yg} {es:List Expr} {x1} {pos:Pos} (a b z TI TO i1 i2:Addr) (D:ZipApart z TI TO i1 i2 a b):Turn P w K (.Tuple es x1 pos) (Itz K a b) [z,TI,TO,i1,i2] z (tnZ z TI TO i1 i2 a b) where
 mem:=by simp
 obj:=fun i h st c hc=>by
  obtain ⟨hz,hTI,⟨u,v,hTO⟩,⟨o1,e1,c1,d1⟩,⟨o2,e2,c2,d2⟩⟩:=st
  simp only [List.mem_cons,List.not_mem_nil,or_false] at hc
  rcases hc with rfl | rfl | rfl | rfl | rfl
  ·exact ⟨_,hz,fun v z=>by have z':Data.fields _=Data.cell v:=z;cases z'⟩
  ·exact ⟨_,hTI,fun v z=>by have z':Data.seq _ _=Data.cell v:=z;cases z'⟩
  ·exact ⟨_,hTO,fun v z=>by have z':Data.seq _ _=Data.cell v:=z;cases z'⟩
  ·exact ⟨o1,e1,fun v z=>by rw [d1] at z;cases z⟩
  ·exact ⟨o2,e2,fun v z=>by rw [d2] at z;cases z⟩
 keep:=fun i h h' st k=>by
  obtain ⟨hz,hTI,⟨u,v,hTO⟩,h1,h2⟩:=st
  exact ⟨k z (by simp) _ hz,k TI (by simp) _ hTI,⟨u,v,k TO (by simp) _ hTO⟩,h1.at fun o x=>k i1 (by simp) o x,h2.at fun o x=>k i2 (by simp) o x⟩
 item:=by
  intro X hP hw hK hc i pins s σ H E I hf st hg
  subst hP hw hK
  obtain ⟨hz,hTI,⟨u,v,hTO⟩,h1,h2⟩:=st
  obtain ⟨xs,ys,x,y,hq,hq2,hx,hy⟩:=hg
  obtain ⟨its,rv,p,_⟩:=I.list hq
  obtain ⟨its2,rv2,p2,_⟩:=I.list hq2
  obtain ⟨u1,hu1,ru1⟩:=rv.get hx
  obtain ⟨u2,hu2,ru2⟩:=rv2.get hy
  refine wpAny_pyNext_zip_item D hz hTI hTO h1 h2 p.isList p2.isList (x:=u1) (y:=u2) (by simpa using hu1) (by simpa using hu2) fun h' hz' hTO' h1' h2' hT hsz hk=>?_
  refine ⟨_,rfl,wpAny_letOwnedTupleGo_zip hz' fun h3 hz3 hs3=>?_⟩
  have fre:H s.heap.objs.size=none:=I.hok.fresh (yh _)
  have lt:∀ {c o},s.heap.get? c=some o→s.heap.objs.size≠c:=fun e=>Nat.ne_of_gt (Heap.lt_size e)
  have nz:=lt hz
  have nTI:=lt hTI
  have nTO:=lt hTO
  have n1:s.heap.objs.size≠i1:=by obtain ⟨_,e,_⟩:=h1;exact lt e
  have n2:s.heap.objs.size≠i2:=by obtain ⟨_,e,_⟩:=h2;exact lt e
  have I1:Inv X pins σ (upd H s.heap.objs.size (.tup [x,y])) { s with heap:=s.heap.push { cls:=.type "tuple",data:=.seq #[u1,u2] },toks:=s.toks }:=
   I.laid (fun b u e=>Heap.get?_push_of_some _ e) (yh _) ⟨by show 2≤sizeLine;decide,[u1,u2],.cons ru1 (.cons ru2 .nil),⟨_,Heap.get?_push_size _ rfl,rfl,_,rfl⟩⟩
  have hf1:∀ c∈[z,TI,TO,i1,i2],qci X pins (upd H s.heap.objs.size (.tup [x,y])) c:=fun c hc=>by
   obtain ⟨f0,f⟩:=hf c hc
   refine ⟨?_,f⟩
   rw [qg]
   ·exact f0
   ·simp only [List.mem_cons,List.not_mem_nil,or_false] at hc
    rcases hc with rfl | rfl | rfl | rfl | rfl
    ·exact nz.symm
    ·exact nTI.symm
    ·exact nTO.symm
    ·exact n1.symm
    ·exact n2.symm
  have kk:∀ c o,c∉[z,TI,TO,i1,i2]→(s.heap.push { cls:=.type "tuple",data:=.seq #[u1,u2] }).get? c=some o→h3.get? c=some o:=fun c o hc e=>by
   simp only [List.mem_cons,List.not_mem_nil,or_false,not_or] at hc
   refine hs3.extBut _ _ hc.1 ?_
   by_cases hz:c=s.heap.objs.size
   ·subst hz
    rw [Heap.get?_push_size _ rfl] at e
    cases e
    exact hT
   ·exact hk c o hc.1 hc.2.2.1 hc.2.2.2.1 hc.2.2.2.2 (push_some e hz)
  have I2:=I1.turnedL (h':=h3) (t':=s.toks) (fp:=[z,TI,TO,i1,i2]) kk hf1
  refine ⟨.ref s.heap.objs.size,_,I2,rfl,⟨_,x,y,rfl,fre,rfl,fun xs' hx'=>by rw [I.list_inj hx' hq];exact hx,fun ys' hy'=>by rw [I.list_inj hy' hq2];exact hy⟩,⟨hz3,?_,⟨_,_,hs3.extBut _ _ D.TOz hTO'⟩,h1'.extBut hs3.extBut D.i1z,h2'.extBut hs3.extBut D.i2z⟩,fun c hc=>(hf1 c hc).1⟩
  exact hs3.extBut _ _ D.TIz (hk _ _ D.TIz D.TITO D.TIi1 D.TIi2 hTI)
 done:=by
  intro X hP hw hK hc i pins s σ H E I hf st hg
  subst hP hw hK
  obtain ⟨hz,hTI,⟨u,v,hTO⟩,h1,h2⟩:=st
  obtain ⟨xs,ys,hq,hq2,he⟩:=hg
  obtain ⟨its,rv,p,_⟩:=I.list hq
  obtain ⟨its2,rv2,p2,_⟩:=I.list hq2
  have l1:=rv.length
  have l2:=rv2.length
  refine wpAny_pyNext_zip_end (I.ok.hd hc) D hz hTI hTO h1 h2 p.isList p2.isList (he.imp (fun e=>Array.getElem?_eq_none (by simp;omega)) fun e=>Array.getElem?_eq_none (by simp;omega)) fun h' hk=>⟨rfl,I.turnedL (t':=s.toks) (fp:=[z,TI,TO,i1,i2]) (fun c o hc e=>?_) hf⟩
  simp only [List.mem_cons,List.not_mem_nil,or_false,not_or] at hc
  exact hk c o hc.1 hc.2.2.1 hc.2.2.2.1 hc.2.2.2.2 e
 self:=fun _ _ _ _ _ st h=>wpAny_pyIter_zip st.1 h
theorem qcM:bootBuiltins "zip"=some (.type "zip"):=by decide +kernel
def qfI (K:yg) (ta:TA):TI:=fun σ H R=>ta σ H fun vs H1=>∃ a b xs ys,vs=[.ref a,.ref b]∧SqL K H1 a xs∧SqL K H1 b ys∧R (Itz K a b) H1
theorem vZip {K:yg} {tas:TA} {σ:St} {H:Hp} {R:It→Hp→Prop} (h:tas σ H fun vs H1=>∃ a b xs ys,vs=[.ref a,.ref b]∧SqL K H1 a xs∧SqL K H1 b ys∧R (Itz K a b) H1):qfI K tas σ H R:=h
theorem pi_zip {X:Cx} {K:yg} {a b:Expr} {ta:TA} {es:List Expr} {x1} {tp p pos:Pos} (hK:X.K=K) (hg:Gl X "zip") (hm:X.mg "zip"=none) (ha:PA X [a,b] ta) (hs:starEach [a,b] X.env=[(false,eval a X.env),(false,eval b X.env)]:=by rfl) (hs2:starEach [b] X.env=[(false,eval b X.env)]:=by rfl):PI X (.Tuple es x1 tp) (.Call (.Name "zip" p) [a,b] [] pos) (qfI K ta):=by
 subst hK
 intro pins s σ H R I h
 refine Call_ (qaR I hg hm qcM (PyProof.Rows.callWith_type1 (thn (ha pos pins s σ H _ I h) fun us s1 ⟨vs,H1,I1,r1,q1⟩=>?_) (by rw [hs,hs2]) (by rw [hs2];rfl)))
 obtain ⟨a,b,xs,ys,e,hq,hq2,q⟩:=q1
 subst e
 cases r1 with
 | cons r rr =>
  cases rr with
  | cons r2 rr =>
   cases rr
   cases r
   cases r2
   obtain ⟨its,rv,pl,_⟩:=I1.list hq
   obtain ⟨its2,rv2,pl2,_⟩:=I1.list hq2
   have lta:a < s1.heap.objs.size:=by obtain ⟨_,e,_⟩:=pl.isList;exact Heap.lt_size e
   have ltb:b < s1.heap.objs.size:=by obtain ⟨_,e,_⟩:=pl2.isList;exact Heap.lt_size e
   refine call_zip_2 pl.isList pl2.isList fun h' hz hTI hTO hi1 hi2 hsz hk=>wpAny_pyIter_zip hz ?_
   refine ⟨_,[s1.heap.objs.size + 4,s1.heap.objs.size + 2,s1.heap.objs.size + 3,s1.heap.objs.size,s1.heap.objs.size + 1],_,_,H1,rfl,I1.kept (t':=s1.toks) hk,turn_zip a b _ _ _ _ _ (PySem.W.ktu_apart _ _ _ lta ltb),⟨hz,hTI,⟨_,_,hTO⟩,hi1,hi2⟩,fun c hc=>?_,q⟩
   simp only [List.mem_cons,List.not_mem_nil,or_false] at hc
   rcases hc with rfl | rfl | rfl | rfl | rfl
   ·exact I1.fpOk (Nat.le_add_right _ _) (I1.hok.fresh (Nat.le_add_right _ _))
   ·exact I1.fpOk (Nat.le_add_right _ _) (I1.hok.fresh (Nat.le_add_right _ _))
   ·exact I1.fpOk (Nat.le_add_right _ _) (I1.hok.fresh (Nat.le_add_right _ _))
   ·exact I1.fpOk (yh _) (I1.hok.fresh (yh _))
   ·exact I1.fpOk (Nat.le_succ _) (I1.hok.fresh (Nat.le_succ _))
def qfJ (K:yg) (te:TE) (ts:TO):TE:=fun σ H Q=>te σ H fun x H1=>ts σ H1 fun o H2=>o=some (-1)∧∃ a xs,x=.ref a∧SqL K H2 a xs∧∀ p,H2 p=none→Q (.ref p) (upd H2 p (.lst xs.reverse))
theorem qfK {K:yg} {te:TE} {ts:TO} {σ:St} {H:Hp} {Q:VK} (h:te σ H fun x H1=>ts σ H1 fun o H2=>o=some (-1)∧∃ a xs,x=.ref a∧SqL K H2 a xs∧∀ p,H2 p=none→Q (.ref p) (upd H2 p (.lst xs.reverse))):qfJ K te ts σ H Q:=h
theorem qcN:∀ {xs:List V} {us:List Value},Vals xs us→Vals xs.reverse us.reverse
 | _,_,.nil=>.nil
 | _,_,.cons r t=>by
  rw [List.reverse_cons,List.reverse_cons]
  exact (qcN t).append (.cons r .nil)
section
variable {X:Cx} {K:yg} {e st:Expr} {te:TE} {ts:TO} {p2 pos:Pos}
theorem qd7 (hK:X.K=K) (he:PE X e te) (hs:PO X (some st) ts):PE X (.Subscript e (.Slice none none (some st) p2) pos) (qfJ K te ts):=by
 subst hK
 intro pins s σ H Q I h
 refine Subscript_ (thn (he pins s σ H _ I h) fun v s1 ⟨x,H1,I1,r1,q1⟩=>?_)
 refine wpAny_Slice ?_
 rw [evalPart_none]
 refine wpAny_pure ?_
 refine wpAny_pure ?_
 refine thn (hs pins s1 σ H1 _ I1 q1) fun vt s2 ⟨o,H2,I2,pt,eo,a,xs,ex,hx,q⟩=>?_
 subst eo ex
 cases r1
 have I4:Inv X pins σ H2 { s2 with heap:=s2.heap.push { cls:=.type "slice",data:=.fields #[.none,.none,vt] } }:=I2.kept (t':=s2.toks) fun b ob q=>Heap.get?_push_of_some _ q
 obtain ⟨its,r,ht,hz⟩:=I4.list hx
 have hlen:=r.length
 show wpAny (model X.prog X.w) X.A (subscriptTail e (.Slice none none (some st) p2) (.ref a) (.ref s2.heap.objs.size)) (EP X pins σ Q) X.xe { s2 with heap:=s2.heap.push { cls:=.type "slice",data:=.fields #[.none,.none,vt] } }
 refine tail_any (ops:=[.ref a,.ref s2.heap.objs.size]) ht.isList.typeIs slot_list_getitem.lookup (wpAny_getItem_list_slice ht.isList (Heap.IsSliceOf.new ..) .none .none pt (by decide) ?_ (by rw [List.size_toArray]<;>omega)) (by with_unfolding_all rfl)
 rw [PySem.W.krv_pick]
 refine ⟨.ref _,_,I4.laid (t':=s2.toks) (o:=.lst xs.reverse) (fun b ob q=>Heap.get?_push_of_some _ q) (yh _) ?_,rfl,q _ (I4.hok.fresh (yh _))⟩
 exact ⟨by rw [List.length_reverse];exact hz,_,0,qcN r,Heap.get?_push_size _ rfl⟩
end
section
variable {X:Cx} {a:Expr} {ta:TA} {p p2 pos pos2:Pos}
end
end L2
namespace L2
structure Sb (V:Nat→Prop):Prop where
 z:V 0
 a:∀ x y,V x→V y→V (x ^^^ y)
def jn (V:Nat→Prop) (x:Nat):Nat→Prop:=fun y=>V y∨V (y ^^^ x)
def Spn:List Nat→Nat→Prop
 | []=>fun y=>y=0
 | a::L=>jn (Spn L) a
open Classical in
def Bnd (b n v:Nat):Prop:=∀ i,v.testBit i=true→b≤i∧i < b + n
open Classical in
def swp:Nat→Nat→List Nat→Nat
 | 0,_,_=>0
 | n + 1,b,L=>match L.filter (fun v=>v.testBit b) with
  | []=>swp n (b + 1) L
  | p::t=>1 + swp n (b + 1) (L.filter (fun v=>!v.testBit b)++t.map fun v=>v ^^^ p)
open Classical in
def rk (L:List Nat):Nat:=swp 30 0 L
open Classical in
def les:Nat×Nat→List (Nat×Nat)→Nat×Nat
 | s,[]=>s
 | s,o::os=>if s.1 ^^^ o.1 < s.1 then les (s.1 ^^^ o.1,s.2 ^^^ o.2) os else les s os
structure Ech (os:List (Nat×Nat)):Prop where
 nz:∀ o∈os,o.1≠0
 pw:os.Pairwise fun a b=>b.1.testBit a.1.log2=false
def csm:List Nat→Nat→Nat→Nat
 | [],_,_=>0
 | a::L,k,c=>(if c.testBit k then a else 0) ^^^ csm L (k + 1) c
def stp (st:List (Nat×Nat)) (n v:Nat):List (Nat×Nat):=if (les (v,1 <<< n) st).1=0 then st else st++[les (v,1 <<< n) st]
structure Stp (L:List Nat) (n:Nat) (st:List (Nat×Nat)):Prop where
 ech:Ech st
 sum:∀ o∈st,csm L 0 o.2=o.1
 low:∀ o∈st,o.2 < 2 ^ n
 lt:∀ o∈st,o.1 < 2 ^ 30
 spn:∀ v,Spn (st.map (·.1)) v↔Spn (L.take n) v
 free:st.map (fun o=>o.2.log2)=(List.range n).filter fun i=>decide (rk (L.take i) < rk (L.take (i + 1)))
 len:st.length≤n
end L2
namespace L2
open PySem PySem.Spec PyProof.Rows
section
variable {X:Cx}
end
def Fl:V→Prop
 | .non=>True
 | .bl _=>True
 | .int i=>-999999999999≤i∧i≤999999999999
 | _=>False
def fD:V→PyData
 | .non=>.none
 | .bl b=>.bool b
 | .int i=>.int i
 | .str x=>.str x
 | _=>.none
def FlS (xs:List V):Prop:=xs.length≤1000∧∀ x∈xs,Fl x
def ShwT (H:Hp) (v:V) (t:Str):Prop:=match v with
 | .non=>t="None"
 | .bl b=>t=if b then Str.ofString "True" else Str.ofString "False"
 | .int i=>i.natAbs.log2 < 1920∧t=toString i
 | .str x=>(reprText x).length≤sizeLine∧t=reprText x
 | .ref p=>(∃ xs,H p=some (.lst xs)∧FlS xs∧t=(PyData.list (xs.map fD)).shown)∨∃ xs,H p=some (.tup xs)∧FlS xs∧t=(PyData.tuple (xs.map fD)).shown
 | _=>False
section
variable {X:Cx} {K:yg}
end
theorem qd8 {nl i j n:Nat} {K:yg} (hi:i < nl:=by decide) (hj:j < nl:=by decide):qc2 nl (qeZ K n (qei (qbp i) (qei (qbp j) qfq))):=by
 intro x σ H Q ⟨a,xs,e,hs,hn,v,r,e1,v2,r2,e2,q⟩
 obtain ⟨e3,q⟩:=q
 refine ⟨a,xs,e,hs,hn,v,r,e1,v2,r2,e2,e3,q,?_,fun k hk=>?_⟩
 ·rw [List.length_set,List.length_set]
 ·rw [List.getElem?_set_ne (by omega),List.getElem?_set_ne (by omega)]
section
variable {K:yg} {a:Addr} {xs:List V} {g:TG} {tc:TT} {te:TE} {σ':St} {H1:Hp} {Q:V→Hp→Prop}
end
section
variable {K:yg} {a b:Addr} {xs ys:List V} {g:TG} {tc:TT} {te:TE} {σ':St} {H1:Hp} {Q:V→Hp→Prop}
theorem comp_zip (el:ys.length≤xs.length) (Pv:Nat→List V→Hp→Prop) (h0:Pv 0 [] H1) (hl:∀ i zs H,i≤ys.length→Pv i zs H→SqL K H a xs∧SqL K H b ys)
  (hs:∀ i x y t zs H,xs[i]?=some x→ys[i]?=some y→H t=none→Pv i zs H→g (.ref t) σ' (upd H t (.tup [x,y])) fun σ2 H2=>tc σ2 H2 fun b H3=>if b=true then te σ2 H3 fun v H4=>zs.length < sizeLine∧Pv (i + 1) (zs++[v]) H4 else Pv (i + 1) zs H3)
  (hd:∀ zs H,Pv ys.length zs H→zs.length≤sizeLine∧∀ p,H p=none→Q (.ref p) (upd H p (.lst zs))):qdm (Itz K a b) g tc te σ' H1 Q:=by
 refine ⟨fun i m zs H=>m=ys.length - i∧i≤ys.length∧Pv i zs H,⟨ys.length,by simp,Nat.zero_le _,h0⟩,?_⟩
 rintro i m zs H ⟨rfl,hi,p⟩
 obtain ⟨q,q2⟩:=hl i zs H hi p
 by_cases hlt2:i < ys.length
 ·have hlt:i < xs.length:=by omega
  refine .inr ⟨⟨xs,ys,xs[i],ys[i],q,q2,by simp [hlt],by simp [hlt2]⟩,Pv (i + 1),fun ys' H' p'=>⟨ys.length - (i + 1),by omega,rfl,hlt2,p'⟩,fun x H' y=>?_⟩
  obtain ⟨t,v,u,rfl,ht,rfl,y,y2⟩:=y
  exact hs i v u t zs _ (y xs q) (y2 ys q2) ht p
 ·have e:i=ys.length:=by omega
  subst e
  exact .inl ⟨⟨xs,ys,q,q2,.inr (yh _)⟩,hd zs H p⟩
end
section
variable {X:Cx} {K:yg}
end
section
variable {X:Cx} {K:yg} {e st:Expr} {te:TE} {ts:TO} {p2 pos:Pos}
end
mutual
inductive Dat (H:Hp):V→PyData→Prop
 | non:Dat H .non .none
 | bl (b:Bool):Dat H (.bl b) (.bool b)
 | int (i:Int):Dat H (.int i) (.int i)
 | str (x:Str):Dat H (.str x) (.str x)
 | lst {a:Addr} {xs:List V} {ds:List PyData}:H a=some (.lst xs)→DatS H xs ds→Dat H (.ref a) (.list ds)
 | tup {a:Addr} {xs:List V} {ds:List PyData}:H a=some (.tup xs)→DatS H xs ds→Dat H (.ref a) (.tuple ds)
 | dnil {a:Addr}:H a=some (.dK [])→Dat H (.ref a) (.dict [])
inductive DatS (H:Hp):List V→List PyData→Prop
 | nil:DatS H [] []
 | cons {v:V} {vs:List V} {d:PyData} {ds:List PyData}:Dat H v d→DatS H vs ds→DatS H (v::vs) (d::ds)
end
structure Shw (d:PyData) (n m:Nat):Prop where
 s:d.showable=true
 l:d.leavesShort 13=true
 b:d.bulk≤n
 p:d.depth≤m
structure ShwS (ds:List PyData) (n m:Nat):Prop where
 s:PyData.showableAll ds=true
 l:PyData.leavesShortAll 13 ds=true
 b:PyData.bulkAll ds≤n
 p:PyData.depthAll ds≤m
section
variable {X:Cx} {K:yg} {pins:List (Addr×Obj)} {σ:List (Option V)} {H:Hp} {s:Shared}
end
theorem qcO {f:Str×NameKind→Str×NameKind} (hf:∀ y,(f y).1=y.1) (hk:∀ y,(f y).2=y.2∨(f y).2=.cell):∀ {ns:List (Str×NameKind)} {x:Str},(ns.lookup x=some .cell∨ns.lookup x=some .free)→((ns.map f).lookup x=some .cell∨(ns.map f).lookup x=some .free)
 | [],x,h=>by simp at h
 | y::r,x,h=>by
  have e:((y::r).map f)=((f y).1,(f y).2)::r.map f:=rfl
  have e':y::r=(y.1,y.2)::r:=rfl
  rw [e',List.lookup_cons] at h
  rw [e,List.lookup_cons,hf y]
  cases hb:x==y.1 with
  | false=>rw [hb] at h;exact qcO hf hk h
  | true =>
   rw [hb] at h
   rcases hk y with z | z
   ·rw [z];exact h
   ·rw [z];exact .inl rfl
theorem compB_re {sc scope:Scope} {env:Env} (h:qbZ sc scope=true):qbZ (relabel sc env) scope=true:=by
 unfold qbZ at h ⊢
 rw [Bool.and_eq_true] at h ⊢
 refine ⟨h.1,List.all_eq_true.mpr fun y hy=>?_⟩
 have:=List.all_eq_true.mp h.2 y hy
 cases hk:y.2 with
 | free =>
  rw [hk] at this
  simp only [Bool.and_eq_true,Bool.or_eq_true,beq_iff_eq] at this ⊢
  refine ⟨?_,this.2⟩
  exact qcO (fun y=>by dsimp only;split<;>rfl) (fun y=>by dsimp only;split<;>simp) this.1
 | _=>rw [hk] at this;first | done | exact this | cases this
section
variable {X:Cx} {tg elt iter:Expr} {ifs:List Expr} {scope sc1:Scope} {pos:Pos} {N N1:List Str} {nl:Nat} {ixs:List Nat} {wi:TI} {g:TG} {tc:TT} {te:TE} {C1:Addr} {s1:Shared} {H1:Hp} {ex1:List Addr}
theorem pe_compIn (N:List Str) (nl:Nat) (ixs:List Nat) (hc:X.calm=true) (O':qbZ sc1 scope=true) (hN:N.length=nl + ixs.length) (hcap':qe3 nl ixs N N1 scope.names=true)
  (hi:PI (X.comp N1 sc1 C1 s1 H1 ex1) tg iter wi) (hg:∀ C s0 H0 ex,PG ((X.comp N1 sc1 C1 s1 H1 ex1).comp N scope C s0 H0 ex) tg g) (gk:qc2 nl g) (ht:∀ C s0 H0 ex,qey ((X.comp N1 sc1 C1 s1 H1 ex1).comp N scope C s0 H0 ex) ifs tc) (he:∀ C s0 H0 ex,PE ((X.comp N1 sc1 C1 s1 H1 ex1).comp N scope C s0 H0 ex) elt te)
  (hs:∀ x,foldedSetIterable iter (X.comp N1 sc1 C1 s1 H1 ex1).env x=pure x:=by intro _;rfl):PE (X.comp N1 sc1 C1 s1 H1 ex1) (.ListComp elt [⟨tg,iter,ifs,0⟩] scope pos) (qdN wi g tc te nl ixs):=
 ju (sc:=relabel sc1 X.env) (XN:=N1) N nl ixs rfl rfl hc (compB_re O') hN hcap' hi hg gk ht he hs
end
section
variable {X:Cx} {K:yg}
theorem qb7 {td ty:TE} {σ:St} {H:Hp} {Q:VK} (h:td σ H fun x H1=>∃ a,x=.ref a∧IsD H1 a∧ty σ H1 fun y H2=>∃ o,DGet H2 a y o∧Q (o.getD .non) H2):qd0 td ty σ H Q:=h
end
abbrev Cx.soft (X:Cx):Cx:={ X with calm:=false }
structure RoomW (k:Nat) (A:Around):Prop where
 dp:A.depth + 3 * k + 5 < recursionLimit
 un:A.units + 16 * k + 200 < cLine
 gd:A.guards=some []
theorem RoomW.deeper {k:Nat} {A:Around} (r:RoomW (k + 1) A) (env:Env):RoomW k (A.deeper env):=
 ⟨by have:=r.dp;show A.depth + 1 + 3 * k + 5 < _;omega,by have:=r.un;show A.units + 3 + 16 * k + 200 < _;omega,r.gd⟩
theorem Room.soft {j k:Nat} {A:Around} {h:Option Value} (r:Room k A) (l:j≤k):RoomW j (A.mark h):=⟨by have:=r.dp;show A.depth + 3 * j + 5 < _;omega,by have:=r.un;show A.units + 16 * j + 200 < _;omega,r.gd⟩
structure FnOkW (P:Program) (w:World) (K:yg) (mg:Str→Option Value) (base:Heap) (k:Nat) (f:Addr) (fd:FuncData) (ps:List Str) (sp:Sp):Prop where
 len:∀ vs H Q E,sp vs H Q E→vs.length=ps.length
 run:∀ (A:Around) (outer:List Env) (s:Shared) (H:Hp) (args:Args) (us:List Value) (vs:List V) (Q:VK) (E:XK),RoomW k A→Env0 P w K mg base A outer s H→BindsTo s fd args (ps.zip us)→Vals vs us→sp vs H Q E →
  codeAny (model P w) A (.call (.ref f) args) (CR CX0 outer P w H s Q E) s
structure DefOkW (P:Program) (w:World) (K:yg) (mg:Str→Option Value) (base:Heap) (k:Nat) (x:Str) (ps:List Str) (sp:Sp):Prop where
 ex:∃ f fd,FnOkW P w K mg base k f fd ps sp∧mg x=some (.ref f)∧PySem.W.keepIn K (.ref f)=true∧Binds K fd ps []
section
variable {X:Cx} {k:Nat} {f C:Addr} {fd:FuncData} {ps:List Str} {sp:Sp} {x m:Str} {p pos apos:Pos} {e o:Expr} {es:List Expr} {ta:TE} {t:TA}
end
section
variable {P:Program} {w:World} {K:yg} {mg:Str→Option Value} {base:Heap}
end
theorem Inv.laidM {X:Cx} {pins:List (Addr×Obj)} {σ:St} {H H':Hp} {s:Shared} {h':Heap} {t':Nat} (I:Inv X pins σ H s) (k:∀ b u,s.heap.get? b=some u→h'.get? b=some u)
  (old:∀ b,b < s.heap.objs.size→H' b=H b) (new:∀ b u,s.heap.objs.size≤b→H' b=some u→ObjOk X.prog X.w H' h' b u):Inv X pins σ H' { s with heap:=h',toks:=t' }:=by
 have lt:∀ b u,H b=some u→b < s.heap.objs.size:=fun b u e=>Nat.lt_of_not_le fun z=>by rw [I.hok.fresh z] at e;cases e
 have up:∀ b u,H b=some u→H' b=some u:=fun b u e=>(old b (lt b u e)).trans e
 refine I.step (g':=s.gens) (d':=s.drawn) (ch:=[]) (fun b hb=>by simp at hb) (fun b o _ _ _ e _=>k b o e) (fun b o _ _ _ e _=>⟨o.slots,k b o e⟩) (fun b o _ e n=>(old b (Heap.lt_size e)).trans n)
  (fun b o _ e=>⟨o,k b o e⟩) (fun b xs e=>up b _ e) (fun b _ _ e=>up b _ e) (fun b ps e=>⟨#[],by rw [up b _ e];simp⟩) (fun m ⟨o,es,ep,ho,r⟩=>⟨o,es,ep,k _ o ho,r⟩) (fun b u e=>?_) I.bare
 by_cases hb:s.heap.objs.size≤b
 ·exact new b u hb e
 ·rw [old b (Nat.lt_of_not_le hb)] at e
  exact (I.hok b u e).stay (fun c v _ q=>k c v q) (fun c q=>up c _ q) fun c xs q=>up c _ q
section
variable {prog:Program} {w:World} {A:Around} {E:Value→Shared→Prop} {s:Shared}
theorem alive_ {a:Addr} {Q:Option Obj→Shared→Prop} (h:Q (s.heap.get? a) s):wpAny (model prog w) A (loadIfAlive a) Q E s:=fun Γ p _=>by
 show Sem.wp _ _ (.loadIfAlive a .pure) _ _ _ _
 rw [Sem.wp_loadIfAlive]
 simpa using h
abbrev qez (h:Heap) (z TI TO:Addr) (f0:Value) (b1:Bool):Prop:=h.get? z=some { cls:=.type "zip",dict:=none,data:=.fields #[f0,.bool b1,.bool false,.ref TI,.ref TO],slots:=#[] }
theorem qeR {z TI TO T:Addr} {b1:Bool} {oT:Obj} {Q:Bool→Shared→Prop} (hz:qez s.heap z TI TO (rawInt T) b1) (hT:s.heap.get? T=some oT)
  (hQ:∀ h',qez h' z TI TO (rawInt T) true→Heap.SameBut z s.heap h'→Q false { s with heap:=h' }):wpAny (model prog w) A (Builtin.SmallTypes.ownedTupleIsFree (.ref z)) Q E s:=by
 unfold Builtin.SmallTypes.ownedTupleIsFree
 refine wpAny_bind (wpAny_field hz rfl (x:=rawInt T) rfl ?_)
 show wpAny _ _ (loadIfAlive T>>=_) _ _ _
 refine wpAny_bind (alive_ ?_)
 rw [hT]
 show wpAny _ _ (field (.ref z) 1>>=_) _ _ _
 refine wpAny_bind (wpAny_field hz rfl (x:=.bool b1) rfl ?_)
 cases b1 with
 | true=>exact wpAny_pure (hQ _ hz ⟨rfl,fun _ _=>rfl⟩)
 | false =>
  show wpAny _ _ (setField (.ref z) 1 (.bool true)>>=_) _ _ _
  exact wpAny_bind (wpAny_setField_rec hz (by simp) fun h1 e1 k1=>wpAny_pure (hQ h1 e1 k1))
theorem znx {z TI TO i1 i2 a b T:Addr} {b1:Bool} {oT:Obj} {k1 k2:Nat} {xs ys:Array Value} {x y:Value} {Q:Value→Shared→Prop} (D:ZipApart z TI TO i1 i2 a b)
  (hz:qez s.heap z TI TO (rawInt T) b1) (hT:s.heap.get? T=some oT) (hTI:IsPair s.heap TI (.ref i1) (.ref i2))
  (h1:s.heap.IsListIter i1 a k1) (h2:s.heap.IsListIter i2 b k2) (hl1:s.heap.IsList a xs) (hl2:s.heap.IsList b ys) (hx:xs[k1]?=some x) (hy:ys[k2]?=some y)
  (hQ:∀ h',qez h' z TI TO (rawInt T) true→h'.IsListIter i1 a (k1 + 1)→h'.IsListIter i2 b (k2 + 1)→IsPair h' s.heap.objs.size x y→h'.objs.size=s.heap.objs.size + 1 →
   (∀ c o,c≠z→c≠i1→c≠i2→s.heap.get? c=some o→h'.get? c=some o)→Q (.ref s.heap.objs.size) { s with heap:=h' }) :
  wpAny (model prog w) A (Builtin.«zip.__next__» ⟨[.ref z],[]⟩) (fun fin s'=>∃ v,fin=.done (.ret v)∧Q v s') E s:=by
 show wpAny _ _ (field (.ref z) 2>>=_) _ _ _
 refine wpAny_bind <| wpAny_field hz rfl (x:=.bool false) rfl ?_
 show wpAny _ _ (field (.ref z) 3>>=_) _ _ _
 refine wpAny_bind <| wpAny_field hz rfl (x:=.ref TI) rfl ?_
 refine wpAny_bind <| wpAny_seqItems hTI rfl ?_
 show wpAny _ _ (Builtin.SmallTypes.ownedTupleIsFree _>>=_) _ _ _
 refine wpAny_bind <| qeR hz hT fun g1 z1 s1=>?_
 simp only [Bool.false_eq_true,if_false]
 refine wpAny_bind ?_
 rw [← Array.forIn_toList]
 simp only [List.forIn_cons,List.forIn_nil]
 refine wpAny_bind (wpAny_bind (wpAny_holding ?_))
 show wpAny _ _ (Builtin.SmallTypes.nextOf (.ref i1)>>=_) _ _ _
 refine wpAny_bind <| wpAny_nextOf_list_item (h1.extBut s1.extBut D.i1z) (hl1.extBut s1.extBut D.l1z) hx fun g2 p2 s2=>wpAny_pure (wpAny_pure ?_)
 refine wpAny_bind (wpAny_bind (wpAny_holding ?_))
 show wpAny _ _ (Builtin.SmallTypes.nextOf (.ref i2)>>=_) _ _ _
 refine wpAny_bind <| wpAny_nextOf_list_item ((h2.extBut s1.extBut D.i2z).extBut s2.extBut D.i12.symm) ((hl2.extBut s1.extBut D.l2z).extBut s2.extBut D.l2i1) hy fun g3 p3 s3=>wpAny_pure (wpAny_pure (wpAny_pure ?_))
 refine wpAny_bind (wpAny_newTuple (wpAny_pure ⟨_,rfl,?_⟩) (by show 2≤sizeLine;decide))
 have es:g3.objs.size=s.heap.objs.size:=by rw [s3.1,s2.1,s1.1]
 have kp:∀ c o,c≠z→c≠i1→c≠i2→s.heap.get? c=some o→g3.get? c=some o:=fun c o n1 n2 n3 e=>s3.extBut _ _ n3 (s2.extBut _ _ n2 (s1.extBut _ _ n1 e))
 rw [show (Value.ref g3.objs.size)=.ref s.heap.objs.size by rw [es]]
 refine hQ _ (Heap.get?_push_of_some _ (s3.extBut _ _ D.i2z.symm (s2.extBut _ _ D.i1z.symm z1))) ((p2.extBut s3.extBut D.i12).at fun o e=>Heap.get?_push_of_some _ e) (p3.at fun o e=>Heap.get?_push_of_some _ e) ?_ (by rw [Heap.size_push,es]) fun c o n1 n2 n3 e=>Heap.get?_push_of_some _ (kp c o n1 n2 n3 e)
 rw [← es]
 exact Heap.get?_push_size _ rfl
theorem zne {z TI TO i1 i2 a b T:Addr} {b1:Bool} {oT:Obj} {k1 k2:Nat} {xs ys:Array Value} {Q:Fin→Shared→Prop} (hh:A.handled=none) (D:ZipApart z TI TO i1 i2 a b)
  (hz:qez s.heap z TI TO (rawInt T) b1) (hT:s.heap.get? T=some oT) (hTI:IsPair s.heap TI (.ref i1) (.ref i2))
  (h1:s.heap.IsListIter i1 a k1) (h2:s.heap.IsListIter i2 b k2) (hl1:s.heap.IsList a xs) (hl2:s.heap.IsList b ys) (hend:xs[k1]?=none∨ys[k2]?=none)
  (hE:∀ h' e,(∀ c o,c≠z→c≠i1→c≠i2→s.heap.get? c=some o→h'.get? c=some o)→(∃ o,h'.get? e=some o∧o.cls=.type "StopIteration")→E (.ref e) { s with heap:=h' }) :
  wpAny (model prog w) A (Builtin.«zip.__next__» ⟨[.ref z],[]⟩) Q E s:=by
 show wpAny _ _ (field (.ref z) 2>>=_) _ _ _
 refine wpAny_bind <| wpAny_field hz rfl (x:=.bool false) rfl ?_
 show wpAny _ _ (field (.ref z) 3>>=_) _ _ _
 refine wpAny_bind <| wpAny_field hz rfl (x:=.ref TI) rfl ?_
 refine wpAny_bind <| wpAny_seqItems hTI rfl ?_
 show wpAny _ _ (Builtin.SmallTypes.ownedTupleIsFree _>>=_) _ _ _
 refine wpAny_bind <| qeR hz hT fun g1 z1 s1=>?_
 simp only [Bool.false_eq_true,if_false]
 refine wpAny_bind ?_
 rw [← Array.forIn_toList]
 simp only [List.forIn_cons,List.forIn_nil]
 refine wpAny_bind (wpAny_bind (wpAny_holding ?_))
 show wpAny _ _ (Builtin.SmallTypes.nextOf (.ref i1)>>=_) _ _ _
 cases hx:xs[k1]? with
 | none=>exact wpAny_bind <| wpAny_nextOf_list_end hh (h1.extBut s1.extBut D.i1z) (hl1.extBut s1.extBut D.l1z) hx fun g2 e s2 he=>hE g2 e (fun c o n1 n2 _ q=>s2 _ _ n2 (s1.extBut _ _ n1 q)) he
 | some x =>
  have hy:ys[k2]?=none:=hend.elim (fun z=>by rw [hx] at z;cases z) id
  refine wpAny_bind <| wpAny_nextOf_list_item (h1.extBut s1.extBut D.i1z) (hl1.extBut s1.extBut D.l1z) hx fun g2 p2 s2=>wpAny_pure (wpAny_pure ?_)
  refine wpAny_bind (wpAny_bind (wpAny_holding ?_))
  show wpAny _ _ (Builtin.SmallTypes.nextOf (.ref i2)>>=_) _ _ _
  exact wpAny_bind <| wpAny_nextOf_list_end hh ((h2.extBut s1.extBut D.i2z).extBut s2.extBut D.i12.symm) ((hl2.extBut s1.extBut D.l2z).extBut s2.extBut D.l2i1) hy fun g3 e s3 he=>hE g3 e (fun c o n1 n2 n3 q=>s3 _ _ n3 (s2.extBut _ _ n2 (s1.extBut _ _ n1 q))) he
def ZAt (z TI TO N:Nat) (h:Heap):Prop:=IsZip h z TI TO .none∨∃ T b1 o,N≤T∧qez h z TI TO (rawInt (T:Nat)) b1∧h.get? T=some o
theorem ZAt.typ {z TI TO N:Nat} (h:ZAt z TI TO N s.heap):s.TypeIs (.ref z) "zip":=by
 rcases h with e | ⟨_,_,_,_,e,_⟩<;>exact ⟨_,e,rfl⟩
theorem znx_any {z TI TO i1 i2 a b N:Addr} {k1 k2:Nat} {xs ys:Array Value} {x y:Value} {Q:Option Value→Shared→Prop} (D:ZipApart z TI TO i1 i2 a b) (hN:N≤s.heap.objs.size)
  (hz:ZAt z TI TO N s.heap) (hTI:IsPair s.heap TI (.ref i1) (.ref i2)) (hTO:∃ u v,IsPair s.heap TO u v)
  (h1:s.heap.IsListIter i1 a k1) (h2:s.heap.IsListIter i2 b k2) (hl1:s.heap.IsList a xs) (hl2:s.heap.IsList b ys) (hx:xs[k1]?=some x) (hy:ys[k2]?=some y) (hlt:z < N∧i1 < N∧i2 < N)
  (hQ:∀ h',ZAt z TI TO N h'→(∃ u v,IsPair h' TO u v)→h'.IsListIter i1 a (k1 + 1)→h'.IsListIter i2 b (k2 + 1)→IsPair h' s.heap.objs.size x y→h'.objs.size=s.heap.objs.size + 1 →
   (∀ c o,c≠z→c≠TO→c≠i1→c≠i2→s.heap.get? c=some o→h'.get? c=some o)→Q (some (.ref s.heap.objs.size)) { s with heap:=h' }) :
  wpAny (model prog w) A (pyNext (.ref z)) Q E s:=by
 obtain ⟨u,v,hTO⟩:=hTO
 have typ:=hz.typ
 rcases hz with hz | ⟨T,b1,o,hT,hz,ho⟩
 ·refine wpAny_pyNext_zip_item D hz hTI hTO h1 h2 hl1 hl2 hx hy fun g e1 e2 e3 e4 e5 e6 e7=>hQ g (.inr ⟨s.heap.objs.size,false,_,hN,e1,e5⟩) ⟨_,_,e2⟩ e3 e4 e5 e6 e7
 ·unfold pyNext
  refine wpAny_bind (wpAny_attempt (wpAny_callSpecial?_slot (name:=Str.ofString "__next__") typ F.slot_zip_next (wpAny_call_entry F.slot_zip_next typ F.entry_zip_next (znx D hz ho hTI h1 h2 hl1 hl2 hx hy fun g e1 e3 e4 e5 e6 e7=>wpAny_pure ?_) (F.args_zip_next_1 _))))
  exact hQ g (.inr ⟨T,true,o,hT,e1,e7 _ _ (Nat.ne_of_gt (yj hlt.1 hT)) (Nat.ne_of_gt (yj hlt.2.1 hT)) (Nat.ne_of_gt (yj hlt.2.2 hT)) ho⟩) ⟨_,_,e7 _ _ D.TOz D.TOi1 D.TOi2 hTO⟩ e3 e4 e5 e6 fun c q n1 _ n2 n3 e=>e7 c q n1 n2 n3 e
theorem zne_any {z TI TO i1 i2 a b N:Addr} {k1 k2:Nat} {xs ys:Array Value} {Q:Option Value→Shared→Prop} (hh:A.handled=none) (D:ZipApart z TI TO i1 i2 a b)
  (hz:ZAt z TI TO N s.heap) (hTI:IsPair s.heap TI (.ref i1) (.ref i2)) (hTO:∃ u v,IsPair s.heap TO u v)
  (h1:s.heap.IsListIter i1 a k1) (h2:s.heap.IsListIter i2 b k2) (hl1:s.heap.IsList a xs) (hl2:s.heap.IsList b ys) (hend:xs[k1]?=none∨ys[k2]?=none)
  (hQ:∀ h',(∀ c o,c≠z→c≠TO→c≠i1→c≠i2→s.heap.get? c=some o→h'.get? c=some o)→Q none { s with heap:=h' }):wpAny (model prog w) A (pyNext (.ref z)) Q E s:=by
 obtain ⟨u,v,hTO⟩:=hTO
 have typ:=hz.typ
 rcases hz with hz | ⟨T,b1,o,hT,hz,ho⟩
 ·exact wpAny_pyNext_zip_end hh D hz hTI hTO h1 h2 hl1 hl2 hend hQ
 ·unfold pyNext
  refine wpAny_bind (wpAny_attempt (wpAny_callSpecial?_slot (name:=Str.ofString "__next__") typ F.slot_zip_next (wpAny_call_entry F.slot_zip_next typ F.entry_zip_next (zne hh D hz ho hTI h1 h2 hl1 hl2 hend fun g e k he=>?_) (F.args_zip_next_1 _))))
  obtain ⟨q,hq,hc⟩:=he
  refine wpAny_bind (wpAny_isInstance (T:="StopIteration") (b:=true) ⟨q,hq,hc⟩ isSubtype_stop ?_)
  exact wpAny_pure (hQ _ fun c o n1 _ n2 n3 e=>k c o n1 n2 n3 e)
end
structure LZ (z TI TO i1 i2 a b S N:Nat) (xs ys:Array Value) (h0:Heap) (i:Nat) (acc:Array Value) (c:Nat) (h:Heap):Prop where
 zp:ZAt z TI TO N h
 ti:IsPair h TI (.ref i1) (.ref i2)
 tO:∃ u v,IsPair h TO u v
 j1:h.IsListIter i1 a i
 j2:h.IsListIter i2 b i
 la:h.IsList a xs
 lb:h.IsList b ys
 ls:h.get? S=some { cls:=.type "list",dict:=none,data:=.seq acc c,slots:=#[] }
 sz:N≤h.objs.size
 len:acc.size=i
 its:∀ (j:Nat) v,acc[j]?=some v→∃ t x y,v=.ref t∧N≤t∧IsPair h t x y∧xs[j]?=some x∧ys[j]?=some y
 nd:∀ (j k:Nat) v,acc[j]?=some v→acc[k]?=some v→j=k
 kp:∀ q o,q < N→q≠z→q≠TO→q≠i1→q≠i2→q≠S→h0.get? q=some o→h.get? q=some o
structure LE (z TO i1 i2 S N:Nat) (xs ys:Array Value) (h0:Heap) (n:Nat) (acc:Array Value) (c:Nat) (h:Heap):Prop where
 ls:h.get? S=some { cls:=.type "list",dict:=none,data:=.seq acc c,slots:=#[] }
 len:acc.size=n
 its:∀ (j:Nat) v,acc[j]?=some v→∃ t x y,v=.ref t∧N≤t∧IsPair h t x y∧xs[j]?=some x∧ys[j]?=some y
 nd:∀ (j k:Nat) v,acc[j]?=some v→acc[k]?=some v→j=k
 kp:∀ q o,q < N→q≠z→q≠TO→q≠i1→q≠i2→q≠S→h0.get? q=some o→h.get? q=some o
structure LA (z TI TO i1 i2 a b S N:Nat):Prop where
 D:ZipApart z TI TO i1 i2 a b
 lt:z < S∧TI < S∧TO < S∧i1 < S∧i2 < S∧a < S∧b < S
 S:S < N
theorem LZ.at {z TI TO i1 i2 a b S N:Nat} {xs ys:Array Value} {h0 h h':Heap} {i c c':Nat} {acc acc':Array Value} (L:LA z TI TO i1 i2 a b S N) (x:LZ z TI TO i1 i2 a b S N xs ys h0 i acc c h)
  (k:Heap.SameBut S h h') (ls:h'.get? S=some { cls:=.type "list",dict:=none,data:=.seq acc' c',slots:=#[] }) (len:acc'.size=i) (its:∀ (j:Nat) v,acc'[j]?=some v→∃ t x y,v=.ref t∧N≤t∧IsPair h t x y∧xs[j]?=some x∧ys[j]?=some y) (nd:∀ (j k:Nat) v,acc'[j]?=some v→acc'[k]?=some v→j=k):LZ z TI TO i1 i2 a b S N xs ys h0 i acc' c' h':=by
 obtain ⟨l1,l2,l3,l4,l5,l6,l7⟩:=L.lt
 have hS:=L.S
 have kk:∀ {q o},q≠S→h.get? q=some o→h'.get? q=some o:=fun n e=>k.extBut _ _ n e
 refine ⟨?_,kk (Nat.ne_of_lt l2) x.ti,?_,x.j1.at fun o e=>kk (Nat.ne_of_lt l4) e,x.j2.at fun o e=>kk (Nat.ne_of_lt l5) e,x.la.extBut k.extBut (Nat.ne_of_lt l6),x.lb.extBut k.extBut (Nat.ne_of_lt l7),ls,by rw [k.1];exact x.sz,len,fun j v e=>?_,nd,fun q o a1 a2 a3 a4 a5 a6 e=>kk a6 (x.kp q o a1 a2 a3 a4 a5 a6 e)⟩
 ·rcases x.zp with e | ⟨T,b1,o,hT,e,eo⟩
  ·exact .inl (kk (Nat.ne_of_lt l1) e)
  ·exact .inr ⟨T,b1,o,hT,kk (Nat.ne_of_lt l1) e,kk (Nat.ne_of_gt (yj hS hT)) eo⟩
 ·obtain ⟨u,v,e⟩:=x.tO
  exact ⟨u,v,kk (Nat.ne_of_lt l3) e⟩
 ·obtain ⟨t,u,v,e1,e2,e3,e4⟩:=its j v e
  exact ⟨t,u,v,e1,e2,kk (Nat.ne_of_gt (yj hS e2)) e3,e4⟩
section
variable {prog:Program} {w:World} {A:Around} {R:Result→Shared→Prop} {z TI TO i1 i2 a b S N:Nat} {xs ys:Array Value} {h0:Heap}
theorem zloop (hh:A.handled=none) (L:LA z TI TO i1 i2 a b S N) (hn:min xs.size ys.size≤2 ^ 24) (res:Value):∀ (k i:Nat) (s:Shared) (acc:Array Value) (c:Nat),min xs.size ys.size - i=k→i≤min xs.size ys.size→LZ z TI TO i1 i2 a b S N xs ys h0 i acc c s.heap →
  (∀ h' acc' c',LE z TO i1 i2 S N xs ys h0 (min xs.size ys.size) acc' c' h'→R (.ok (.ret res)) { s with heap:=h' })→codeAny (model prog w) A (.builtin "list.extend.loop" ⟨[.ref S,.ref z,res],[]⟩) R s:=by
 have hS:=L.S
 obtain ⟨l1,l2,l3,l4,l5,l6,l7⟩:=L.lt
 have ap:∀ {t q:Nat},N≤t→q < S→t≠q:=fun h1 h2=>by omega
 intro k
 induction k with
 | zero =>
  intro i s acc c hk hi x hR
  refine codeAny_builtin F.entry_extend_loop ?_
  rw [Around.under_plainId F.plain_extend_loop _]
  show wpAny _ A.in1 (pyNext _>>=_) _ _ s
  have he:xs[i]?=none∨ys[i]?=none:=by
   rcases Nat.le_total xs.size ys.size with q | q
   ·exact .inl (Array.getElem?_eq_none (by omega))
   ·exact .inr (Array.getElem?_eq_none (by omega))
  refine wpAny_bind (zne_any hh L.D x.zp x.ti x.tO x.j1 x.j2 x.la x.lb he fun h' kk=>wpAny_pure (hR h' acc c ⟨?_,by rw [x.len];omega,fun j v e=>?_,x.nd,fun q o a1 a2 a3 a4 a5 a6 e=>kk q o a2 a3 a4 a5 (x.kp q o a1 a2 a3 a4 a5 a6 e)⟩))
  ·exact kk S _ (Nat.ne_of_gt l1) (Nat.ne_of_gt l3) (Nat.ne_of_gt l4) (Nat.ne_of_gt l5) x.ls
  ·obtain ⟨t,u,v,e1,e2,e3,e4⟩:=x.its j v e
   exact ⟨t,u,v,e1,e2,kk t _ (ap e2 l1) (ap e2 l3) (ap e2 l4) (ap e2 l5) e3,e4⟩
 | succ k ih =>
  intro i s acc c hk hi x hR
  refine codeAny_builtin F.entry_extend_loop ?_
  rw [Around.under_plainId F.plain_extend_loop _]
  show wpAny _ A.in1 (pyNext _>>=_) _ _ s
  obtain ⟨u,hu⟩:∃ u,xs[i]?=some u:=⟨_,Array.getElem?_eq_getElem (by omega)⟩
  obtain ⟨v,hv⟩:∃ v,ys[i]?=some v:=⟨_,Array.getElem?_eq_getElem (by omega)⟩
  refine wpAny_bind (znx_any L.D x.sz x.zp x.ti x.tO x.j1 x.j2 x.la x.lb hu hv ⟨Nat.lt_trans l1 hS,Nat.lt_trans l4 hS,Nat.lt_trans l5 hS⟩ fun h1 z1 to1 e1 e2 eP esz kk=>?_)
  have hS1:=kk S _ (Nat.ne_of_gt l1) (Nat.ne_of_gt l3) (Nat.ne_of_gt l4) (Nat.ne_of_gt l5) x.ls
  show wpAny _ A.in1 (updateSeq S (·.push (.ref s.heap.objs.size))>>=_) _ _ _
  have hlen:=x.len
  have hN:=x.sz
  have nin:∀ j:Nat,acc[j]?≠some (.ref s.heap.objs.size):=fun j e=>by
   obtain ⟨t,u',w',q1,q2,q3,_⟩:=x.its j _ e
   cases q1
   exact absurd (Heap.lt_size q3) (Nat.lt_irrefl _)
  have ndp:∀ (j k:Nat) v',(acc.push (.ref s.heap.objs.size))[j]?=some v'→(acc.push (.ref s.heap.objs.size))[k]?=some v'→j=k:=fun j k v' e1 e2=>by
   rw [Array.getElem?_push] at e1 e2
   split at e1<;>split at e2
   ·rename_i a1 a2;rw [a1,a2]
   ·cases e1;exact absurd e2 (nin k)
   ·cases e2;exact absurd e1 (nin j)
   ·exact x.nd j k v' e1 e2
  obtain ⟨c',upS⟩:∃ c',(h1.update S (Obj.mapSeq (·.push (.ref s.heap.objs.size)))).get? S=some { cls:=.type "list",dict:=none,data:=.seq (acc.push (.ref s.heap.objs.size)) c',slots:=#[] }:=⟨_,Heap.get?_update_self (Obj.mapSeq (·.push (.ref s.heap.objs.size))) hS1 rfl⟩
  refine wpAny_bind (wpAny_updateSeq hS1 rfl (wpAny_pure ⟨plainId_quiet F.plain_extend_loop _,ih (i + 1) _ (acc.push (.ref s.heap.objs.size)) c' (by omega) (by omega) ?_ hR⟩) ?_ ?_)
  ·have sb:Heap.SameBut S h1 (h1.update S (Obj.mapSeq (·.push (.ref s.heap.objs.size)))):=Heap.SameBut.update ..
   have k2:∀ {q o},q≠S→h1.get? q=some o→(h1.update S (Obj.mapSeq (·.push (.ref s.heap.objs.size)))).get? q=some o:=fun n e=>sb.extBut _ _ n e
   refine ⟨?_,k2 (Nat.ne_of_lt l2) (kk _ _ L.D.TIz L.D.TITO L.D.TIi1 L.D.TIi2 x.ti),?_,e1.at fun o e=>k2 (Nat.ne_of_lt l4) e,e2.at fun o e=>k2 (Nat.ne_of_lt l5) e,?_,?_,upS,by rw [sb.1,esz];omega,by rw [Array.size_push,hlen],fun j v' e=>?_,ndp,fun q o a1 a2 a3 a4 a5 a6 e=>k2 a6 (kk q o a2 a3 a4 a5 (x.kp q o a1 a2 a3 a4 a5 a6 e))⟩
   ·rcases z1 with e | ⟨T,b1,o,hT,e,eo⟩
    ·exact .inl (k2 (Nat.ne_of_lt l1) e)
    ·exact .inr ⟨T,b1,o,hT,k2 (Nat.ne_of_lt l1) e,k2 (Nat.ne_of_gt (yj hS hT)) eo⟩
   ·obtain ⟨u',v',e⟩:=to1
    exact ⟨u',v',k2 (Nat.ne_of_lt l3) e⟩
   ·obtain ⟨o,e,d⟩:=x.la
    exact ⟨o,k2 (Nat.ne_of_lt l6) (kk _ _ L.D.l1z L.D.l1TO L.D.l1i1 L.D.l1i2 e),d⟩
   ·obtain ⟨o,e,d⟩:=x.lb
    exact ⟨o,k2 (Nat.ne_of_lt l7) (kk _ _ L.D.l2z L.D.l2TO L.D.l2i1 L.D.l2i2 e),d⟩
   ·rw [Array.getElem?_push] at e
    split at e
    ·rename_i ej
     cases e
     rw [ej,hlen]
     exact ⟨_,u,v,rfl,hN,k2 (Nat.ne_of_gt (yj hS hN)) eP,hu,hv⟩
    ·obtain ⟨t,u',w',q1,q2,q3,q4⟩:=x.its j v' e
     exact ⟨t,u',w',q1,q2,k2 (Nat.ne_of_gt (yj hS q2)) (kk t _ (ap q2 l1) (ap q2 l3) (ap q2 l4) (ap q2 l5) q3),q4⟩
  ·rw [hlen,sizeLine_eq];omega
  ·show (acc.push _).size≤sizeLine + 1
   rw [Array.size_push,hlen,sizeLine_eq];omega
theorem zip_len0:typeLookup (.type "zip") "__len__"=pure none:=by rw [typeLookup_type,builtinLookup_eq_fast];kernel_rfl
theorem zip_hint0:typeLookup (.type "zip") "__length_hint__"=pure none:=by rw [typeLookup_type,builtinLookup_eq_fast];kernel_rfl
theorem zext {s:Shared} {c0:Nat} (hh:A.handled=none) (L:LA z TI TO i1 i2 a b S N) (hn:min xs.size ys.size≤2 ^ 24) (res:Value) (hz:IsZip s.heap z TI TO .none) (x:LZ z TI TO i1 i2 a b S N xs ys h0 0 #[] c0 s.heap)
  (hR:∀ h' acc' c',LE z TO i1 i2 S N xs ys h0 (min xs.size ys.size) acc' c' h'→R (.ok (.ret res)) { s with heap:=h' }) :
  wpAny (model prog w) A.in1 (Builtin.List.listExtendWith (.ref S) (.ref z) res) (fun fin s'=>match fin with | .done f=>R (.ok f) s' | .again c'=>c'.quiet=true∧codeAny (model prog w) A c' R s') (fun e s'=>R (.error e) s') s:=by
 obtain ⟨l1,_⟩:=L.lt
 have typ:s.TypeIs (.ref z) "zip":=⟨_,hz,rfl⟩
 unfold Builtin.List.listExtendWith
 refine wpAny_bind <| wpAny_typeOf typ ?_
 have q1:Builtin.List.listSameRef (.ref S) (.ref z)=false:=by simp [Builtin.List.listSameRef,Nat.ne_of_gt l1]
 have q2:(Value.type "zip"==.type "list")=false∧(Value.type "zip"==.type "tuple")=false:=by decide
 simp only [q1,q2.1,q2.2,Bool.or_false,Bool.false_eq_true,if_false]
 refine wpAny_bind <| wpAny_pyIter_zip hz <| wpAny_bind <| wpAny_holding ?_
 unfold Builtin.List.listLengthHint
 refine wpAny_bind <| wpAny_specialOf typ zip_len0 ?_
 show wpAny _ _ (specialOf (Value.ref z) (Str.ofString "__length_hint__")>>=_) _ _ _
 refine wpAny_bind <| wpAny_specialOf typ zip_hint0 <| wpAny_pure ?_
 show wpAny _ _ (rule "list.extend.makes-room">>=fun _=>Builtin.List.listTouch (.ref S)>>=fun _=>again (.builtin "list.extend.loop" ⟨[.ref S,.ref z,res],[]⟩)) _ _ _
 refine wpAny_bind <| wpAny_rule <| wpAny_bind ?_
 show wpAny _ _ (updateSeq S (·.push .none)>>=fun _=>updateSeq S (·.pop)) _ _ _
 refine wpAny_bind <| wpAny_updateSeq x.ls rfl ?_
 have e2:=Heap.get?_update_self (Obj.mapSeq (·.push Value.none)) x.ls rfl
 refine wpAny_updateSeq (hz:=by seq_fits) e2 rfl ?_
 have e3:=Heap.get?_update_self (Obj.mapSeq (·.pop)) e2 rfl
 have sb:Heap.SameBut S s.heap ((s.heap.update S (Obj.mapSeq (·.push Value.none))).update S (Obj.mapSeq (·.pop))):=by
  have k1:Heap.SameBut S s.heap (s.heap.update S (Obj.mapSeq (·.push Value.none))):=Heap.SameBut.update ..
  have k2:Heap.SameBut S (s.heap.update S (Obj.mapSeq (·.push Value.none))) ((s.heap.update S (Obj.mapSeq (·.push Value.none))).update S (Obj.mapSeq (·.pop))):=Heap.SameBut.update ..
  exact ⟨k2.1.trans k1.1,fun q n=>(k2.2 q n).trans (k1.2 q n)⟩
 exact wpAny_pure ⟨plainId_quiet F.plain_extend_loop _,zloop hh L hn res _ 0 _ #[] _ rfl (Nat.zero_le _) (x.at L sb e3 rfl (fun j v e=>by simp at e) fun j k v e=>by simp at e) hR⟩
theorem zinit {s:Shared} {c0:Nat} (hh:A.handled=none) (L:LA z TI TO i1 i2 a b S N) (hn:min xs.size ys.size≤2 ^ 24) (hz:IsZip s.heap z TI TO .none) (x:LZ z TI TO i1 i2 a b S N xs ys h0 0 #[] c0 s.heap)
  (hR:∀ h' acc' c',LE z TO i1 i2 S N xs ys h0 (min xs.size ys.size) acc' c' h'→R (.ok (.ret .none)) { s with heap:=h' }) :
  wpAny (model prog w) A.in1 (Builtin.«list.__init__» ⟨[.ref S,.ref z],[]⟩) (fun fin s'=>match fin with | .done f=>R (.ok f) s' | .again c'=>c'.quiet=true∧codeAny (model prog w) A c' R s') (fun e s'=>R (.error e) s') s:=by
 obtain ⟨l1,_⟩:=L.lt
 show wpAny _ _ (do let old ← Builtin.List.listItems (.ref S);Builtin.List.listUpdate (.ref S) (fun _=>#[]);letGo old.toList.reverse;Builtin.List.listExtendWith (.ref S) (.ref z) .none) _ _ s
 refine wpAny_bind ?_
 unfold Builtin.List.listItems
 refine wpAny_bind <| wpAny_seqItems x.ls rfl <| wpAny_pure ?_
 show wpAny _ _ (updateSeq S (fun _=>#[])>>=fun _=>letGo _>>=fun _=>Builtin.List.listExtendWith (.ref S) (.ref z) .none) _ _ s
 refine wpAny_bind <| wpAny_updateSeq x.ls rfl ?_
 have e2:=Heap.get?_update_self (Obj.mapSeq (fun _=>(#[]:Array Value))) x.ls rfl
 have sb:Heap.SameBut S s.heap (s.heap.update S (Obj.mapSeq (fun _=>(#[]:Array Value)))):=Heap.SameBut.update ..
 refine wpAny_bind <| wpAny_letGo ?_
 exact zext hh L hn .none (sb.extBut _ _ (Nat.ne_of_lt l1) hz) (x.at L sb e2 rfl (fun j v e=>by simp at e) fun j k v e=>by simp at e) hR
end
section
variable {prog:Program} {w:World} {A:Around} {E:Value→Shared→Prop} {s:Shared}
theorem call_list_zip {z TI TO i1 i2 a b:Nat} {xs ys:Array Value} {Q:Value→Shared→Prop} (hh:A.handled=none) (D:ZipApart z TI TO i1 i2 a b) (hn:min xs.size ys.size≤2 ^ 24) (hz:IsZip s.heap z TI TO .none) (hTI:IsPair s.heap TI (.ref i1) (.ref i2)) (hTO:∃ u v,IsPair s.heap TO u v)
  (h1:s.heap.IsListIter i1 a 0) (h2:s.heap.IsListIter i2 b 0) (hl1:s.heap.IsList a xs) (hl2:s.heap.IsList b ys)
  (hQ:∀ h' acc' c',LE z TO i1 i2 s.heap.objs.size (s.heap.objs.size + 1) xs ys s.heap (min xs.size ys.size) acc' c' h'→Q (.ref s.heap.objs.size) { s with heap:=h' }):wpAny (model prog w) A (call (.type "list") [.ref z]) Q E s:=by
 refine callType_codes (Q₁:=fun obj s₁=>obj=.ref s.heap.objs.size∧s₁={ s with heap:=s.heap.push { cls:=.type "list",data:=.seq #[] } }) F.called_list (F.typeCall_list_1 _) F.entry_list_init (code_list_new _ ⟨rfl,rfl⟩) fun obj s₁ h₁=>?_
 obtain ⟨rfl,rfl⟩:=h₁
 have hS:(s.heap.push { cls:=.type "list",data:=.seq #[] }).get? s.heap.objs.size=some { cls:=.type "list",data:=.seq #[] }:=Heap.get?_push_size _ rfl
 have up:∀ {q o},s.heap.get? q=some o→(s.heap.push { cls:=.type "list",data:=.seq #[] }).get? q=some o:=fun e=>Heap.get?_push_of_some _ e
 have lt:∀ {q o},s.heap.get? q=some o→q < s.heap.objs.size:=fun e=>Heap.lt_size e
 obtain ⟨u,v,hTO⟩:=hTO
 have L:LA z TI TO i1 i2 a b s.heap.objs.size (s.heap.objs.size + 1):=by
  refine ⟨D,⟨lt hz,lt hTI,lt hTO,?_,?_,?_,?_⟩,Nat.lt_succ_self _⟩
  ·obtain ⟨_,e,_⟩:=h1;exact lt e
  ·obtain ⟨_,e,_⟩:=h2;exact lt e
  ·obtain ⟨_,e,_⟩:=hl1;exact lt e
  ·obtain ⟨_,e,_⟩:=hl2;exact lt e
 have x:LZ z TI TO i1 i2 a b s.heap.objs.size (s.heap.objs.size + 1) xs ys s.heap 0 #[] 0 (s.heap.push { cls:=.type "list",data:=.seq #[] }):=by
  refine ⟨.inl (up hz),up hTI,⟨u,v,up hTO⟩,h1.at fun o e=>up e,h2.at fun o e=>up e,?_,?_,hS,by rw [Heap.size_push];exact yh _,rfl,fun j v e=>by simp at e,fun j k v e=>by simp at e,fun q o _ _ _ _ _ _ e=>up e⟩
  ·obtain ⟨o,e,d⟩:=hl1;exact ⟨o,up e,d⟩
  ·obtain ⟨o,e,d⟩:=hl2;exact ⟨o,up e,d⟩
 exact ⟨⟨_,hS,rfl⟩,F.args_list_init_2 _ _,zinit (A:=A.in1) hh L hn (up hz) x fun h' acc' c' hE=>⟨rfl,hQ h' acc' c' hE⟩⟩
end
structure Zl (H H':Hp) (l:Addr) (ts:List Addr) (xs ys:List V):Prop where
 sm:L2.Same H H'
 fl:H l=none
 ls:H' l=some (.lst (ts.map V.ref))
 len:ts.length=min xs.length ys.length
 tp:∀ (j:Nat) t,ts[j]?=some t→H t=none∧∃ x y,xs[j]?=some x∧ys[j]?=some y∧H' t=some (.tup [x,y])
theorem qeS (H:Hp):∀ (ts:List Addr) (xs ys:List V),ts.Nodup→ts.length≤xs.length→ts.length≤ys.length→∃ G:Hp,(∀ (j:Nat) t x y,ts[j]?=some t→xs[j]?=some x→ys[j]?=some y→G t=some (.tup [x,y]))∧∀ q,q∉ts→G q=H q
 | [],_,_,_,_,_=>⟨H,fun j t x y e=>by simp at e,fun _ _=>rfl⟩
 | t::ts,[],_,_,h,_=>by simp at h
 | t::ts,_::_,[],_,_,h=>by simp at h
 | t::ts,x::xs,y::ys,nd,h1,h2=>by
  obtain ⟨n1,n2⟩:=yo.mp nd
  obtain ⟨G,g1,g2⟩:=qeS H ts xs ys n2 (by simpa using h1) (by simpa using h2)
  refine ⟨upd G t (.tup [x,y]),fun j t' x' y' e1 e2 e3=>?_,fun q hq=>?_⟩
  ·cases j with
   | zero=>simp at e1 e2 e3;subst e1 e2 e3;exact qb
   | succ j =>
    have e1':ts[j]?=some t':=by simpa using e1
    rw [qg fun z=>n1 (by rw [← z];exact ye e1')]
    exact g1 j t' x' y' e1' (by simpa using e2) (by simpa using e3)
  ·rw [qg fun z=>hq (by rw [z];exact List.mem_cons_self)]
   exact g2 q fun z=>hq (List.mem_cons_of_mem _ z)
def refN:Value→Nat
 | .ref a=>a
 | _=>0
def tLZ (K:yg) (ta:TA):TE:=fun σ H Q=>ta σ H fun vs H1=>∃ a b xs ys,vs=[.ref a,.ref b]∧SqL K H1 a xs∧SqL K H1 b ys∧xs.length≤1000∧∀ l ts H',Zl H1 H' l ts xs ys→Q (.ref l) H'
theorem vLZ {K:yg} {ta:TA} {σ:St} {H:Hp} {Q:VK} (h:ta σ H fun vs H1=>∃ a b xs ys,vs=[.ref a,.ref b]∧SqL K H1 a xs∧SqL K H1 b ys∧xs.length≤1000∧∀ l ts H',Zl H1 H' l ts xs ys→Q (.ref l) H'):tLZ K ta σ H Q:=h
theorem qcq {X:Cx} {K:yg} {a b:Expr} {ta:TA} {p p2 pos pos2:Pos} (hK:X.K=K) (hc:X.calm=true) (hg:Gl X "list") (hg2:Gl X "zip") (hm:X.mg "list"=none) (hm2:X.mg "zip"=none) (ha:PA X [a,b] ta) (hs:starEach [a,b] X.env=[(false,eval a X.env),(false,eval b X.env)]:=by rfl) (hs2:starEach [b] X.env=[(false,eval b X.env)]:=by rfl)
  (he:starEach [.Call (.Name "zip" p2) [a,b] [] pos2] X.env=[(false,eval (.Call (.Name "zip" p2) [a,b] [] pos2) X.env)]:=by rfl):PE X (.Call (.Name "list" p) [.Call (.Name "zip" p2) [a,b] [] pos2] [] pos) (tLZ K ta):=by
 subst hK
 intro pins s σ H Q I h
 refine Call_ (qaR I hg hm boot_list (PyProof.Rows.callWith_type1 (T:="list") ?_ he rfl))
 rw [he]
 show wpAny _ _ (spliced ((false,eval (.Call (.Name "zip" p2) [a,b] [] pos2) X.env)::[])) _ _ s
 refine Calls.spliced_cons ?_
 refine Call_ (qaR I hg2 hm2 qcM (PyProof.Rows.callWith_type1 (thn (ha pos2 pins s σ H _ I h) fun us s1 ⟨vs,H1,I1,r1,q1⟩=>?_) (by rw [hs,hs2]) (by rw [hs2];rfl)))
 obtain ⟨a,b,xs,ys,e,hq,hq2,hx,q⟩:=q1
 subst e
 cases r1 with
 | cons r rr =>
  cases rr with
  | cons r2 rr =>
   cases rr
   cases r
   cases r2
   obtain ⟨its,rv,pl,_⟩:=I1.list hq
   obtain ⟨its2,rv2,pl2,_⟩:=I1.list hq2
   have lta:a < s1.heap.objs.size:=by obtain ⟨_,e,_⟩:=pl.isList;exact Heap.lt_size e
   have ltb:b < s1.heap.objs.size:=by obtain ⟨_,e,_⟩:=pl2.isList;exact Heap.lt_size e
   have l1:=rv.length
   have l2:=rv2.length
   refine call_zip_2 pl.isList pl2.isList fun h1 hz hTI hTO hi1 hi2 hsz hk=>Calls.spliced_nil ?_
   have la:h1.IsList a its.toArray:=by obtain ⟨o,e,d⟩:=pl.isList;exact ⟨o,hk _ _ e,d⟩
   have lb:h1.IsList b its2.toArray:=by obtain ⟨o,e,d⟩:=pl2.isList;exact ⟨o,hk _ _ e,d⟩
   refine call_list_zip (I1.ok.hd hc) (PySem.W.ktu_apart _ _ _ lta ltb) (by simp only [List.size_toArray];omega) hz hTI ⟨_,_,hTO⟩ hi1 hi2 la lb fun h2 acc c L=>?_
   have L:LE (s1.heap.objs.size + 4) (s1.heap.objs.size + 3) s1.heap.objs.size (s1.heap.objs.size + 1) h1.objs.size (h1.objs.size + 1) its.toArray its2.toArray h1 (min its.toArray.size its2.toArray.size) acc c h2:=L
   have hln:acc.size=min xs.length ys.length:=by rw [L.len,l1,l2,List.size_toArray,List.size_toArray]
   obtain ⟨ts,hts⟩:∃ ts,ts=acc.toList.map refN:=⟨_,rfl⟩
   have tlen:ts.length=min xs.length ys.length:=by rw [hts,ya,Array.length_toList,hln]
   have tj:∀ (j:Nat) t,ts[j]?=some t→acc[j]?=some (.ref t)∧h1.objs.size + 1≤t∧∃ x y,xs[j]?=some x∧ys[j]?=some y∧∃ u v,RelV x u∧RelV y v∧IsPair h2 t u v:=fun j t e=>by
    rw [hts,yd,Array.getElem?_toList] at e
    obtain ⟨v,ev,et⟩:=yn.mp e
    obtain ⟨t',u1,u2,q1,q2,q3,q4,q5⟩:=L.its j v ev
    subst q1
    have et':t'=t:=et
    subst et'
    have hj:j < acc.size:=(Array.getElem?_eq_some_iff.mp ev).1
    obtain ⟨x,hx'⟩:∃ x,xs[j]?=some x:=⟨_,yb (by omega)⟩
    obtain ⟨y,hy'⟩:∃ y,ys[j]?=some y:=⟨_,yb (by omega)⟩
    obtain ⟨a1,ea1,ra1⟩:=rv.get hx'
    obtain ⟨a2,ea2,ra2⟩:=rv2.get hy'
    have b1:a1=u1:=by rw [List.getElem?_toArray,ea1] at q4;cases q4;rfl
    have b2:a2=u2:=by rw [List.getElem?_toArray,ea2] at q5;cases q5;rfl
    subst b1 b2
    exact ⟨ev,q2,x,y,hx',hy',a1,a2,ra1,ra2,q3⟩
   have nd:ts.Nodup:=by
    refine List.pairwise_iff_getElem.mpr fun i j hi hj hij e=>?_
    have e1:=(tj i ts[i] (yb hi)).1
    have e2:=(tj j ts[j] (yb hj)).1
    rw [e] at e1
    exact absurd (L.nd i j _ e1 e2) (Nat.ne_of_lt hij)
   have mem:∀ t∈ts,h1.objs.size + 1≤t:=fun t ht=>by
    obtain ⟨j,e⟩:=List.mem_iff_getElem?.mp ht
    exact (tj j t e).2.1
   obtain ⟨G,g1,g2⟩:=qeS H1 ts xs ys nd (by omega) (by omega)
   have old:∀ q,q < s1.heap.objs.size→upd G h1.objs.size (.lst (ts.map V.ref)) q=H1 q:=fun q hq=>by
    rw [qg (Nat.ne_of_lt (by omega))]
    exact g2 q fun z=>by have:=mem q z;omega
   have tl:∀ t∈ts,t≠h1.objs.size:=fun t ht=>by have:=mem t ht;exact Nat.ne_of_gt this
   refine ⟨.ref _,_,I1.laidM (t':=s1.toks) (H':=upd G h1.objs.size (.lst (ts.map V.ref))) (fun b u e=>?_) old fun b u hb e=>?_,rfl,q _ ts _ ⟨fun b o e=>?_,I1.hok.fresh (by show (s1.heap.objs.size:Nat)≤h1.objs.size;omega),qb,tlen,fun j t e=>?_⟩⟩
   ·have lb:∀ m:Nat,s1.heap.objs.size≤m→b < m:=fun m hm=>yj (Heap.lt_size e) hm
    exact L.kp b u (lb _ (by omega)) (Nat.ne_of_lt (lb _ (by omega))) (Nat.ne_of_lt (lb _ (by omega))) (Nat.ne_of_lt (lb _ (by omega))) (Nat.ne_of_lt (lb _ (by omega))) (Nat.ne_of_lt (lb _ (by omega))) (hk b u e)
   ·by_cases hl:b=h1.objs.size
    ·subst hl
     rw [qb] at e
     cases e
     refine ⟨by rw [ya,tlen,sizeLine_eq];omega,acc.toList,c,zW (by rw [ya,tlen];exact hln.symm) fun j y u e1 e2=>?_,by rw [Array.toArray_toList];exact L.ls⟩
     rw [yd] at e1
     obtain ⟨t,et,ey⟩:=yn.mp e1
     subst ey
     rw [Array.getElem?_toList,(tj j t et).1] at e2
     cases e2
     rfl
    ·rw [qg hl] at e
     by_cases hm:b∈ts
     ·obtain ⟨j,ej⟩:=List.mem_iff_getElem?.mp hm
      obtain ⟨_,_,x,y,ex,ey,u1,u2,r1,r2,ep⟩:=tj j b ej
      rw [g1 j b x y ej ex ey] at e
      cases e
      exact ⟨by show 2≤sizeLine;decide,[u1,u2],.cons r1 (.cons r2 .nil),⟨_,ep,rfl,_,rfl⟩⟩
     ·rw [g2 b hm,I1.hok.fresh hb] at e
      cases e
   ·rw [old b (Nat.lt_of_not_le fun z=>by rw [I1.hok.fresh z] at e;cases e)]
    exact e
   ·obtain ⟨_,e2,x,y,ex,ey,_⟩:=tj j t e
    refine ⟨I1.hok.fresh (by omega),x,y,ex,ey,?_⟩
    rw [qg (tl t (ye e))]
    exact g1 j t x y e ex ey
end L2
namespace K36
open PySem L2 PyProof.Rows
theorem Sr (H:Hp):L2.Same H H:=L2.Same.refl H
theorem j8 {k:Nat} {A:Around} (hr:Room k A):A.units + 100 < cLine:=by have:=hr.un;omega
theorem hmR {k j:Nat} {A:Around} (hr:Room k A) (h:j≤k:=by decide):Room j A:=hr.mono h
local macro_rules | `(tactic| walk_at "w")=>`(tactic| first
 | with_reducible refine vSeq ?_ | with_reducible refine vAsg ?_ | with_reducible refine vAsgS ?_ | with_reducible refine vIfS ?_ | with_reducible refine vRet ?_ | with_reducible refine vNext ?_ | with_reducible refine vC ?_
 | ((with_reducible refine' vVar ?hv ?_);(case hv=>rfl)) | with_reducible refine vOp ?_ | with_reducible refine vChain ?_ | with_reducible refine vNil ?_ | with_reducible refine vCons ?_ | with_reducible refine vCB ?_ | with_reducible refine vCall ?_
 | with_reducible refine vLst ?_ | with_reducible refine vTup ?_ | with_reducible refine vTest ?_ | with_reducible refine vB ?_ | with_reducible refine vNot ?_ | with_reducible refine vAnd ?_ | with_reducible refine vOr ?_
 | with_reducible refine vAndV ?_ | with_reducible refine vOrV ?_ | with_reducible refine vNotV ?_ | with_reducible refine vYes ?_ | with_reducible refine vLeI ?_ | with_reducible refine vLeS ?_ | with_reducible refine vIsB ?_ | with_reducible refine vAddI ?_ | with_reducible refine vSl ?_ | with_reducible refine vNoPart ?_ | with_reducible refine vPart ?_ | with_reducible refine vExI ?_ | with_reducible refine vBM ?_ | with_reducible refine vBM0 ?_ | with_reducible refine vComp ?_ | with_reducible refine vFor ?_ | with_reducible refine vRng1 ?_ | with_reducible refine vAny ?_ | with_reducible refine vGN ?_ | with_reducible refine vI0 ?_ | with_reducible refine vEqI ?_ | with_reducible refine vEqB ?_ | with_reducible refine vEx ?_ | with_reducible refine vDrop ?_ | with_reducible refine vRetN ?_ | with_reducible refine vFldU ?_ | with_reducible refine vSFldU ?_ | with_reducible refine vXMake ?_ | with_reducible refine vMake ?_ | with_reducible refine vMeth ?_ | with_reducible refine vVinit ?_ | with_reducible refine vCallS ?_ | with_reducible refine vRaise ?_ | with_reducible refine vMethS ?_ | with_reducible refine vMakeS ?_ | with_reducible refine vUn ?_ | with_reducible refine vIf ?_ | with_reducible refine vRev ?_ | with_reducible refine vEnum ?_ | with_reducible refine vDGet2 ?_ | with_reducible refine vStep ?_)
local macro_rules | `(tactic| walk_at "v")=>`(tactic| repeat walk_at "w")
local macro_rules | `(tactic| ext)=>`(tactic| walk_at "v")
def fAtt:List Str:=["board", "partners", "rows", "parents", "bases", "rings", "waiting", "longer"]
structure Txt (K:W.Frag) (mg:Str→Option Value) (cc:Nat→Addr) (cw:Addr):Prop where
 b_len:mg "len"=none
 b_int:mg "int"=none
 b_enumerate:mg "enumerate"=none
 b_all:mg "all"=none
 b_max:mg "max"=none
 b_min:mg "min"=none
 b_isinstance:mg "isinstance"=none
 b_bool:mg "bool"=none
 b_str:mg "str"=none
 b_range:mg "range"=none
 b_list:mg "list"=none
 b_tuple:mg "tuple"=none
 g_LONGEST_NAME:∃ tk,mg "LONGEST_NAME"=some (.int 6 tk)
 g_MOST_PLACES:∃ tk,mg "MOST_PLACES"=some (.int 14 tk)
 g_MOST_TIES:∃ tk,mg "MOST_TIES"=some (.int 30 tk)
 wcl:Cls K cw
 wn:NoAttr K cw "numbers"
 wo:NoAttr K cw "order"
 wr:NoAttr K cw "near"
 m_Web:mg "Web"=some (.ref cw)
 m_Forest:mg "Forest"=some (.ref (cc 9))
 fcl:Cls K (cc 9)
 fa:∀ a∈fAtt,NoAttr K (cc 9) a
 b_zip:mg "zip"=none
theorem sc_is_name:FnScope ["thing"] ["thing"] (qd zo):=fS
theorem sc_has_bit:FnScope ["bits", "number"] ["bits", "number"] (qd zE):=fS
theorem sc_is_place:FnScope ["numbers", "thing"] ["numbers", "thing"] (qd za):=fS
theorem sc_are_two_places:FnScope ["numbers", "thing", "both"] ["numbers", "thing"] (qd qZ):=fS
theorem qO {l:Addr} {H H1:Hp} {o:HO} (a:L2.Same H H1) (hl:H1 l=none):L2.Same H (upd H1 l o):=fun c u e=>by
 have q:=a c u e
 rw [qg (qE q hl)]
 exact q
theorem qaH {l:Addr} {H H1:Hp} {o:HO} (a:L2.Same H H1) (hl:H l=none):L2.Same H (upd H1 l o):=fun c u e=>by
 rw [qg (qE e hl)]
 exact a c u e
def sg (c:Nat):Bool:=if (!decide (([c]:List Nat) < ("a":Str).cps.toList))=true then !decide (("z":Str).cps.toList < [c]) else false
def zF (x:Str):Bool:=if 1≤x.length∧x.length≤6 then x.cps.toList.all sg else false
theorem nameS_at {x:Str} (h:zF x=true):1≤x.length∧x.length≤6∧x.cps.toList.all sg=true:=by
 unfold zF at h
 split at h
 ·rename_i z;exact ⟨z.1,z.2,h⟩
 ·cases h
structure All2 {α β:Type} (R:α→β→Prop) (l:List α) (m:List β):Prop where
 len:l.length=m.length
 at_:∀ (k:Nat) a b,l[k]?=some a→m[k]?=some b→R a b
theorem All2.nil {α β:Type} {R:α→β→Prop}:All2 R [] []:=⟨rfl,fun k a b h=>by simp at h⟩
theorem All2.mono {α β:Type} {R S:α→β→Prop} {l:List α} {m:List β} (h:All2 R l m) (f:∀ a b,R a b→S a b):All2 S l m:=⟨h.len,fun k a b x y=>f a b (h.at_ k a b x y)⟩
theorem All2.snoc {α β:Type} {R:α→β→Prop} {l:List α} {m:List β} {x:α} {y:β} (h:All2 R l m) (r:R x y):All2 R (l++[x]) (m++[y]):=by
 refine ⟨by rw [List.length_append,List.length_append,h.len];rfl,fun k a b ha hb=>?_⟩
 by_cases hk:k < l.length
 ·rw [List.getElem?_append_left hk] at ha
  rw [List.getElem?_append_left (by rw [← h.len];exact hk)] at hb
  exact h.at_ k a b ha hb
 ·rw [List.getElem?_append_right (by omega)] at ha
  rw [List.getElem?_append_right (by rw [← h.len];omega)] at hb
  have h0:k - l.length=0:=by
   have:=(yc.mp ha).1
   simp at this
   omega
  rw [← h.len] at hb
  rw [h0] at ha hb
  cases ha
  cases hb
  exact r
theorem All2.mem {α β:Type} {R:α→β→Prop} {l:List α} {m:List β} (h:All2 R l m) {x:α} (hx:x∈l):∃ y∈m,R x y:=by
 obtain ⟨k,hk,e⟩:=List.getElem_of_mem hx
 have hk':k < m.length:=by rw [← h.len];exact hk
 exact ⟨m[k],List.getElem_mem hk',h.at_ k x m[k] (by rw [yb hk,e]) (yb hk')⟩
def PL (H:Hp) (l:Addr) (ts:List Addr) (tps:List (Str×Str)):Prop:=H l=some (.lst (ts.map V.ref))∧All2 (fun t ab=>H t=some (.tup [.str ab.1,.str ab.2])) ts tps
theorem PL.same {l:Addr} {H H':Hp} {ts:List Addr} {tps:List (Str×Str)} (h:PL H l ts tps) (s:L2.Same H H'):PL H' l ts tps:=⟨s _ _ h.1,h.2.mono fun _ _ z=>s _ _ z⟩
section
variable {P:Program} {w:World} {K:W.Frag} {mg:Str→Option Value} {base:Heap} {cc:Nat→Addr} {cw:Addr} {f:Addr} {fd:FuncData}
inductive spName (vs:List V) (H:Hp) (Q:VK) (E:XK):Prop|mk (x:Str) (_:vs=[.str x]) (_:zF x=true) (_:∀ H',L2.Same H H'→Q (.bl true) H')
theorem ok_name (F:Fun K "is_name" "is_name" zo f fd) (T:Txt K mg cc cw):FnOk P w K mg base CX0 1 f fd ["thing"] spName:=by
 refine F.ok sc_is_name fun _ _ _ _ H vs Q E hr h=>?_
 ·obtain ⟨x,rfl,hn,q⟩:=h
  obtain ⟨n1,n2,n3⟩:=nameS_at hn
  refine ⟨_,(qc (qV (PW.pt (qaT (js (jg (qw (qcL (K:=K) rfl) rfl T.b_isinstance boot_isinstance (qa (pv 0) (qa (zB (v:=.ty "str") rfl T.b_str boot_str rfl) qe))))) (qaq (js (pt_chain qe4 qe4 qi (qw (zw (K:=K) rfl) rfl T.b_len boot_len (qa (pv 0) qe)) (qbv rfl T.g_LONGEST_NAME)))))) (qf (qm j5)) qu)
 (qf (qm (qw (qeo (K:=K) rfl rfl) rfl T.b_all boot_all (qa (ju (sc:=qd zo) (XN:=["thing"]) ["sign"] 1 [] rfl rfl rfl (by decide +kernel) rfl (by decide +kernel)
  (qT (K:=K) rfl (pv 0)) (fun _ _ _ _=>(qq (i:=0) (show (["sign"]:List Str).Nodup by decide +kernel) rfl (Or.inl rfl))) qY
  (fun _ _ _ _=>jS)
  (fun _ _ _ _=>(pe_chain qe4 qe4 qbd (pv 0) qbd))) qe))))),?_⟩
  ext
  refine qdR (.inl (.str x)) rfl (qbw K "str" (by simp) "str" (by simp)) ?_
  ext
  refine yq ?_
  ext
  refine vLenS (yi n2 (by decide)) ?_
  ext
  refine qU (fun h1=>?_) fun h1=>absurd (decide_eq_true (by omega)) h1
  ext
  refine qU (fun h2=>by simp only [Bool.not_eq_true',decide_eq_false_iff_not] at h2;omega) fun h2=>?_
  ext
  refine comp_str (fun i ys H'=>H'=H∧ys=((x.cps.toList.take i).map sg).map V.bl) ⟨rfl,by simp⟩ (fun i c ys H' hc hp=>?_) fun ys H' hp=>?_
  ·obtain ⟨rfl,rfl⟩:=hp
   ext
   refine zv ?_
   ext
   have hl:(List.map V.bl (List.map sg (List.take i x.cps.toList))).length < sizeLine:=by
    rw [ya,ya,List.length_take]
    exact qh (yi (Nat.min_le_right _ _) (by simpa [Str.length] using (show x.length≤1000 by omega)))
   have key:∀ b,b=sg c→(List.map V.bl (List.map sg (List.take i x.cps.toList)))++[V.bl b]=List.map V.bl (List.map sg (List.take (i + 1) x.cps.toList)):=by
    intro b hb
    have e':x.cps.toList[i]?=some c:=by simpa using hc
    rw [hb,List.take_add_one,e']
    simp
   refine qU (fun h3=>?_) fun h3=>⟨hl,rfl,key _ (by unfold sg;rw [if_neg h3])⟩
   ext
   exact ⟨hl,rfl,key _ (by unfold sg;rw [if_pos h3])⟩
  ·obtain ⟨rfl,rfl⟩:=hp
   have ht:x.cps.toList.take x.cps.size=x.cps.toList:=by rw [← Array.length_toList,List.take_length]
   rw [ht]
   refine ⟨?_,fun l hl=>?_⟩
   ·rw [ya,ya]
    exact Nat.le_of_lt (qh (by simpa [Str.length] using (show x.length≤1000 by omega)))
   ·ext
    refine ⟨l,x.cps.toList.map sg,rfl,SqL.of qb,?_⟩
    have z:=q _ (qO (Sr H') (o:=.lst ((x.cps.toList.map sg).map V.bl)) hl)
    rw [List.all_map]
    rw [← n3] at z
    exact z
inductive spBit (vs:List V) (H:Hp) (Q:VK) (E:XK):Prop|mk (b n:Int) (_:vs=[.int b,.int n]) (_:0≤n) (_:Q (.bl (decide (Builtin.bitAnd (b / 2 ^ n.toNat) 1=1))) H)
theorem ok_bit (F:Fun K "has_bit" "has_bit" zE f fd):FnOk P w K mg base CX0 1 f fd ["bits", "number"] spBit:=by
 refine F.ok sc_has_bit fun _ _ _ _ H vs Q E hr h=>?_
 ·obtain ⟨b,n,rfl,hn,q⟩:=h
  have hu:=j8 hr
  refine ⟨_,(qf (qm (jt (qaj (K:=K) rfl hu) (qP op_and (qP op_shr (pv 0) (pv 1)) qi) qi (qB _)))),?_⟩
  ext
  refine vI hn ?_
  ext
  refine .inl (.inl (.inl ⟨rfl,rfl,?_⟩))
  exact q
def qbb:List Str→Nat→List (Key×V)
 | [],_=>[]
 | s::r,i=>(.inr s,.int i)::qbb r (i + 1)
theorem qb8 (y:Str):∀ (ss:List Str) (i:Nat),qbb (ss++[y]) i=qbb ss i++[(.inr y,.int (i + ss.length:Nat))]
 | [],i=>rfl
 | s::r,i=>by
  show (_::qbb (r++[y]) (i + 1))=_::(qbb r (i + 1)++_)
  rw [qb8 y r (i + 1)]
  have:i + 1 + r.length=i + (s::r).length:=by simp;omega
  rw [this]
theorem zM:∀ (ss:List Str) (i:Nat),(qbb ss i).length=ss.length
 | [],_=>rfl
 | _::r,i=>congrArg (· + 1) (zM r (i + 1))
theorem qa4 {y:Str}:∀ {ss:List Str} {i:Nat},y∉ss→j9 (qbb ss i) (.inr y:Key)=none
 | [],_,_=>rfl
 | s::r,i,h=>by
  have h1:¬ s=y:=fun e=>h (by rw [e];exact List.mem_cons_self)
  show j9 ((.inr s,V.int i)::qbb r (i + 1)) _=none
  rw [q0 (p:=((.inr s:Key),V.int i)) (fun e=>h1 (Sum.inr.inj e))]
  exact qa4 fun m=>h (List.mem_cons_of_mem _ m)
theorem j3 {y:Str}:∀ {ss:List Str} {i:Nat},y∈ss→∃ j,j < ss.length∧ss[j]?=some y∧j9 (qbb ss i) (.inr y:Key)=some (.int (i + j:Nat))
 | [],_,h=>by cases h
 | s::r,i,h=>by
  by_cases e:s=y
  ·subst e
   exact ⟨0,by simp,rfl,jk (p:=((.inr s:Key),V.int i)) rfl⟩
  ·rcases List.mem_cons.mp h with z | z
   ·exact absurd z.symm e
   ·obtain ⟨j,h1,h2,h3⟩:=j3 (i:=i + 1) z
    refine ⟨j + 1,by simp;omega,by simpa using h2,?_⟩
    show j9 ((.inr s,V.int i)::qbb r (i + 1)) _=_
    rw [q0 (p:=((.inr s:Key),V.int i)) (fun e'=>e (Sum.inr.inj e')),h3]
    have:i + 1 + j=i + (j + 1):=by omega
    rw [this]
theorem qa5 (y:Str) (ss:List Str) (i:Nat):(j9 (qbb ss i) (.inr y:Key)).isSome=decide (y∈ss):=by
 by_cases h:y∈ss
 ·obtain ⟨j,_,_,e⟩:=j3 (i:=i) h
  rw [e,decide_eq_true h];rfl
 ·rw [qa4 h,yl h];rfl
inductive spPlace (vs:List V) (H:Hp) (Q:VK) (E:XK):Prop|mk (d:Addr) (ss:List Str) (x:Str) (_:vs=[.ref d,.str x]) (_:H d=some (.dK (qbb ss 0))) (_:zF x=true) (_:x∈ss) (_:∀ H',L2.Same H H'→Q (.bl true) H')
theorem ok_place (F:Fun K "is_place" "is_place" za f fd) (D_is_name:DefOk P w K mg base CX0 1 "is_name" ["thing"] spName):FnOk P w K mg base CX0 2 f fd ["numbers", "thing"] spPlace:=by
 refine F.ok sc_is_place fun _ _ _ _ H vs Q E hr h=>?_
 ·obtain ⟨d,ss,x,rfl,hd,hn,hx,q⟩:=h
  have hu:=j8 hr
  refine ⟨_,(qf (qm (qbH (qp D_is_name (hmR hr) qC (qa (pv 1) qe)) (qbe (jt (zQ (K:=K) rfl hu) (pv 1) (pv 0) (by with_unfolding_all rfl)))))),?_⟩
  ext
  refine ⟨x,rfl,hn,fun H1 s1=>?_⟩
  ext
  refine zv ?_
  ext
  refine .inr (.inl ⟨d,_,rfl,DGet.k (k:=Sum.inr x) (s1 d _ hd),?_⟩)
  rw [qa5,decide_eq_true hx]
  exact q H1 s1
inductive spTwo (vs:List V) (H:Hp) (Q:VK) (E:XK):Prop|mk (d t:Addr) (ss:List Str) (a b:Str) (_:vs=[.ref d,.ref t]) (_:H d=some (.dK (qbb ss 0))) (_:H t=some (.tup [.str a,.str b])) (_:zF a=true) (_:zF b=true) (_:a∈ss) (_:b∈ss) (_:a≠b) (_:∀ H',L2.Same H H'→Q (.bl true) H')
theorem ok_two (F:Fun K "are_two_places" "are_two_places" qZ f fd) (T:Txt K mg cc cw) (D_is_place:DefOk P w K mg base CX0 2 "is_place" ["numbers", "thing"] spPlace):FnOk P w K mg base CX0 3 f fd ["numbers", "thing"] spTwo:=by
 refine F.ok sc_are_two_places fun _ _ _ _ H vs Q E hr h=>?_
 ·obtain ⟨d,t,ss,a,b,rfl,hd,et,na,nb,ha,hb,hne,q⟩:=h
  have hu:=j8 hr
  refine ⟨_,(qc (qV (PW.pt (qaT (js (jg (qw (qcL (K:=K) rfl) rfl T.b_isinstance boot_isinstance (qa (pv 1) (qa (zB (v:=.ty "tuple") rfl T.b_tuple boot_tuple rfl) qe))))) (qaq (qo (qan (K:=K) rfl hu) (qw (zw (K:=K) rfl) rfl T.b_len boot_len (qa (pv 1) qe)) qi (qB _))))) (qf (qm j5)) qu)
 (qc (qr (i:=2) sc_are_two_places.nd rfl (Or.inl rfl) (qbH (qp D_is_place (hmR hr) qC (qa (pv 0) (qa (qx (qy (K:=K) rfl hu) (pv 1) qi (fun _ _=>rfl)) qe))) (qbe (qp D_is_place (hmR hr) qC (qa (pv 0) (qa (qx (qy (K:=K) rfl hu) (pv 1) qi (fun _ _=>rfl)) qe))))))
 (qf (qm (qbH (pv 2) (qbe (jt (qan (K:=K) rfl hu) (qx (qy (K:=K) rfl hu) (pv 1) qi (fun _ _=>rfl)) (qx (qy (K:=K) rfl hu) (pv 1) qi (fun _ _=>rfl)) (qB _)))))))),?_⟩
  ext
  refine qdR (.inl (.tup et)) rfl (qbw K "tuple" (by simp) "tuple" (by simp)) ?_
  ext
  refine yq ?_
  ext
  refine vLenT et ?_
  ext
  refine .inl ⟨rfl,rfl,?_⟩
  ext
  refine yq ?_
  ext
  refine .inl (qaK et rfl ?_)
  ext
  refine ⟨d,ss,a,rfl,hd,na,ha,fun H1 s1=>?_⟩
  ext
  refine zv ?_
  ext
  refine .inl (qaK (s1 _ _ et) rfl ?_)
  ext
  refine ⟨d,ss,b,rfl,s1 _ _ hd,nb,hb,fun H2 s2=>?_⟩
  ext
  refine zv ?_
  ext
  refine .inl (qaK (s2 _ _ (s1 _ _ et)) rfl ?_)
  ext
  refine .inl (qaK (s2 _ _ (s1 _ _ et)) rfl ?_)
  refine .inl ⟨rfl,rfl,?_⟩
  have z:=q H2 (s1.trans s2)
  have e:(if true=true then !eqV (V.str a) (V.str b) else eqV (V.str a) (V.str b))=true:=by simp [eqV,hne]
  rw [e]
  exact z
theorem sc_numbers_of:FnScope ["names", "numbers", "name"] ["names"] (qd jM):=fS
theorem qcr (m j:Nat):decide (Builtin.bitAnd ((m:Int) / 2 ^ (j:Int).toNat) 1=1)=m.testBit j:=by
 rw [PyProof.Rows.bitAnd_m1,Nat.testBit_eq_decide_div_mod_eq]
 rw [Int.toNat_natCast]
 have e:(m:Int) / 2 ^ j=((m / 2 ^ j:Nat):Int):=by rw [Int.natCast_ediv,Int.natCast_pow];rfl
 rw [e]
 congr 1
 apply propext
 omega
theorem qd9 (m j:Nat):Builtin.bitOr (m:Int) (1 * 2 ^ (j:Int).toNat)=((m ||| 2 ^ j:Nat):Int):=by
 have e:(1 * 2 ^ (j:Int).toNat:Int)=((2 ^ j:Nat):Int):=by rw [Int.toNat_natCast,Int.one_mul,Int.natCast_pow];rfl
 rw [e]
 generalize 2 ^ j=k
 have n1:Builtin.bitNot (m:Int)=-(m:Int) - 1:=rfl
 have n2:Builtin.bitNot (k:Int)=-(k:Int) - 1:=rfl
 unfold Builtin.bitOr Builtin.bitAnd
 rw [n1,n2,yl (by omega),yl (by omega)]
 dsimp only
 unfold Builtin.bitNot
 have e1:(-(-(m:Int) - 1) - 1).toNat=m:=by omega
 have e2:(-(-(k:Int) - 1) - 1).toNat=k:=by omega
 rw [e1,e2]
 omega
def But (x:Addr) (H H':Hp):Prop:=∀ b o,b≠x→H b=some o→H' b=some o
theorem But.refl (x:Addr) (H:Hp):But x H H:=fun _ _ _ e=>e
theorem But.same {x:Addr} {H H1 H2:Hp} (a:But x H H1) (b:L2.Same H1 H2):But x H H2:=fun c o n e=>b c o (a c o n e)
theorem But.put {x:Addr} {H H1:Hp} {o:HO} (a:But x H H1):But x H (upd H1 x o):=fun c u n e=>by rw [qg n];exact a c u n e
theorem But.new {x l:Addr} {H H1:Hp} {o:HO} (a:But x H H1) (hl:H1 l=none):But x H (upd H1 l o):=a.same (qO (Sr H1) hl)
theorem qcs {K:W.Frag} {a q:Addr} {xs:List V} {H:Hp} {Q:VK} (h:H a=some (.lst xs)) (hq:H q=some (.tup [.ty "list",.ty "tuple"])) (k:Q (.bl true) H):qd4 K [.ref a,.ref q] H Q:=
 ⟨_,q,_,_,[.type "list",.type "tuple"],true,rfl,.inl (.lst h),hq,rfl,rfl,k⟩
inductive spNums (vs:List V) (H:Hp) (Q:VK) (E:XK):Prop|mk (a:Addr) (ss:List Str) (_:vs=[.ref a]) (_:H a=some (.lst (ss.map V.str))) (_:ss.length≤14) (_:ss.Nodup) (_:(∀ s∈ss,zF s=true)) (_:∀ d H',L2.Same H H'→H d=none→H' d=some (.dK (qbb ss 0))→Q (.ref d) H')
theorem ok_nums (F:Fun K "numbers_of" "numbers_of" jM f fd) (T:Txt K mg cc cw) (D_is_name:DefOk P w K mg base CX0 1 "is_name" ["thing"] spName) :
  FnOk P w K mg base CX0 4 f fd ["names"] spNums:=by
 refine F.ok sc_numbers_of fun _ _ _ _ H vs Q E hr h=>?_
 ·obtain ⟨a,ss,rfl,ha,h14,hnd,hnm,q⟩:=h
  have hu:=j8 hr
  refine ⟨_,(qc (qV (js (jg (qw (qcn (K:=K) rfl) rfl T.b_isinstance boot_isinstance (qa (pv 0) (qa (zk (qa (zB (v:=.ty "list") rfl T.b_list boot_list rfl) (qa (zB (v:=.ty "tuple") rfl T.b_tuple boot_tuple rfl) qe))) qe))))) (qf jx) qu)
 (qc (qV (qo qc9 (qw (zw (K:=K) rfl) rfl T.b_len boot_len (qa (pv 0) qe)) (qbv rfl T.g_MOST_PLACES) (qB _)) (qf jx) qu)
 (qc (qr (i:=1) sc_numbers_of.nd rfl (Or.inl rfl) zx)
 (qc (jL PassesOwn.never rfl (qT (K:=K) rfl (pv 0)) (qq (i:=2) sc_numbers_of.nd rfl (Or.inl rfl))
 (qc (qV (js (jg (qp D_is_name (hmR hr) qC (qa (pv 2) qe)))) (qf jx) qu)
 (qc (qV (qo (zQ (K:=K) rfl hu) (pv 2) (pv 1) (by with_unfolding_all rfl)) (qf jx) qu)
 (qf (j7 (qw (zw (K:=K) rfl) rfl T.b_len boot_len (qa (pv 1) qe)) (zi (pv 1) (pv 2) (zn hu)))))))
 (qf (qm (pv 1))))))),?_⟩
  ext
  refine ⟨by show 2≤sizeLine;decide,fun g hg=>?_⟩
  have s0:=qO (Sr H) (o:=.tup [.ty "list",.ty "tuple"]) hg
  ext
  refine qcs (s0 _ _ ha) qb ?_
  ext
  refine yq ?_
  ext
  refine qai (s0 _ _ ha) ?_
  rw [ya]
  ext
  refine qU (fun h=>by have:=yk h;omega) fun _=>?_
  ext
  intro d hd
  have s1:=qO s0 (o:=.dK []) hd
  have hd0:H d=none:=s0.free hd
  ext
  refine .inl ⟨⟨_,SqL.of (s1 _ _ ha)⟩,jf (K:=K) (fun i σ H'=>∃ v2,σ=[some (.ref a),some (.ref d),v2]∧L2.Same H H'∧H' d=some (.dK (qbb (ss.take i) 0))) ⟨none,rfl,s1,qb⟩ (fun i σ H' _ hp=>by obtain ⟨_,_,z,_⟩:=hp;exact SqL.of (z _ _ ha)) (fun i y σ H' hy hp=>?_) fun σ H' hp=>?_⟩
  ·obtain ⟨v2,rfl,s2,hk⟩:=hp
   rw [yd] at hy
   obtain ⟨x,hx,rfl⟩:=yn.mp hy
   have hil:i < ss.length:=(yc.mp hx).1
   have htk:ss.take (i + 1)=ss.take i++[x]:=by rw [List.take_add_one,hx];rfl
   have hm:x∉ss.take i:=fun z=>by
    have h3:(ss.take (i + 1)).Nodup:=hnd.sublist (List.take_sublist _ _)
    rw [htk] at h3
    exact (List.nodup_append.mp h3).2.2 _ z x (by simp) rfl
   ext
   refine ⟨x,rfl,hnm x (ye hx),fun H1 t1=>?_⟩
   have s3:=s2.trans t1
   ext
   refine yq ?_
   ext
   refine .inr (.inl ⟨d,_,rfl,DGet.k (k:=Sum.inr x) (t1 _ _ hk),?_⟩)
   rw [qa5,yl hm]
   ext
   refine yq ?_
   ext
   refine .inr ⟨_,t1 _ _ hk,?_⟩
   ext
   refine .inr ⟨d,_,rfl,DPut.k (k:=Sum.inr x) (t1 _ _ hk) (qh (by rw [zM,List.length_take];omega)),?_⟩
   refine ⟨_,rfl,qaH s3 hd0,?_⟩
   rw [qb,qaN _ (qa4 hm),htk,qb8,zM]
   simp only [Nat.zero_add]
  ·obtain ⟨v2,rfl,s2,hk⟩:=hp
   ext
   rw [ya,List.take_length] at hk
   exact q d H' s2 hd0 hk
theorem sc_Web_init:FnScope ["self", "names", "ties"] ["self", "names", "ties"] (qd zc):=fS
theorem sc_near_of:FnScope ["numbers", "ties", "near", "tie", "one", "other"] ["numbers", "ties"] (qd zG):=fS
def qa6 (ss:List Str) (ns:List Nat) (seen:List (Str×Str)):Prop:=ns.length=ss.length∧(∀ a,ns.getD a 0 < 2 ^ ss.length)∧∀ a b s t,ss[a]?=some s→ss[b]?=some t→(ns.getD a 0).testBit b=decide ((s,t)∈seen∨(t,s)∈seen)
theorem qv {ss:List Str} (h:ss.Nodup) {a b:Nat} {s:Str} (ha:ss[a]?=some s) (hb:ss[b]?=some s):a=b:=by
 have hp:=List.pairwise_iff_getElem.mp h
 obtain ⟨la,ea⟩:=yc.mp ha
 obtain ⟨lb,eb⟩:=yc.mp hb
 rcases Nat.lt_trichotomy a b with q | q | q
 ·exact absurd (ea.trans eb.symm) (hp a b la lb q)
 ·exact q
 ·exact absurd (eb.trans ea.symm) (hp b a lb la q)
theorem bits_zero {ss:List Str}:qa6 ss (List.replicate ss.length 0) []:=by
 have z:∀ a,(List.replicate ss.length 0).getD a 0=0:=fun a=>by
  simp only [List.getD,List.getElem?_replicate]
  split<;>rfl
 refine ⟨by simp,fun a=>by rw [z a];exact Nat.two_pow_pos _,fun a b s t ha hb=>?_⟩
 rw [z a]
 simp
theorem qay {ns:List Nat} {i j v:Nat} (h:i < ns.length):(ns.set i v).getD j 0=if i=j then v else ns.getD j 0:=by
 simp only [List.getD,List.getElem?_set]
 by_cases e:i=j
 ·subst e;simp [h]
 ·simp [e]
theorem bits_step {ss:List Str} {ns:List Nat} {seen:List (Str×Str)} (hb:qa6 ss ns seen) (hn:ss.Nodup) {i j:Nat} {s t:Str} (hi:ss[i]?=some s) (hj:ss[j]?=some t) (hst:s≠t) :
  qa6 ss ((ns.set i (ns.getD i 0 ||| 2 ^ j)).set j (ns.getD j 0 ||| 2 ^ i)) (seen++[(s,t)]):=by
 obtain ⟨hl,hlt,h⟩:=hb
 have li:i < ns.length:=by rw [hl];exact (yc.mp hi).1
 have lj:j < ns.length:=by rw [hl];exact (yc.mp hj).1
 have nij:i≠j:=fun e=>by rw [e,hj] at hi;cases hi;exact hst rfl
 have li':i < ss.length:=(yc.mp hi).1
 have lj':j < ss.length:=(yc.mp hj).1
 refine ⟨by simp [hl],fun a=>?_,fun a b u v ha hb'=>?_⟩
 ·rw [qay (by simpa using lj),qay li]
  split
  ·exact Nat.or_lt_two_pow (hlt _) (Nat.pow_lt_pow_right (by decide) li')
  ·split
   ·exact Nat.or_lt_two_pow (hlt _) (Nat.pow_lt_pow_right (by decide) lj')
   ·exact hlt _
 rw [qay (by simpa using lj),qay li]
 have h0:=h a b u v ha hb'
 have key:∀ P Q:Prop,(P↔Q)→∀ [Decidable P] [Decidable Q],decide P=decide Q:=fun P Q e=>by intro _ _;exact decide_eq_decide.mpr e
 by_cases ja:j=a
 ·subst ja
  rw [hj] at ha
  cases ha
  rw [if_pos rfl,Nat.testBit_or,h0,Nat.testBit_two_pow]
  by_cases ib:i=b
  ·subst ib
   rw [hi] at hb'
   cases hb'
   simp
  ·have vs:v≠s:=fun e=>by subst e;exact ib (qv hn hi hb')
   simp only [ib,decide_false,Bool.or_false]
   apply decide_eq_decide.mpr
   simp only [List.mem_append,List.mem_singleton,Prod.mk.injEq]
   constructor
   ·rintro (z | z)
    ·exact .inl (.inl z)
    ·exact .inr (.inl z)
   ·rintro ((z | ⟨z,_⟩) | (z | ⟨z,_⟩))
    ·exact .inl z
    ·exact absurd z.symm hst
    ·exact .inr z
    ·exact absurd z vs
 ·rw [if_neg ja]
  by_cases ia:i=a
  ·subst ia
   rw [hi] at ha
   cases ha
   rw [if_pos rfl,Nat.testBit_or,h0,Nat.testBit_two_pow]
   by_cases jb:j=b
   ·subst jb
    rw [hj] at hb'
    cases hb'
    simp
   ·have vt:v≠t:=fun e=>by subst e;exact jb (qv hn hj hb')
    simp only [jb,decide_false,Bool.or_false]
    apply decide_eq_decide.mpr
    simp only [List.mem_append,List.mem_singleton,Prod.mk.injEq]
    constructor
    ·rintro (z | z)
     ·exact .inl (.inl z)
     ·exact .inr (.inl z)
    ·rintro ((z | ⟨_,z⟩) | (z | ⟨_,z⟩))
     ·exact .inl z
     ·exact absurd z vt
     ·exact .inr z
     ·exact absurd z hst
  ·rw [if_neg ia,h0]
   have us:u≠s:=fun e=>by subst e;exact ia (qv hn hi ha)
   have ut:u≠t:=fun e=>by subst e;exact ja (qv hn hj ha)
   apply decide_eq_decide.mpr
   simp only [List.mem_append,List.mem_singleton,Prod.mk.injEq]
   constructor
   ·rintro (z | z)
    ·exact .inl (.inl z)
    ·exact .inr (.inl z)
   ·rintro ((z | ⟨z,_⟩) | (z | ⟨_,z⟩))
    ·exact .inl z
    ·exact absurd z us
    ·exact .inr z
    ·exact absurd z ut
def qcP (ns:List Nat):List V:=ns.map fun (n:Nat)=>.int (n:Int)
theorem qaO {ns:List Nat} {i:Nat} (h:i < ns.length):(qcP ns)[i]?=some (.int (ns.getD i 0:Nat)):=by
 unfold qcP
 rw [yd,yb h]
 simp [List.getD,h]
theorem qcQ (ns:List Nat) (i m:Nat):(qcP ns).set i (.int m)=qcP (ns.set i m):=by
 unfold qcP
 rw [List.map_set]
theorem natV_zero (k:Nat):(List.replicate k [V.int 0]).flatten=qcP (List.replicate k 0):=by
 induction k with
 | zero=>rfl
 | succ k ih=>rw [List.replicate_succ,List.flatten_cons,ih];rfl
theorem qct {n j:Nat} (h:j < n):ixN n (j:Int)=some j:=by
 unfold ixN
 rw [if_pos (by omega),if_pos (by omega)]
 rfl
def UN (x y:Str×Str):Prop:=x≠y∧x≠(y.2,y.1)
theorem UN.symm {x y:Str×Str} (h:UN x y):UN y x:=⟨fun e=>h.1 e.symm,fun e=>h.2 (by rw [e])⟩
structure TGo (ss:List Str) (tps:List (Str×Str)):Prop where
 few:tps.length≤30
 inn:∀ ab∈tps,ab.1∈ss∧ab.2∈ss∧ab.1≠ab.2
 un:tps.Pairwise UN
structure WOk (ss:List Str) (ns:List Nat):Prop where
 len:ns.length=ss.length
 few:ss.length≤14
 nd:ss.Nodup
 lt:∀ a,ns.getD a 0 < 2 ^ ss.length
 nm:∀ s∈ss,zF s=true
inductive WebAt (cw:Addr) (H:Hp) (x:Addr) (ss:List Str) (ns:List Nat):Prop|mk (dx d ol n:_) (_:H x=some (.ins cw dx (qI "near" (.ref n) (qI "order" (.ref ol) (qI "numbers" (.ref d) []))))) (_:H d=some (.dK (qbb ss 0))) (_:H ol=some (.lst (ss.map V.str))) (_:H n=some (.lst (qcP ns))) (_:WOk ss ns)
theorem WebAt.same {cw x:Addr} {H H':Hp} {ss:List Str} {ns:List Nat} (h:WebAt cw H x ss ns) (s:L2.Same H H'):WebAt cw H' x ss ns:=by
 obtain ⟨dx,d,ol,n,h1,h2,h3,h4,h5⟩:=h
 exact ⟨dx,d,ol,n,s _ _ h1,s _ _ h2,s _ _ h3,s _ _ h4,h5⟩
inductive WebN (H0:Hp) (cw:Addr) (H:Hp) (x:Addr) (ss:List Str) (ns:List Nat):Prop|mk (dx d ol n:_) (_:H x=some (.ins cw dx (qI "near" (.ref n) (qI "order" (.ref ol) (qI "numbers" (.ref d) []))))) (_:H d=some (.dK (qbb ss 0))) (_:H ol=some (.lst (ss.map V.str))) (_:H n=some (.lst (qcP ns))) (_:WOk ss ns) (_:H0 d=none) (_:H0 ol=none) (_:H0 n=none)
theorem WebN.web {H0:Hp} {cw x:Addr} {H:Hp} {ss:List Str} {ns:List Nat} (h:WebN H0 cw H x ss ns):WebAt cw H x ss ns:=by
 obtain ⟨dx,d,ol,n,h1,h2,h3,h4,h5,_⟩:=h
 exact ⟨dx,d,ol,n,h1,h2,h3,h4,h5⟩
inductive WebP (A:Addr→Prop) (cw:Addr) (H:Hp) (x:Addr) (ss:List Str) (ns:List Nat):Prop|mk (dx d ol n:_) (_:H x=some (.ins cw dx (qI "near" (.ref n) (qI "order" (.ref ol) (qI "numbers" (.ref d) []))))) (_:H d=some (.dK (qbb ss 0))) (_:H ol=some (.lst (ss.map V.str))) (_:H n=some (.lst (qcP ns))) (_:WOk ss ns) (_:¬ A x) (_:¬ A d) (_:¬ A ol) (_:¬ A n)
theorem WebP.web {A:Addr→Prop} {cw x:Addr} {H:Hp} {ss:List Str} {ns:List Nat} (h:WebP A cw H x ss ns):WebAt cw H x ss ns:=by
 obtain ⟨dx,d,ol,n,h1,h2,h3,h4,h5,_⟩:=h
 exact ⟨dx,d,ol,n,h1,h2,h3,h4,h5⟩
theorem WebP.keep {A:Addr→Prop} {cw x:Addr} {H H':Hp} {ss:List Str} {ns:List Nat} (h:WebP A cw H x ss ns) (k:∀ b o,¬ A b→H b=some o→H' b=some o):WebP A cw H' x ss ns:=by
 obtain ⟨dx,d,ol,n,h1,h2,h3,h4,h5,a1,a2,a3,a4⟩:=h
 exact ⟨dx,d,ol,n,k _ _ a1 h1,k _ _ a2 h2,k _ _ a3 h3,k _ _ a4 h4,h5,a1,a2,a3,a4⟩
theorem WebN.apart {H0:Hp} {cw x:Addr} {H:Hp} {ss:List Str} {ns:List Nat} {A:Addr→Prop} (h:WebN H0 cw H x ss ns) (hx:¬ A x) (ha:∀ a,A a→H0 a≠none):WebP A cw H x ss ns:=by
 obtain ⟨dx,d,ol,n,h1,h2,h3,h4,h5,a2,a3,a4⟩:=h
 exact ⟨dx,d,ol,n,h1,h2,h3,h4,h5,hx,fun z=>ha _ z a2,fun z=>ha _ z a3,fun z=>ha _ z a4⟩
theorem qb9:∀ (ss:List Str) (i:Nat),(qbb ss i).map (fun kv=>kV kv.1)=ss.map V.str
 | [],_=>rfl
 | s::r,i=>congrArg (V.str s::·) (qb9 r (i + 1))
inductive spNear (vs:List V) (H:Hp) (Q:VK) (E:XK):Prop|mk (d l:Addr) (ss:List Str) (ts:List Addr) (tps:List (Str×Str)) (_:vs=[.ref d,.ref l]) (_:H d=some (.dK (qbb ss 0))) (_:ss.length≤14) (_:ss.Nodup) (_:(∀ s∈ss,zF s=true)) (_:PL H l ts tps) (_:TGo ss tps) (_:∀ n ns H',L2.Same H H'→H n=none→H' n=some (.lst (qcP ns))→qa6 ss ns tps→Q (.ref n) H')
theorem ok_near (F:Fun K "near_of" "near_of" zG f fd) (T:Txt K mg cc cw) (D_are_two_places:DefOk P w K mg base CX0 3 "are_two_places" ["numbers", "thing"] spTwo) (D_has_bit:DefOk P w K mg base CX0 1 "has_bit" ["bits", "number"] spBit) :
  FnOk P w K mg base CX0 4 f fd ["numbers", "ties"] spNear:=by
 refine F.ok sc_near_of fun _ _ _ _ H vs Q E hr h=>?_
 ·obtain ⟨d,l,ss,ts,tps,rfl,hd,hs14,hnd,hnm,⟨hl,hal⟩,hg,q⟩:=h
  have hu:=j8 hr
  have htl:=hal.len
  have few:=hg.few
  refine ⟨_,(qc (qV (js (jg (qw (qcn (K:=K) rfl) rfl T.b_isinstance boot_isinstance (qa (pv 1) (qa (zk (qa (zB (v:=.ty "list") rfl T.b_list boot_list rfl) (qa (zB (v:=.ty "tuple") rfl T.b_tuple boot_tuple rfl) qe))) qe))))) (qf jx) qu)
 (qc (qV (qo qc9 (qw (zw (K:=K) rfl) rfl T.b_len boot_len (qa (pv 1) qe)) (qbv rfl T.g_MOST_TIES) (qB _)) (qf jx) qu)
 (qc (qr (i:=2) sc_near_of.nd rfl (Or.inl rfl) (qP qdZ (je (qa qi qe)) (qw (zw (K:=K) rfl) rfl T.b_len boot_len (qa (pv 0) qe))))
 (qc (jL PassesOwn.never rfl (qT (K:=K) rfl (pv 1)) (qq (i:=3) sc_near_of.nd rfl (Or.inl rfl))
 (qc (qV (js (jg (qp D_are_two_places (hmR hr) qC (qa (pv 0) (qa (pv 3) qe))))) (qf jx) qu)
 (qc (qr (i:=4) sc_near_of.nd rfl (Or.inl rfl) (qx (qy (K:=K) rfl hu) (pv 0) (qx (qy (K:=K) rfl hu) (pv 3) qi (fun _ _=>rfl)) (fun _ _=>rfl)))
 (qc (qr (i:=5) sc_near_of.nd rfl (Or.inl rfl) (qx (qy (K:=K) rfl hu) (pv 0) (qx (qy (K:=K) rfl hu) (pv 3) qi (fun _ _=>rfl)) (fun _ _=>rfl)))
 (qc (qV (jg (qp D_has_bit (hmR hr) qC (qa (qx (qy (K:=K) rfl hu) (pv 2) (pv 4) (fun _ _=>rfl)) (qa (pv 5) qe)))) (qf jx) qu)
 (qc (j7 (qP qeG (qx (qy (K:=K) rfl hu) (pv 2) (pv 4) (fun _ _=>rfl)) (qP qdX qi (pv 5))) (zi (pv 2) (pv 4) (zn hu)))
 (qf (j7 (qP qeG (qx (qy (K:=K) rfl hu) (pv 2) (pv 5) (fun _ _=>rfl)) (qP qdX qi (pv 4))) (zi (pv 2) (pv 5) (zn hu))))))))))
 (qf (qm (pv 2))))))),?_⟩
  ext
  refine ⟨by show 2≤sizeLine;decide,fun g hgg=>?_⟩
  have s0:=qO (Sr H) (o:=.tup [.ty "list",.ty "tuple"]) hgg
  ext
  refine qcs (s0 _ _ hl) qb ?_
  ext
  refine yq ?_
  ext
  refine qai (s0 _ _ hl) ?_
  rw [ya]
  ext
  refine qU (fun h=>by have:=yk h;omega) fun _=>?_
  ext
  refine ⟨by show 1≤sizeLine;decide,fun z hzz=>?_⟩
  have s1:=qO s0 (o:=.lst [.int 0]) hzz
  ext
  refine .inr ⟨_,s1 _ _ hd,?_⟩
  ext
  rw [zM]
  refine ⟨z,_,_,rfl,rfl,qb,by omega,by omega,by show 1 * _≤sizeLine;rw [Int.toNat_natCast];exact Nat.le_of_lt (qh (by omega)),fun n hn=>?_⟩
  rw [Int.toNat_natCast,natV_zero]
  have s2:=qO s1 (o:=.lst (qcP (List.replicate ss.length 0))) hn
  have n0:H n=none:=s1.free hn
  ext
  refine .inl ⟨⟨_,SqL.of (s2 _ _ hl)⟩,jf (K:=K) (fun i σ H'=>∃ v3 v4 v5 ns,σ=[some (.ref d),some (.ref l),some (.ref n),v3,v4,v5]∧L2.Same H H'∧H' n=some (.lst (qcP ns))∧qa6 ss ns (tps.take i))
   ⟨none,none,none,_,rfl,s2,qb,bits_zero⟩ (fun i σ H' _ hp=>by obtain ⟨_,_,_,_,_,z,_⟩:=hp;exact SqL.of (z _ _ hl)) (fun i y σ H' hy hp=>?_) fun σ H' hp=>?_⟩
  ·obtain ⟨v3,v4,v5,ns,rfl,s3,hnn,hbits⟩:=hp
   rw [yd] at hy
   obtain ⟨t,ht,rfl⟩:=yn.mp hy
   have hil:i < ts.length:=(yc.mp ht).1
   obtain ⟨⟨sx,sy⟩,hab⟩:∃ ab,tps[i]?=some ab:=⟨_,yb (by rw [← htl];exact hil)⟩
   have ea:=hal.at_ i t _ ht hab
   obtain ⟨m1,m2,hne⟩:=hg.inn _ (ye hab)
   dsimp only at ea m1 m2 hne
   have htk:tps.take (i + 1)=tps.take i++[(sx,sy)]:=by rw [List.take_add_one,hab];rfl
   have hno:¬ ((sx,sy)∈tps.take i∨(sy,sx)∈tps.take i):=fun z=>by
    have h3:(tps.take (i + 1)).Pairwise UN:=hg.un.sublist (List.take_sublist _ _)
    rw [htk] at h3
    have h4:=(List.pairwise_append.mp h3).2.2
    rcases z with z | z
    ·exact (h4 _ z (sx,sy) (by simp)).1 rfl
    ·exact (h4 _ z (sx,sy) (by simp)).2 rfl
   obtain ⟨ja,hja,gja,vja⟩:=j3 (i:=0) m1
   obtain ⟨jb,hjb,gjb,vjb⟩:=j3 (i:=0) m2
   rw [Nat.zero_add] at vja vjb
   have nab:ja≠jb:=fun e=>by rw [e,gjb] at gja;cases gja;exact hne rfl
   have lna:ja < ns.length:=by rw [hbits.1];exact hja
   have lnb:jb < ns.length:=by rw [hbits.1];exact hjb
   ext
   refine ⟨d,t,ss,sx,sy,rfl,s3 _ _ hd,s3 _ _ ea,hnm _ m1,hnm _ m2,m1,m2,hne,fun H1 t1=>?_⟩
   have s4:=s3.trans t1
   have hn1:=t1 _ _ hnn
   ext
   refine yq ?_
   ext
   refine .inl (qaK (s4 _ _ ea) rfl ?_)
   refine .inr ⟨d,.int ja,rfl,?_,?_⟩
   ·have:=DGet.k (k:=Sum.inr sx) (s4 _ _ hd)
    rw [vja] at this
    exact this
   ext
   refine .inl (qaK (s4 _ _ ea) rfl ?_)
   refine .inr ⟨d,.int jb,rfl,?_,?_⟩
   ·have:=DGet.k (k:=Sum.inr sy) (s4 _ _ hd)
    rw [vjb] at this
    exact this
   ext
   refine .inl (qah hn1 (qz (qaO lna)) ?_)
   ext
   refine ⟨_,_,rfl,by omega,?_⟩
   rw [qcr,hbits.2.2 ja jb sx sy gja gjb,yl hno]
   ext
   refine yq ?_
   ext
   refine .inl (qah hn1 (qz (qaO lna)) ?_)
   ext
   refine vI ⟨by omega,by omega,by decide⟩ ?_
   ext
   rw [qd9]
   refine .inl (qdO hn1 (qct (by unfold qcP;rw [ya];exact lna)) ?_)
   rw [qcQ]
   ext
   have e2:(ns.set ja (ns.getD ja 0 ||| 2 ^ jb)).getD jb 0=ns.getD jb 0:=by rw [qay lna,if_neg nab]
   refine .inl (qah qb (qz (qaO (by simpa using lnb))) ?_)
   ext
   refine vI ⟨by omega,by omega,by decide⟩ ?_
   ext
   rw [qd9,e2]
   refine .inl (qdO qb (qct (by unfold qcP;rw [ya];simpa using lnb)) ?_)
   rw [qcQ]
   refine ⟨_,_,_,_,rfl,qaH (qaH s4 n0) n0,qb,?_⟩
   rw [htk]
   exact bits_step hbits hnd gja gjb hne
  ·obtain ⟨v3,v4,v5,ns,rfl,s3,hnn,hbits⟩:=hp
   ext
   rw [ya,htl,List.take_length] at hbits
   exact q n _ H' s3 n0 hnn hbits
inductive spWeb (cw:Addr) (vs:List V) (H:Hp) (Q:VK) (E:XK):Prop|mk (x dx a l:Addr) (ss:List Str) (ts:List Addr) (tps:List (Str×Str)) (_:vs=[.ref x,.ref a,.ref l]) (_:H x=some (.ins cw dx [])) (_:H a=some (.lst (ss.map V.str))) (_:ss.length≤14) (_:ss.Nodup) (_:(∀ s∈ss,zF s=true)) (_:PL H l ts tps) (_:TGo ss tps) (_:∀ ns H',But x H H'→WebN H cw H' x ss ns→qa6 ss ns tps→Q .non H')
theorem PL.but {x dx C l:Addr} {H H':Hp} {ts:List Addr} {tps:List (Str×Str)} {fs:List (Str×V)} (h:PL H l ts tps) (hx:H x=some (.ins C dx fs)) (b:But x H H'):PL H' l ts tps:=
 ⟨b _ _ (qal h.1 hx (by intro z;cases z)) h.1,h.2.mono fun t ab e=>b _ _ (qal e hx (by intro z;cases z)) e⟩
theorem ok_web (F:Fun K "__init__" "Web.__init__" zc f fd) (T:Txt K mg cc cw) (D_numbers_of:DefOk P w K mg base CX0 4 "numbers_of" ["names"] spNums) (D_near_of:DefOk P w K mg base CX0 4 "near_of" ["numbers", "ties"] spNear) :
  FnOk P w K mg base CX0 5 f fd ["self", "names", "ties"] (spWeb cw):=by
 refine F.ok sc_Web_init fun _ _ _ _ H vs Q E hr h=>?_
 ·obtain ⟨x,dx,a,l,ss,ts,tps,rfl,hx,ha,h14,nd,hnm,hpl,hg,q⟩:=h
  have hu:=j8 hr
  refine ⟨_,(qc (j6 (K:=K) rfl (pv 0) (qp D_numbers_of (hmR hr) qC (qa (pv 1) qe)) rfl)
 (qc (j6 (K:=K) rfl (pv 0) (zl (qa2 (K:=K) rfl rfl) rfl T.b_list boot_list (qa (qD (K:=K) rfl (pv 0) rfl) qe)) rfl)
 (qf (j6 (K:=K) rfl (pv 0) (qp D_near_of (hmR hr) qC (qa (qD (K:=K) rfl (pv 0) rfl) (qa (pv 2) qe))) rfl)))),?_⟩
  ext
  refine ⟨a,ss,rfl,ha,h14,nd,hnm,fun d H1 s1 hd0 hd=>?_⟩
  have b1:=(But.refl x H).same s1
  have hx1:=s1 _ _ hx
  have ndx:d≠x:=qal hd hx1 (by intro z;cases z)
  ext
  refine .inl ⟨x,cw,dx,[],rfl,hx1,T.wcl,T.wn,by decide,?_⟩
  have b2:=b1.put (o:=.ins cw dx (qI "numbers" (.ref d) []))
  have hd2:upd H1 x (.ins cw dx (qI "numbers" (.ref d) [])) d=some (.dK (qbb ss 0)):=by rw [qg ndx];exact hd
  have ex2:upd H1 x (.ins cw dx (qI "numbers" (.ref d) [])) x=_:=qb
  generalize upd H1 x (.ins cw dx (qI "numbers" (.ref d) []))=H2 at b2 hd2 ex2
  ext
  refine .inl ⟨x,cw,dx,_,.ref d,rfl,ex2,T.wcl,T.wn,by rw [qG,if_pos rfl],?_⟩
  ext
  refine .inr (.inl ⟨d,_,rfl,hd2,fun ol ho=>?_⟩)
  rw [qb9]
  have no:ol≠x:=fun e=>by subst e;rw [ex2] at ho;cases ho
  have b3:=b2.new (o:=.lst (ss.map V.str)) ho
  have hol0:H ol=none:=by
   cases q':H ol with
   | none=>rfl
   | some o'=>rw [b2 ol o' no q'] at ho;cases ho
  have ndl:d≠ol:=qE hd2 ho
  ext
  refine .inl ⟨x,cw,dx,_,rfl,(by rw [qg no.symm];exact ex2),T.wcl,T.wo,Nat.lt_of_le_of_lt (jH _ _ _) (by decide),?_⟩
  have b4:=b3.put (o:=.ins cw dx (qI "order" (.ref ol) (qI "numbers" (.ref d) [])))
  have hd3:upd (upd H2 ol (.lst (ss.map V.str))) x (.ins cw dx (qI "order" (.ref ol) (qI "numbers" (.ref d) []))) d=some (.dK (qbb ss 0)):=by rw [qg ndx,qg ndl];exact hd2
  have ho3:upd (upd H2 ol (.lst (ss.map V.str))) x (.ins cw dx (qI "order" (.ref ol) (qI "numbers" (.ref d) []))) ol=some (.lst (ss.map V.str)):=by rw [qg no];exact qb
  have ex3:upd (upd H2 ol (.lst (ss.map V.str))) x (.ins cw dx (qI "order" (.ref ol) (qI "numbers" (.ref d) []))) x=_:=qb
  generalize upd (upd H2 ol (.lst (ss.map V.str))) x (.ins cw dx (qI "order" (.ref ol) (qI "numbers" (.ref d) [])))=H3 at b4 hd3 ho3 ex3
  ext
  refine .inl ⟨x,cw,dx,_,.ref d,rfl,ex3,T.wcl,T.wn,by rw [qG,if_neg (by decide +kernel),qG,if_pos rfl],?_⟩
  ext
  refine ⟨d,l,ss,ts,tps,rfl,hd3,h14,nd,hnm,hpl.but hx b4,hg,fun n ns H4 s4 hn0 hn hbits=>?_⟩
  have hx4:=s4 _ _ ex3
  have nnx:n≠x:=qal hn hx4 (by intro z;cases z)
  ext
  refine .inl ⟨x,cw,dx,_,rfl,hx4,T.wcl,T.wr,Nat.lt_of_le_of_lt (jH _ _ _) (Nat.lt_of_le_of_lt (Nat.succ_le_succ (jH _ _ _)) (by decide)),?_⟩
  have hn00:H n=none:=by
   cases q':H n with
   | none=>rfl
   | some o'=>rw [b4 n o' nnx q'] at hn0;cases hn0
  exact q ns _ (b4.same s4).put ⟨dx,d,ol,n,qb,by rw [qg ndx];exact s4 _ _ hd3,by rw [qg no];exact s4 _ _ ho3,by rw [qg nnx];exact hn,⟨hbits.1,h14,nd,hbits.2.1,hnm⟩,hd0,hol0,hn00⟩ hbits
theorem sc_Web_places:FnScope ["self"] ["self"] (qd jN):=fS
theorem sc_Web_has_place:FnScope ["self", "thing"] ["self", "thing"] (qd jh):=fS
theorem sc_Web_number_of:FnScope ["self", "place"] ["self", "place"] (qd ji):=fS
theorem sc_Web_beside:FnScope ["self", "place"] ["self", "place"] (qd jO):=fS
theorem sc_Web_bits_beside:FnScope ["self", "place"] ["self", "place"] (qd qW):=fS
theorem sc_Web_tied:FnScope ["self", "one", "other", "bits"] ["self", "one", "other"] (qd zd):=fS
theorem sc_Web_names_in:FnScope ["self", "bits"] ["self", "bits"] (qd jd):=fS
theorem jU {d ol n:V}:(qI "near" n (qI "order" ol (qI "numbers" d []))).lookup ("numbers":Str)=some d:=by
 rw [qG,if_neg (by decide +kernel),qG,if_neg (by decide +kernel),qG,if_pos rfl]
theorem qaz {d ol n:V}:(qI "near" n (qI "order" ol (qI "numbers" d []))).lookup ("order":Str)=some ol:=by
 rw [qG,if_neg (by decide +kernel),qG,if_pos rfl]
theorem lk_near {d ol n:V}:(qI "near" n (qI "order" ol (qI "numbers" d []))).lookup ("near":Str)=some n:=by
 rw [qG,if_pos rfl]
theorem zq {f:Str} {d ol n:V} (h:(f=="near"||f=="order"||f=="numbers")=false):(qI "near" n (qI "order" ol (qI "numbers" d []))).lookup f=none:=by
 simp only [Bool.or_eq_false_iff,beq_eq_false_iff_ne] at h
 rw [qG,if_neg h.1.1,qG,if_neg h.1.2,qG,if_neg h.2]
 rfl
def inB:List Str→Nat→Nat→List Str
 | [],_,_=>[]
 | s::r,i,b=>if b.testBit i=true then s::inB r (i + 1) b else inB r (i + 1) b
theorem qaP (y:Str) (b:Nat):∀ (l:List Str) (k:Nat),inB (l++[y]) k b=inB l k b++(if b.testBit (k + l.length)=true then [y] else [])
 | [],k=>by simp [inB]
 | s::r,k=>by
  have ih:=qaP y b r (k + 1)
  have e:k + 1 + r.length=k + (s::r).length:=by simp;omega
  rw [e] at ih
  simp only [List.cons_append,inB,ih]
  split<;>simp
theorem qa7 (b:Nat):∀ (l:List Str) (k:Nat),(inB l k b).length≤l.length
 | [],_=>yh _
 | s::r,k=>by
  have ih:=qa7 b r (k + 1)
  simp only [inB]
  split
  ·simp;omega
  ·simp;omega
inductive spHas (cw:Addr) (vs:List V) (H:Hp) (Q:VK) (E:XK):Prop|mk (x:Addr) (ss:List Str) (ns:List Nat) (y:Str) (_:vs=[.ref x,.str y]) (_:WebAt cw H x ss ns) (_:y∈ss) (_:∀ H',L2.Same H H'→Q (.bl true) H')
inductive spNum (cw:Addr) (vs:List V) (H:Hp) (Q:VK) (E:XK):Prop|mk (x:Addr) (ss:List Str) (ns:List Nat) (y:Str) (j:Nat) (_:vs=[.ref x,.str y]) (_:WebAt cw H x ss ns) (_:ss[j]?=some y) (_:∀ H',L2.Same H H'→Q (.int (j:Nat)) H')
inductive spBB (cw:Addr) (vs:List V) (H:Hp) (Q:VK) (E:XK):Prop|mk (x:Addr) (ss:List Str) (ns:List Nat) (y:Str) (j:Nat) (_:vs=[.ref x,.str y]) (_:WebAt cw H x ss ns) (_:ss[j]?=some y) (_:∀ H',L2.Same H H'→Q (.int (ns.getD j 0:Nat)) H')
inductive spNIn (cw:Addr) (vs:List V) (H:Hp) (Q:VK) (E:XK):Prop|mk (x:Addr) (ss:List Str) (ns:List Nat) (b:Nat) (_:vs=[.ref x,.int b]) (_:WebAt cw H x ss ns) (_:∀ l,H l=none→Q (.ref l) (upd H l (.lst ((inB ss 0 b).map V.str))))
inductive spBs (cw:Addr) (vs:List V) (H:Hp) (Q:VK) (E:XK):Prop|mk (x:Addr) (ss:List Str) (ns:List Nat) (y:Str) (j:Nat) (_:vs=[.ref x,.str y]) (_:WebAt cw H x ss ns) (_:ss[j]?=some y) (_:∀ H',L2.Same H H'→∀ l,H' l=none→Q (.ref l) (upd H' l (.lst ((inB ss 0 (ns.getD j 0)).map V.str))))
inductive spTied (cw:Addr) (vs:List V) (H:Hp) (Q:VK) (E:XK):Prop|mk (x:Addr) (ss:List Str) (ns:List Nat) (y z:Str) (j i:Nat) (_:vs=[.ref x,.str y,.str z]) (_:WebAt cw H x ss ns) (_:ss[j]?=some y) (_:ss[i]?=some z) (_:∀ H',L2.Same H H'→Q (.bl ((ns.getD j 0).testBit i)) H')
inductive spPls (cw:Addr) (vs:List V) (H:Hp) (Q:VK) (E:XK):Prop|mk (x:Addr) (ss:List Str) (ns:List Nat) (_:vs=[.ref x]) (_:WebAt cw H x ss ns) (_:∀ l,H l=none→Q (.ref l) (upd H l (.lst (ss.map V.str))))
theorem ok_has (F:Fun K "has_place" "Web.has_place" jh f fd) (T:Txt K mg cc cw) (D_is_place:DefOk P w K mg base CX0 2 "is_place" ["numbers", "thing"] spPlace):FnOk P w K mg base CX0 3 f fd ["self", "thing"] (spHas cw):=by
 refine F.ok sc_Web_has_place fun _ _ _ _ H vs Q E hr h=>?_
 ·obtain ⟨x,ss,ns,y,rfl,⟨dx,d,ol,n,hx,hd,ho,hn,hw⟩,hy,q⟩:=h
  refine ⟨_,(qf (qm (qp D_is_place (hmR hr) qC (qa (qD (K:=K) rfl (pv 0) rfl) (qa (pv 1) qe))))),?_⟩
  ext
  refine .inl ⟨x,cw,dx,_,.ref d,rfl,hx,T.wcl,T.wn,jU,?_⟩
  ext
  exact ⟨d,ss,y,rfl,hd,hw.nm _ hy,hy,q⟩
theorem ok_num (F:Fun K "number_of" "Web.number_of" ji f fd) (T:Txt K mg cc cw) (D_Web_has_place:MethOk P w K mg base CX0 3 cw "has_place" ["self", "thing"] (spHas cw)):FnOk P w K mg base CX0 4 f fd ["self", "place"] (spNum cw):=by
 refine F.ok sc_Web_number_of fun _ _ _ _ H vs Q E hr h=>?_
 ·obtain ⟨x,ss,ns,y,j,rfl,hW,gj,q⟩:=h
  obtain ⟨dx,d,ol,n,hx,hd,ho,hn,hw⟩:=id hW
  have hy:=ye gj
  have hu:=j8 hr
  refine ⟨_,(qc (qV (js (jg (qH D_Web_has_place (hmR hr) (pv 0) (qa (pv 1) qe)))) (qf jx) qu)
 (qf (qm (qx (qy (K:=K) rfl hu) (qD (K:=K) rfl (pv 0) rfl) (pv 1) (fun _ _=>rfl))))),?_⟩
  ext
  refine ⟨x,dx,_,rfl,hx,zq (by decide +kernel),?_⟩
  ext
  refine ⟨x,ss,ns,y,rfl,hW,hy,fun H1 s1=>?_⟩
  ext
  refine yq ?_
  obtain ⟨i,hi,gi,vj⟩:=j3 (i:=0) hy
  rw [Nat.zero_add,qv hw.nd gi gj] at vj
  ext
  refine .inl ⟨x,cw,dx,_,.ref d,rfl,s1 _ _ hx,T.wcl,T.wn,jU,?_⟩
  ext
  refine .inr ⟨d,.int j,rfl,?_,q H1 s1⟩
  have:=DGet.k (k:=Sum.inr y) (s1 _ _ hd)
  rw [vj] at this
  exact this
theorem ok_bb (F:Fun K "bits_beside" "Web.bits_beside" qW f fd) (T:Txt K mg cc cw) (D_Web_number_of:MethOk P w K mg base CX0 4 cw "number_of" ["self", "place"] (spNum cw)):FnOk P w K mg base CX0 5 f fd ["self", "place"] (spBB cw):=by
 refine F.ok sc_Web_bits_beside fun _ _ _ _ H vs Q E hr h=>?_
 ·obtain ⟨x,ss,ns,y,j,rfl,hW,gj,q⟩:=h
  obtain ⟨dx,d,ol,n,hx,hd,ho,hn,hw⟩:=id hW
  have hu:=j8 hr
  refine ⟨_,(qf (qm (qx (qy (K:=K) rfl hu) (qD (K:=K) rfl (pv 0) rfl) (qH D_Web_number_of (hmR hr) (pv 0) (qa (pv 1) qe)) (fun _ _=>rfl)))),?_⟩
  ext
  refine .inl ⟨x,cw,dx,_,.ref n,rfl,hx,T.wcl,T.wr,lk_near,?_⟩
  ext
  refine ⟨x,dx,_,rfl,hx,zq (by decide +kernel),?_⟩
  ext
  refine ⟨x,ss,ns,y,j,rfl,hW,gj,fun H1 s1=>?_⟩
  exact .inl (qah (s1 _ _ hn) (qz (qaO (by rw [hw.len];exact (yc.mp gj).1))) (q H1 s1))
theorem ok_nin (F:Fun K "names_in" "Web.names_in" jd f fd) (T:Txt K mg cc cw) (D_has_bit:DefOk P w K mg base CX0 1 "has_bit" ["bits", "number"] spBit):FnOk P w K mg base CX0 2 f fd ["self", "bits"] (spNIn cw):=by
 refine F.ok sc_Web_names_in fun _ _ _ _ H vs Q E hr h=>?_
 ·obtain ⟨x,ss,ns,b,rfl,⟨dx,d,ol,n,hx,hd,ho,hn,hw⟩,q⟩:=h
  have hu:=j8 hr
  refine ⟨_,(qf (qm (ju (sc:=qd jd) (XN:=["self", "bits"]) ["name", "bits", "self"] 1 [1,0] rfl rfl rfl (by decide +kernel) rfl (by decide +kernel)
  (qT (K:=K) rfl (qD (K:=K) rfl (pv 0) rfl)) (fun _ _ _ _=>(qq (i:=0) (show (["name", "bits", "self"]:List Str).Nodup by decide +kernel) rfl (Or.inl rfl))) qY
  (fun _ _ _ _=>(jy (jg (qp D_has_bit (hmR hr) qC (qa (pv 1) (qa (qx (qy (K:=K) rfl hu) (qD (K:=K) rfl (pv 2) rfl) (pv 0) (fun _ _=>rfl)) qe))))))
  (fun _ _ _ _=>(pv 0))))),?_⟩
  ext
  refine .inl ⟨x,cw,dx,_,.ref ol,rfl,hx,T.wcl,T.wo,qaz,?_⟩
  refine .inl ⟨⟨_,SqL.of ho⟩,qJ (K:=K) (fun i ys H'=>H'=H∧ys=(inB (ss.take i) 0 b).map V.str) ⟨rfl,by simp [inB]⟩ (fun i ys H' _ hp=>by rw [hp.1];exact SqL.of ho) (fun i y ys H' hy hp=>?_) fun ys H' hp=>?_⟩
  ·obtain ⟨rfl,rfl⟩:=hp
   have hi:i < ss.length:=by simpa using (yc.mp hy).1
   have gi:ss[i]?=some ss[i]:=yb hi
   generalize ss[i]=sy at gi
   have ey:y=.str sy:=by rw [yd,gi] at hy;cases hy;rfl
   subst ey
   obtain ⟨j,hj,gj,vj⟩:=j3 (i:=0) (ye gi)
   rw [Nat.zero_add] at vj
   have hji:j=i:=qv hw.nd gj gi
   subst hji
   have htk:ss.take (j + 1)=ss.take j++[sy]:=by rw [List.take_add_one,gi];rfl
   have hln:(ss.take j).length=j:=by rw [List.length_take];omega
   ext
   refine .inl ⟨x,cw,dx,_,.ref d,rfl,hx,T.wcl,T.wn,jU,?_⟩
   ext
   refine .inr ⟨d,.int j,rfl,?_,?_⟩
   ·have:=DGet.k (k:=Sum.inr sy) hd
    rw [vj] at this
    exact this
   ext
   refine ⟨_,_,rfl,by omega,?_⟩
   rw [qcr]
   ext
   have few:((inB (ss.take j) 0 b).map V.str).length < sizeLine:=by
    rw [ya]
    exact qh (yi (qa7 _ _ _) (by rw [hln];have:=hw.few;omega))
   refine qU (fun hb=>?_) fun hb=>?_
   ·ext
    refine ⟨few,rfl,?_⟩
    rw [htk,qaP,hln,Nat.zero_add,if_pos hb]
    simp
   ·refine ⟨rfl,?_⟩
    rw [htk,qaP,hln,Nat.zero_add,if_neg hb]
    simp
  ·obtain ⟨rfl,rfl⟩:=hp
   have etk:ss.take (ss.map V.str).length=ss:=by rw [ya,List.take_length]
   rw [etk]
   refine ⟨?_,fun l hl=>q l hl⟩
   rw [ya]
   exact Nat.le_of_lt (qh (yi (qa7 _ _ _) (by have:=hw.few;omega)))
theorem ok_bs (F:Fun K "beside" "Web.beside" jO f fd) (T:Txt K mg cc cw) (D_Web_bits_beside:MethOk P w K mg base CX0 5 cw "bits_beside" ["self", "place"] (spBB cw)) (D_Web_names_in:MethOk P w K mg base CX0 2 cw "names_in" ["self", "bits"] (spNIn cw)):FnOk P w K mg base CX0 6 f fd ["self", "place"] (spBs cw):=by
 refine F.ok sc_Web_beside fun _ _ _ _ H vs Q E hr h=>?_
 ·obtain ⟨x,ss,ns,y,j,rfl,hW,gj,q⟩:=h
  obtain ⟨dx,d,ol,n,hx,_⟩:=id hW
  refine ⟨_,(qf (qm (qH D_Web_names_in (hmR hr) (pv 0) (qa (qH D_Web_bits_beside (hmR hr) (pv 0) (qa (pv 1) qe)) qe)))),?_⟩
  ext
  refine ⟨x,dx,_,rfl,hx,zq (by decide +kernel),?_⟩
  ext
  refine ⟨x,dx,_,rfl,hx,zq (by decide +kernel),?_⟩
  ext
  refine ⟨x,ss,ns,y,j,rfl,hW,gj,fun H1 s1=>?_⟩
  ext
  exact ⟨x,ss,ns,_,rfl,hW.same s1,q H1 s1⟩
theorem ok_tied (F:Fun K "tied" "Web.tied" zd f fd) (T:Txt K mg cc cw) (D_Web_bits_beside:MethOk P w K mg base CX0 5 cw "bits_beside" ["self", "place"] (spBB cw)) (D_Web_number_of:MethOk P w K mg base CX0 4 cw "number_of" ["self", "place"] (spNum cw))
  (D_has_bit:DefOk P w K mg base CX0 1 "has_bit" ["bits", "number"] spBit):FnOk P w K mg base CX0 6 f fd ["self", "one", "other"] (spTied cw):=by
 refine F.ok sc_Web_tied fun _ _ _ _ H vs Q E hr h=>?_
 ·obtain ⟨x,ss,ns,y,z,j,i,rfl,hW,gj,gi,q⟩:=h
  obtain ⟨dx,d,ol,n,hx,_⟩:=id hW
  refine ⟨_,(qc (qr (i:=3) sc_Web_tied.nd rfl (Or.inl rfl) (qH D_Web_bits_beside (hmR hr) (pv 0) (qa (pv 1) qe)))
 (qf (qm (qp D_has_bit (hmR hr) qC (qa (pv 3) (qa (qH D_Web_number_of (hmR hr) (pv 0) (qa (pv 2) qe)) qe)))))),?_⟩
  ext
  refine ⟨x,dx,_,rfl,hx,zq (by decide +kernel),?_⟩
  ext
  refine ⟨x,ss,ns,y,j,rfl,hW,gj,fun H1 s1=>?_⟩
  ext
  refine ⟨x,dx,_,rfl,s1 _ _ hx,zq (by decide +kernel),?_⟩
  ext
  refine ⟨x,ss,ns,z,i,rfl,hW.same s1,gi,fun H2 s2=>?_⟩
  ext
  refine ⟨_,_,rfl,by omega,?_⟩
  rw [qcr]
  exact q H2 (s1.trans s2)
theorem ok_pls (F:Fun K "places" "Web.places" jN f fd) (T:Txt K mg cc cw):FnOk P w K mg base CX0 1 f fd ["self"] (spPls cw):=by
 refine F.ok sc_Web_places fun _ _ _ _ H vs Q E hr h=>?_
 ·obtain ⟨x,ss,ns,rfl,⟨dx,d,ol,n,hx,hd,ho,hn,hw⟩,q⟩:=h
  refine ⟨_,(qf (qm (zl (qa2 (K:=K) rfl rfl) rfl T.b_list boot_list (qa (qD (K:=K) rfl (pv 0) rfl) qe)))),?_⟩
  ext
  refine .inl ⟨x,cw,dx,_,.ref ol,rfl,hx,T.wcl,T.wo,qaz,?_⟩
  ext
  exact .inl ⟨ol,_,rfl,.inl (SqL.of ho),q⟩
theorem qea {ss:List Str} (hn:ss.Nodup) {i:Nat} {s:Str} (h:ss[i]?=some s):ss.idxOf s=i:=by
 have hm:s∈ss:=ye h
 have hl:ss.idxOf s < ss.length:=List.idxOf_lt_length_of_mem hm
 exact qv hn (by rw [yb hl,List.getElem_idxOf]) h
theorem zH {ss:List Str} (hn:ss.Nodup) (b:Nat):inB ss 0 b=ss.filter fun s=>b.testBit (ss.idxOf s):=by
 have key:∀ k,k≤ss.length→inB (ss.take k) 0 b=(ss.take k).filter fun s=>b.testBit (ss.idxOf s):=fun k=>by
  induction k with
  | zero=>intro _;simp [inB]
  | succ k ih =>
   intro hk
   have gk:ss[k]?=some ss[k]:=yb (by omega)
   generalize ss[k]=sk at gk
   have htk:ss.take (k + 1)=ss.take k++[sk]:=by rw [List.take_add_one,gk];rfl
   have hln:(ss.take k).length=k:=by rw [List.length_take];omega
   rw [htk,qaP,List.filter_append,ih (by omega),hln,Nat.zero_add]
   congr 1
   rw [List.filter_cons,List.filter_nil,qea hn gk]
 have:=key ss.length (yh _)
 rwa [List.take_length] at this
theorem sc_Web_ties:FnScope ["self", "ties", "one", "other"] ["self"] (qd ze):=fS
theorem qcu {ss:List Str} (hn:ss.Nodup) {b:Nat} {s:Str} (h:s∈inB ss 0 b):s∈ss∧b.testBit (ss.idxOf s)=true:=by
 rw [zH hn] at h
 exact yp.mp h
def qds (ss:List Str) (ns:List Nat) (i:Nat):List (Str×Str):=((inB ss 0 (ns.getD i 0)).filter fun o=>decide (i < ss.idxOf o)).map fun o=>(ss.getD i "",o)
def qR (ss:List Str) (ns:List Nat) (i:Nat):List (Str×Str):=(List.range i).flatMap (qds ss ns)
def PrAt (H H':Hp) (l:Addr) (t:Addr) (ab:Str×Str):Prop:=H t=none∧t≠l∧H' t=some (.tup [.str ab.1,.str ab.2])
theorem PrAt.same {H H1 H2:Hp} {l t:Addr} {ab:Str×Str} (h:PrAt H H1 l t ab) (s:L2.Same H1 H2):PrAt H H2 l t ab:=⟨h.1,h.2.1,s _ _ h.2.2⟩
inductive spTs (cw:Addr) (vs:List V) (H:Hp) (Q:VK) (E:XK):Prop|mk (x:Addr) (ss:List Str) (ns:List Nat) (_:vs=[.ref x]) (_:WebAt cw H x ss ns) (_:∀ (l:Addr) (ts:List Addr) (H':Hp),L2.Same H H'→H l=none→H' l=some (.lst (ts.map V.ref))→ts.length≤196→All2 (PrAt H H' l) ts (qR ss ns ss.length)→Q (.ref l) H')
theorem ok_ts (F:Fun K "ties" "Web.ties" ze f fd) (T:Txt K mg cc cw) (D_Web_beside:MethOk P w K mg base CX0 6 cw "beside" ["self", "place"] (spBs cw)):FnOk P w K mg base CX0 7 f fd ["self"] (spTs cw):=by
 refine F.ok sc_Web_ties fun _ _ _ _ H vs Q E hr h=>?_
 ·obtain ⟨x,ss,ns,rfl,hW,q⟩:=h
  have hu:=j8 hr
  obtain ⟨dx,d,ol,n,hx,hd,ho,hn,hw⟩:=id hW
  have few:=hw.few
  have num:∀ (H1:Hp) (y:Str) (i:Nat),L2.Same H H1→ss[i]?=some y→DGet H1 d (.str y) (some (.int (i:Nat))):=fun H1 y i s1 gi=>by
   obtain ⟨j,hj,gj,vj⟩:=j3 (i:=0) (ye gi)
   rw [Nat.zero_add] at vj
   have hji:j=i:=qv hw.nd gj gi
   subst hji
   have:=DGet.k (k:=Sum.inr y) (s1 _ _ hd)
   rw [vj] at this
   exact this
  refine ⟨_,(qc (qr (i:=1) sc_Web_ties.nd rfl (Or.inl rfl) (je qe))
 (qc (jL PassesOwn.never rfl (qT (K:=K) rfl (qD (K:=K) rfl (pv 0) rfl)) (qq (i:=2) sc_Web_ties.nd rfl (Or.inl rfl))
 (qf (jL PassesOwn.never rfl (qT (K:=K) rfl (qH D_Web_beside (hmR hr) (pv 0) (qa (pv 2) qe))) (qq (i:=3) sc_Web_ties.nd rfl (Or.inl rfl))
 (qf (qV (qo qc8 (qx (qy (K:=K) rfl hu) (qD (K:=K) rfl (pv 0) rfl) (pv 2) (fun _ _=>rfl)) (qx (qy (K:=K) rfl hu) (qD (K:=K) rfl (pv 0) rfl) (pv 3) (fun _ _=>rfl)) (qB _)) (qf (jr (qbu (K:=K) rfl PySem.F.plainAttrs_list PySem.F.slot_list_append PySem.F.type_list_append jz (pv 1) (qa (zk (qa (pv 2) (qa (pv 3) qe))) qe)))) qu)))))
 (qf (qm (pv 1))))),?_⟩
  ext
  refine ⟨by decide,fun l hl=>?_⟩
  have s0:=qO (Sr H) (o:=.lst []) hl
  ext
  refine .inl ⟨x,cw,dx,_,.ref ol,rfl,s0 _ _ hx,T.wcl,T.wo,qaz,?_⟩
  refine .inl ⟨⟨_,SqL.of (s0 _ _ ho)⟩,jf (K:=K) (fun i σ H'=>∃ (ts:List Addr) (x2 x3:Option V),σ=[some (.ref x),some (.ref l),x2,x3]∧L2.Same H H'∧H' l=some (.lst (ts.map V.ref))∧ts.length≤i * 14∧All2 (PrAt H H' l) ts (qR ss ns i))
   ⟨[],none,none,rfl,s0,qb,by simp,All2.nil⟩ (fun i σ H' _ hp=>by obtain ⟨_,_,_,_,z,_⟩:=hp;exact SqL.of (z _ _ ho)) (fun i y σ H1 hy hp=>?_) fun σ H1 hp=>?_⟩
  ·obtain ⟨ts,x2,x3,rfl,s1,hl1,hlen,hall⟩:=hp
   have hi:i < ss.length:=by simpa using (yc.mp hy).1
   have gi:ss[i]?=some ss[i]:=yb hi
   generalize ss[i]=sy at gi
   have ey:y=.str sy:=by rw [yd,gi] at hy;cases hy;rfl
   subst ey
   have hny:=hw.nm sy (ye gi)
   ext
   refine ⟨x,dx,_,rfl,s1 _ _ hx,zq (by decide +kernel),?_⟩
   ext
   refine ⟨x,ss,ns,sy,i,rfl,hW.same s1,gi,fun H2 s2 b hb=>?_⟩
   have s3:=s1.trans s2
   have s4:=qO s3 (o:=.lst ((inB ss 0 (ns.getD i 0)).map V.str)) hb
   have s24:=qO s2 (o:=.lst ((inB ss 0 (ns.getD i 0)).map V.str)) hb
   have eb:upd H2 b (.lst ((inB ss 0 (ns.getD i 0)).map V.str)) b=some (.lst ((inB ss 0 (ns.getD i 0)).map V.str)):=qb
   have nbl:b≠l:=fun e=>by rw [e,s2 _ _ hl1] at hb;cases hb
   have hb0:H b=none:=s3.free hb
   refine .inl ⟨⟨_,SqL.of qb⟩,?_⟩
   generalize upd H2 b (.lst ((inB ss 0 (ns.getD i 0)).map V.str))=H3 at s4 s24 eb ⊢
   have hmem:∀ o,o∈inB ss 0 (ns.getD i 0)→o∈ss:=fun o h=>(qcu hw.nd h).1
   have hbl:=qa7 (ns.getD i 0) ss 0
   have edef:qds ss ns i=((inB ss 0 (ns.getD i 0)).filter fun o=>decide (i < ss.idxOf o)).map fun o=>(ss.getD i "",o):=rfl
   have egd:ss.getD i ""=sy:=by simp [List.getD,gi]
   rw [egd] at edef
   generalize hbs:inB ss 0 (ns.getD i 0)=bs at eb hmem hbl edef ⊢
   refine jf (K:=K) (fun k σ H'=>∃ (us:List Addr) (x3:Option V),σ=[some (.ref x),some (.ref l),some (.str sy),x3]∧L2.Same H H'∧H' b=some (.lst (bs.map V.str))∧H' l=some (.lst (us.map V.ref))∧us.length≤i * 14 + k∧All2 (PrAt H H' l) us (qR ss ns i++((bs.take k).filter fun o=>decide (i < ss.idxOf o)).map fun o=>(sy,o)))
    ⟨ts,_,rfl,s4,eb,s24 _ _ hl1,hlen,by simpa using hall.mono fun _ _ h=>h.same s24⟩ (fun k σ H' _ hp=>by obtain ⟨_,_,_,_,z,_⟩:=hp;exact SqL.of z) (fun k u σ H5 hu5 hp=>?_) fun σ H5 hp=>?_
   ·obtain ⟨us,x3,rfl,s5,eb5,hl5,hlen5,hall5⟩:=hp
    have hk:k < bs.length:=by simpa using (yc.mp hu5).1
    have gk:bs[k]?=some bs[k]:=yb hk
    generalize bs[k]=so at gk
    have eu:u=.str so:=by rw [yd,gk] at hu5;cases hu5;rfl
    subst eu
    have hso:=hmem so (ye gk)
    have hil:=List.idxOf_lt_length_of_mem hso
    have gso:ss[ss.idxOf so]?=some so:=by rw [yb hil,List.getElem_idxOf]
    have htk:bs.take (k + 1)=bs.take k++[so]:=by rw [List.take_add_one,gk];rfl
    ext
    refine .inl ⟨x,cw,dx,_,.ref d,rfl,s5 _ _ hx,T.wcl,T.wn,jU,?_⟩
    ext
    refine .inr ⟨d,.int i,rfl,num H5 sy i s5 gi,?_⟩
    ext
    refine .inl ⟨x,cw,dx,_,.ref d,rfl,s5 _ _ hx,T.wcl,T.wn,jU,?_⟩
    ext
    refine .inr ⟨d,.int (ss.idxOf so:Nat),rfl,num H5 so _ s5 gso,?_⟩
    ext
    refine qU (fun hlt=>?_) fun hlt=>?_
    ·have hlt':i < ss.idxOf so:=by have:=yk hlt;omega
     ext
     refine ⟨.inl ⟨rfl,_,SqL.of hl5⟩,?_⟩
     ext
     refine ⟨by show 2≤sizeLine;decide,fun t ht=>?_⟩
     have nlt:l≠t:=qE hl5 ht
     have nbt:b≠t:=qE eb5 ht
     have s6:=qO (Sr H5) (o:=.tup [.str sy,.str so]) ht
     ext
     refine ⟨l,_,_,rfl,rfl,by rw [qg nlt];exact hl5,by rw [ya];exact qh (by have:i * 14≤14 * 14:=Nat.mul_le_mul_right 14 (by omega);omega),?_⟩
     refine ⟨us++[t],_,rfl,qaH (s5.trans s6) hl,by rw [qg nbl,qg nbt];exact eb5,by rw [qb,List.map_append];rfl,by rw [List.length_append];show us.length + 1≤_;omega,?_⟩
     rw [htk,List.filter_append,List.map_append,← List.append_assoc]
     have e1:([so].filter fun o=>decide (i < ss.idxOf o)).map (fun o=>(sy,o))=[(sy,so)]:=by simp [hlt']
     rw [e1]
     refine All2.snoc (hall5.mono fun t' ab h=>⟨h.1,h.2.1,?_⟩) ⟨s5.free ht,nlt.symm,?_⟩
     ·rw [qg h.2.1]
      exact s6 _ _ h.2.2
     ·rw [qg nlt.symm,qb]
    ·have hlt':¬ i < ss.idxOf so:=fun h=>hlt (decide_eq_true (by omega))
     refine ⟨us,_,rfl,s5,eb5,hl5,by omega,?_⟩
     have e1:([so].filter fun o=>decide (i < ss.idxOf o)).map (fun o=>(sy,o))=[]:=by simp [hlt']
     rw [htk,List.filter_append,List.map_append,e1,List.append_nil]
     exact hall5
   ·obtain ⟨us,x3,rfl,s5,eb5,hl5,hlen5,hall5⟩:=hp
    rw [ya,List.take_length] at hall5
    rw [ya] at hlen5
    refine ⟨us,_,_,rfl,s5,hl5,by omega,?_⟩
    unfold qR at hall5 ⊢
    rw [List.range_succ,List.flatMap_append]
    have e1:[i].flatMap (qds ss ns)=(bs.filter fun o=>decide (i < ss.idxOf o)).map fun o=>(sy,o):=by rw [← edef];simp
    rw [e1]
    exact hall5
  ·obtain ⟨ts,x2,x3,rfl,s1,hl1,hlen,hall⟩:=hp
   rw [ya] at hlen hall
   ext
   exact q l ts H1 s1 hl hl1 (by have:ss.length * 14≤14 * 14:=Nat.mul_le_mul_right 14 few;omega) hall
theorem sc_l_cell:FnScope ["_law_script", "_law_k"] ["_law_script", "_law_k"] (qd zX):=fS
theorem sc_l_box:FnScope ["_law_cell_here"] ["_law_cell_here"] (qd qaI):=fS
theorem sc_l_take:FnScope ["_law_box_here", "_law_many", "_law_number"] ["_law_box_here", "_law_many"] (qd zY):=fS
def Box (H:Hp) (p:Addr):Prop:=∃ a b c:Int,H p=some (.lst [.int a,.int b,.int c])
def BB (p:Addr) (H H':Hp):Prop:=(∀ b o,b≠p→H b=some o→H' b=some o)∧Box H' p
theorem BB.refl {p:Addr} {H:Hp} (h:Box H p):BB p H H:=⟨fun _ _ _ e=>e,h⟩
theorem BB.trans {p:Addr} {H H1 H2:Hp} (a:BB p H H1) (b:BB p H1 H2):BB p H H2:=⟨fun c o n e=>b.1 c o n (a.1 c o n e),b.2⟩
theorem BB.new {p l:Addr} {H H1:Hp} {o:HO} (a:BB p H H1) (hl:H1 l=none):BB p H (upd H1 l o):=by
 obtain ⟨x,y,z,hp⟩:=a.2
 refine ⟨fun c u n e=>?_,x,y,z,?_⟩
 ·have q:=a.1 c u n e
  rw [qg (qE q hl)]
  exact q
 ·rw [qg (qE hp hl)]
  exact hp
inductive spTake (vs:List V) (H:Hp) (Q:VK) (E:XK):Prop|mk (p:Addr) (m:Int) (_:vs=[.ref p,.int m]) (_:Box H p) (_:0 < m) (_:m < 1073741824) (_:∀ (r:Int) (H':Hp),0≤r→r < m→BB p H H'→Q (.int r) H')
theorem ok_take (F:Fun K "_law_take" "_law_take" zY f fd):FnOk P w K mg base CX0 1 f fd ["_law_box_here", "_law_many"] spTake:=by
 refine F.ok sc_l_take fun _ _ _ _ H vs Q E hr h=>?_
 ·obtain ⟨p,m,rfl,⟨a,b,c,hp⟩,h0,h1,k⟩:=h
  have hu:=j8 hr
  refine ⟨_,(qc (qV (qo qc9 (qx (qy (K:=K) rfl hu) (pv 0) qi (fun _ _=>rfl)) qi (qB _)) (qc (qr (i:=2) sc_l_take.nd rfl (Or.inl rfl) (qP qak (qx (qy (K:=K) rfl hu) (pv 0) qi (fun _ _=>rfl)) (pv 1)))
 (qc (j7 (qP qc7 (qx (qy (K:=K) rfl hu) (pv 0) qi (fun _ _=>rfl)) (pv 1)) (zi (pv 0) qi (zn hu)))
 (qf (qm (pv 2))))) qu)
 (qc (j7 (qP (zC (K:=K) rfl) (qx (qy (K:=K) rfl hu) (pv 0) qi (fun _ _=>rfl)) qi) (zi (pv 0) qi (zn hu)))
 (qc (qr (i:=2) sc_l_take.nd rfl (Or.inl rfl) (qP qak (qP (zC (K:=K) rfl) (qP (zC (K:=K) rfl) (qP qbs (qx (qy (K:=K) rfl hu) (pv 0) qi (fun _ _=>rfl)) qi) (qP qbs qi (qx (qy (K:=K) rfl hu) (pv 0) qi (fun _ _=>rfl)))) qi) qi))
 (qc (qr (i:=2) sc_l_take.nd rfl (Or.inl rfl) (qP qak (qP (zC (K:=K) rfl) (qP (zC (K:=K) rfl) (qP qbs (pv 2) (pv 2)) (qP qbs qi (qx (qy (K:=K) rfl hu) (pv 0) qi (fun _ _=>rfl)))) qi) qi))
 (qf (qm (qP qak (qP qak (qP qbs (pv 2) (qP (zC (K:=K) rfl) (pv 2) qi)) qi) (pv 1)))))))),?_⟩
  ext
  refine .inl (qah hp rfl ?_)
  ext
  refine qU (fun hc=>?_) (fun hc=>?_)
  ·ext
   refine .inl (qah hp rfl ?_)
   ext
   refine vI h0 ?_
   ext
   refine .inl (qah hp rfl ?_)
   ext
   refine vI ⟨h0,h1⟩ ?_
   ext
   refine .inl (qdO hp rfl ?_)
   ext
   exact k _ _ (Int.emod_nonneg _ (by omega)) (Int.emod_lt_of_pos _ h0) ⟨fun x o n e=>by rw [qg n];exact e,_,_,_,qb⟩
  ·ext
   refine .inl (qah hp rfl ?_)
   ext
   refine .inl (qdO hp rfl ?_)
   ext
   refine .inl (qah qb rfl ?_)
   ext
   refine qbt (.inr (by decide)) ?_
   ext
   refine .inl (qah qb rfl ?_)
   ext
   refine qbt (.inl (by decide)) ?_
   ext
   refine vI (by decide) ?_
   ext
   have e1:=Int.emod_nonneg (b * 48271 + 7919 * (c + 1) + 101) (show (2147483647:Int)≠0 by decide)
   have e2:=Int.emod_lt_of_pos (b * 48271 + 7919 * (c + 1) + 101) (show (0:Int) < 2147483647 by decide)
   refine qbt (.inl ⟨by omega,by omega⟩) ?_
   ext
   refine .inl (qah qb rfl ?_)
   ext
   refine qbt (.inl (by decide)) ?_
   ext
   refine vI (by decide) ?_
   ext
   generalize ((b * 48271 + 7919 * (c + 1) + 101) % 2147483647 * ((b * 48271 + 7919 * (c + 1) + 101) % 2147483647) + 104729 * (c + 1) + 7)=z
   have e3:=Int.emod_nonneg z (show (2147483629:Int)≠0 by decide)
   have e4:=Int.emod_lt_of_pos z (show (0:Int) < 2147483629 by decide)
   refine qbt (.inl ⟨by omega,by omega⟩) ?_
   ext
   refine vI (by decide) ?_
   ext
   refine vI h0 ?_
   exact k _ _ (Int.emod_nonneg _ (by omega)) (Int.emod_lt_of_pos _ h0) ⟨fun x o n e=>by rw [qg n];exact e,_,_,_,qb⟩
inductive spCell (K:W.Frag) (vs:List V) (H:Hp) (Q:VK) (E:XK):Prop|mk (a:Addr) (ns:List Int) (k:Int) (_:vs=[.ref a,.int k]) (_:SqL K H a (ns.map V.int)) (_:0≤k) (_:k < 1000) (_:∀ i:Int,Q (.int i) H)
theorem ok_cell (F:Fun K "_law_cell" "_law_cell" zX f fd) (T:Txt K mg cc cw):FnOk P w K mg base CX0 1 f fd ["_law_script", "_law_k"] (spCell K):=by
 refine F.ok sc_l_cell fun _ _ _ _ H vs Q E hr h=>?_
 ·obtain ⟨a,ns,k,rfl,hS,h0,h1,q⟩:=h
  have hu:=j8 hr
  refine ⟨_,(qc (qV (qo qc8 (pv 1) (qw (zw (K:=K) rfl) rfl T.b_len boot_len (qa (pv 0) qe)) (qB _)) (qf (qm (qx (qy (K:=K) rfl hu) (pv 0) (pv 1) (fun _ _=>rfl)))) qu)
 (qf (qm (qP (zC (K:=K) rfl) (qP qbs qi (pv 1)) qi)))),?_⟩
  ext
  refine qd1 hS ?_
  ext
  refine qU (fun hc=>?_) (fun hc=>?_)
  ·ext
   have hc':k < (ns.map V.int).length:=yk hc
   obtain ⟨v,e1,e2⟩:=qdo h0 hc'
   rw [yd] at e2
   cases e3:ns[k.toNat]? with
   | none=>rw [e3] at e2;cases e2
   | some i =>
    rw [e3] at e2
    cases e2
    exact .inl (vIxLs hS e1 (q i))
  ·ext
   refine qbt (.inl (by decide)) ?_
   ext
   exact q _
inductive spBox (vs:List V) (H:Hp) (Q:VK) (E:XK):Prop|mk (i:Int) (_:vs=[.int i]) (_:∀ (p:Addr) (a b c:Int),H p=none→Q (.ref p) (upd H p (.lst [.int a,.int b,.int c])))
theorem ok_box (F:Fun K "_law_box" "_law_box" qaI f fd):FnOk P w K mg base CX0 1 f fd ["_law_cell_here"] spBox:=by
 refine F.ok sc_l_box fun _ _ _ _ H vs Q E hr h=>?_
 ·obtain ⟨i,rfl,q⟩:=h
  have hu:=j8 hr
  refine ⟨_,(qc (qV (qo op_ge (pv 0) (qP op_pow qi qi) (qB _)) (qf (qm (je (qa (pv 0) (qa (qP qak (pv 0) qi) (qa qi qe)))))) qu)
 (qf (qm (je (qa qi (qa (qP qak (pv 0) qi) (qa qi qe))))))),?_⟩
  ext
  refine vI ⟨by decide,by decide,by decide⟩ ?_
  ext
  refine qU (fun hc=>?_) (fun hc=>?_)
  ·ext
   refine vI (by decide) ?_
   ext
   exact ⟨by show 3≤sizeLine;decide,fun p hp=>q p _ _ _ hp⟩
  ·ext
   refine vI (by decide) ?_
   ext
   exact ⟨by show 3≤sizeLine;decide,fun p hp=>q p _ _ _ hp⟩
theorem BB.apart {p l:Addr} {H H1:Hp} (a:BB p H H1) (hl:H1 l=none):l≠p:=fun e=>by subst e;obtain ⟨_,_,_,z⟩:=a.2;rw [z] at hl;cases hl
theorem BB.free {p l:Addr} {H H1:Hp} (a:BB p H H1) (hl:H1 l=none):H l=none:=by
 cases q:H l with
 | none=>rfl
 | some o=>rw [a.1 l o (a.apart hl) q] at hl;cases hl
theorem BB.put {p l:Addr} {H H1:Hp} {o:HO} (a:BB p H H1) (hl:H l=none) (np:l≠p):BB p H (upd H1 l o):=by
 obtain ⟨x,y,z,hp⟩:=a.2
 exact ⟨fun c u n e=>by rw [qg (qE e hl)];exact a.1 c u n e,x,y,z,by rw [qg np.symm];exact hp⟩
theorem BB.same {p:Addr} {H H1 H2:Hp} (a:BB p H H1) (s:L2.Same H1 H2):BB p H H2:=by
 obtain ⟨x,y,z,hp⟩:=a.2
 exact ⟨fun c u n e=>s c u (a.1 c u n e),x,y,z,s _ _ hp⟩
theorem Box.apart {p l:Addr} {H:Hp} (h:Box H p) (hl:H l=none):l≠p:=(BB.refl h).apart hl
def NewH (H H':Hp):Hp:=fun a=>match H a with | none=>H' a | some _=>none
theorem zI:∀ {l m:List Str},l.Nodup→(∀ x∈l,x∈m)→l.length≤m.length
 | [],_,_,_=>Nat.zero_le _
 | x::r,m,hn,h=>by
  obtain ⟨h1,h2⟩:=yo.mp hn
  have hx:=h x List.mem_cons_self
  have ih:=zI (l:=r) (m:=m.erase x) h2 fun y hy=>(List.mem_erase_of_ne (fun e=>h1 (by rw [← e];exact hy))).mpr (h y (List.mem_cons_of_mem _ hy))
  rw [List.length_erase_of_mem hx] at ih
  have:0 < m.length:=List.length_pos_of_mem hx
  simp only [List.length_cons]
  omega
theorem qcv (c:Str) (ss:List Str):inV (.str c) (ss.map V.str)=decide (c∈ss):=by
 unfold inV
 rw [List.any_map,Bool.eq_iff_iff,List.any_eq_true,decide_eq_true_iff]
 constructor
 ·rintro ⟨y,hy,e⟩
  have:y=c:=eq_of_beq e
  rw [← this];exact hy
 ·intro h
  exact ⟨c,h,beq_self_eq_true c⟩
theorem qca (ss:List Str):(ss.map V.str).all qag=true:=by rw [List.all_map];exact List.all_eq_true.mpr fun _ _=>rfl
inductive spFresh (vs:List V) (H:Hp) (Q:VK) (E:XK):Prop|mk (l:Addr) (ss:List Str) (_:vs=[.ref l]) (_:H l=some (.lst (ss.map V.str))) (_:ss.length≤14) (_:∀ (x:Str) (H':Hp),L2.Same H H'→zF x=true→x∉ss→Q (.str x) H')
def signs:List Str:=("abcdefghijklmno":Str).cps.toList.map fun c=>⟨#[c]⟩
theorem sc_l_names:FnScope ["_law_box_here", "_law_many", "_law_letters", "_law_way", "_law_shift", "_law_step", "_law_stem", "_law_ahead", "_law_names_here", "_law_k", "_law_name"] ["_law_box_here", "_law_many"] (qd j4):=fS
theorem slice_ix (k n:Nat):Builtin.Str.strSliceIndices none (some (k:Int)) 1 n=List.range (min k n):=by
 unfold Builtin.Str.strSliceIndices sliceRange
 simp only [show (1:Int) > 0 by decide,if_true]
 rw [if_neg (show ¬ ((k:Int) < 0) by omega)]
 have e1:max 0 (min (k:Int) n)=((min k n:Nat):Int):=by omega
 rw [e1]
 have e2:(fun (j:Nat)=>((0:Int) + 1 * (j:Int)).toNat)=id:=by funext j;show _=j;omega
 rw [e2,List.map_id]
 congr 1
 split
 ·rw [Int.ediv_one];omega
 ·omega
theorem qdt (a:Array Nat):∀ m,m≤a.size→(List.range m).filterMap (a[·]?)=a.toList.take m
 | 0,_=>rfl
 | m + 1,h=>by
  rw [List.range_succ,List.filterMap_append,qdt a m (by omega),List.take_add_one]
  congr 1
  have e:a[m]?=some a[m]:=Array.getElem?_eq_getElem (by omega)
  have e':a.toList[m]?=some a[m]:=by rw [Array.getElem?_toList];exact e
  rw [e',List.filterMap_cons,e]
  rfl
theorem zZ (z:Str) (k:Nat):(Txt.slice z none (some (k:Int))).cps.toList=z.cps.toList.take k:=by
 unfold Txt.slice
 rw [slice_ix]
 have hz:z.length=z.cps.toList.length:=by simp [Str.length]
 split
 ·rename_i h
  rw [List.length_range] at h
  have:min k z.length=z.length:=by simpa using h
  rw [List.take_of_length_le (by omega)]
 ·show (List.filterMap _ _).toArray.toList=_
  rw [qdt z.cps (min k z.length) (Nat.min_le_right _ _)]
  show z.cps.toList.take (min k z.length)=_
  by_cases hk:k≤z.length
  ·rw [Nat.min_eq_left hk]
  ·rw [Nat.min_eq_right (by omega),List.take_of_length_le (by omega),List.take_of_length_le (by omega)]
theorem qaa (a b:Str):(a++b).cps.toList=a.cps.toList++b.cps.toList:=by
 show (a.cps++b.cps).toList=_
 exact Array.toList_append
theorem qcR:∀ {xs:List Str},(∀ x∈xs,x.cps.toList.all sg=true)→(Str.join "" xs).cps.toList.all sg=true
 | [],_=>rfl
 | [x],h=>h x (by simp)
 | x::y::r,h=>by
  have e:Str.join "" (x::y::r)=x++""++Str.join "" (y::r):=rfl
  rw [e,qaa,qaa,List.all_append,List.all_append,h x (by simp),qcR fun z hz=>h z (List.mem_cons_of_mem _ hz)]
  decide +kernel
theorem qdu {c:Nat} (h:97≤c) (h2:c≤122):sg c=true:=by
 have key:∀ i,i < 26→sg (97 + i)=true:=by decide +kernel
 have:=key (c - 97) (by omega)
 rwa [show 97 + (c - 97)=c by omega] at this
theorem join_len {xs:List Str} (h:∀ x∈xs,x.length=1):(Txt.join "" xs).length=xs.length:=by
 have e:Txt.join "" xs=Str.join "" xs:=beq_iff_eq.mp (join_plain_closes "" xs)
 rw [e]
 cases xs with
 | nil=>rfl
 | cons a l =>
  rw [len_join_cons]
  have key:∀ l:List Str,(∀ x∈l,x.length=1)→(l.map (·.length)).sum=l.length:=by
   intro l
   induction l with
   | nil=>intro _;rfl
   | cons a l ih =>
    intro h
    rw [List.map_cons,List.sum_cons,h a List.mem_cons_self,ih fun x hx=>h x (List.mem_cons_of_mem _ hx),List.length_cons]
    omega
  have z:("":Str).length=0:=by decide +kernel
  rw [key _ h,z]
  omega
theorem sum_ones {xs:List Str} (h:∀ x∈xs,x.length=1):(xs.map (·.length)).sum=xs.length:=by
 induction xs with
 | nil=>rfl
 | cons a l ih =>
  rw [List.map_cons,List.sum_cons,h a List.mem_cons_self,ih fun x hx=>h x (List.mem_cons_of_mem _ hx),List.length_cons]
  omega
def Signs (p:Addr) (H:Hp) (i:Nat) (ys:List V) (H':Hp):Prop:=BB p H H'∧∃ xs:List Str,ys=xs.map V.str∧xs.length=i∧∀ x∈xs,x.length=1∧x.cps.toList.all sg=true
theorem Signs.start {p:Addr} {H:Hp} (h:Box H p):Signs p H 0 [] H:=⟨BB.refl h,[],rfl,rfl,fun _ h=>by cases h⟩
theorem Signs.more {p:Addr} {H H1 H2:Hp} {i:Nat} {ys:List V} {c:Nat} (h:Signs p H i ys H1) (b:BB p H1 H2) (hc:sg c=true):Signs p H (i + 1) (ys++[.str ⟨#[c]⟩]) H2:=by
 obtain ⟨hb,xs,rfl,hl,h1⟩:=h
 refine ⟨hb.trans b,xs++[⟨#[c]⟩],by rw [List.map_append];rfl,by rw [List.length_append,hl];rfl,fun x hx=>?_⟩
 rcases List.mem_append.mp hx with z | z
 ·exact h1 x z
 ·rw [List.mem_singleton.mp z];exact ⟨rfl,by simp [hc]⟩
theorem Signs.len {p:Addr} {H H1:Hp} {i:Nat} {ys:List V} (h:Signs p H i ys H1):ys.length=i:=by
 obtain ⟨_,xs,rfl,hl,_⟩:=h
 rw [ya,hl]
def L26:Str:="abcdefghijklmnopqrstuvwxyz"
theorem qeb {i:Int} (h0:0≤i) (h1:i < 26):atI L26.cps.toList i=some (97 + i.toNat):=by
 obtain ⟨n,rfl⟩:=Int.eq_ofNat_of_zero_le h0
 have key:∀ n,n < 26→L26.cps.toList[n]?=some (97 + n):=by decide +kernel
 rw [Int.toNat_natCast]
 exact qz (key n (by omega))
theorem qbx {x:Str} {l:List Nat} (e:x.cps.toList=l) (h1:1≤l.length) (h6:l.length≤6) (h:l.all sg=true):zF x=true:=by
 have hl:x.length=l.length:=by rw [← e];simp [Str.length]
 unfold zF
 rw [if_pos ⟨by omega,by omega⟩,e]
 exact h
theorem qa8 {ss:List Str} (h:∀ (i j:Nat) (s:Str),ss[i]?=some s→ss[j]?=some s→i=j):ss.Nodup:=by
 refine List.pairwise_iff_getElem.mpr fun i j hi hj hij e=>?_
 have:=h i j ss[j] (by rw [yb hi,e]) (yb hj)
 omega
theorem qcS {step sh a b:Int} (hs:step∈[(1:Int),3,5,7,9,11,15,25]) (ha:0≤a) (hb:0≤b) (ha':a < 26) (hb':b < 26) (e:(sh + step * a) % 26=(sh + step * b) % 26):a=b:=by
 simp only [List.mem_cons,List.not_mem_nil,or_false] at hs
 rcases hs with rfl | rfl | rfl | rfl | rfl | rfl | rfl | rfl<;>omega
def NL (p:Addr) (H':Hp) (l:Addr) (ss:List Str):Prop:=H' l=some (.lst (ss.map V.str))∧l≠p
structure NOk (ss:List Str):Prop where
 few:ss.length≤14
 nd:ss.Nodup
 nm:∀ s∈ss,zF s=true
inductive spNames (vs:List V) (H:Hp) (Q:VK) (E:XK):Prop|mk (p:Addr) (m:Int) (_:vs=[.ref p,.int m]) (_:Box H p) (_:0≤m) (_:m≤14) (_:∀ (l:Addr) (ss:List Str) (H':Hp),BB p H H'→H l=none→NL p H' l ss→NOk ss→(ss.length:Int)≤m→Q (.ref l) H')
theorem ok_names (F:Fun K "_law_names" "_law_names" j4 f fd) (T:Txt K mg cc cw) (D_l_take:DefOk P w K mg base CX0 1 "_law_take" ["_law_box_here", "_law_many"] spTake):FnOk P w K mg base CX0 2 f fd ["_law_box_here", "_law_many"] spNames:=by
 refine F.ok sc_l_names fun _ _ _ s H vs Q E hr h=>?_
 ·obtain ⟨p,m,rfl,hB,m0,m14,q⟩:=h
  have hu:=j8 hr
  refine ⟨_,(qc (qr (i:=2) sc_l_names.nd rfl (Or.inr rfl) qbd)
 (qc (qr (i:=3) sc_l_names.nd rfl (Or.inl rfl) (qp D_l_take (hmR hr) qC (qa (pv 0) (qa qi qe))))
 (qc (qr (i:=4) sc_l_names.nd rfl (Or.inr rfl) (qp D_l_take (hmR hr) qC (qa (pv 0) (qa qi qe))))
 (qc (qr (i:=5) sc_l_names.nd rfl (Or.inr rfl) (qx (qy (K:=K) rfl hu) (je (qa qi (qa qi (qa qi (qa qi (qa qi (qa qi (qa qi (qa qi qe))))))))) (qp D_l_take (hmR hr) qC (qa (pv 0) (qa qi qe))) (fun _ _=>rfl)))
 (qc (qr (i:=6) sc_l_names.nd rfl (Or.inr rfl) (qbu (K:=K) rfl PySem.F.plainAttrs_str PySem.F.slot_str_join PySem.F.type_str_join (k_join (K:=K) rfl) qbd (qa (ju (sc:=qd j4) (XN:=["_law_box_here", "_law_many", "_law_letters", "_law_way", "_law_shift", "_law_step", "_law_stem", "_law_ahead", "_law_names_here", "_law_k", "_law_name"]) ["_law_k", "_law_letters", "_law_box_here"] 1 [2,0] rfl rfl rfl (by decide +kernel) rfl (by decide +kernel)
  (zj rfl T.b_range (qa qi qe)) (fun _ _ _ _=>(qq (i:=0) (show (["_law_k", "_law_letters", "_law_box_here"]:List Str).Nodup by decide +kernel) rfl (Or.inl rfl))) qY
  (fun _ _ _ _=>jS)
  (fun _ _ _ _=>(qx (qy (K:=K) rfl hu) (pv 1) (qp D_l_take (hmR hr) qC (qa (pv 2) (qa qi qe))) (fun _ _=>rfl)))) qe)))
 (qc (qV (qo (qaj (K:=K) rfl hu) (pv 3) qi (qB _)) (qf (qm (ju (sc:=qd j4) (XN:=["_law_box_here", "_law_many", "_law_letters", "_law_way", "_law_shift", "_law_step", "_law_stem", "_law_ahead", "_law_names_here", "_law_k", "_law_name"]) ["_law_k", "_law_letters", "_law_stem", "_law_shift", "_law_step"] 1 [2,6,4,5] rfl rfl rfl (by decide +kernel) rfl (by decide +kernel)
  (zj rfl T.b_range (qa (pv 1) qe)) (fun _ _ _ _=>(qq (i:=0) (show (["_law_k", "_law_letters", "_law_stem", "_law_shift", "_law_step"]:List Str).Nodup by decide +kernel) rfl (Or.inl rfl))) qY
  (fun _ _ _ _=>jS)
  (fun _ _ _ _=>(qP (zC (K:=K) rfl) (qx (qy (K:=K) rfl hu) (pv 1) (qP qak (qP (zC (K:=K) rfl) (pv 3) (qP qbs (pv 4) (qP qc7 (pv 0) qi))) qi) (fun _ _=>rfl)) (jR (qdp (K:=K) rfl) (pv 2) zm (jQ (qP qak (pv 0) qi)))))))) qu)
 (qc (qr (i:=7) sc_l_names.nd rfl (Or.inl rfl) (qp D_l_take (hmR hr) qC (qa (pv 0) (qa qi qe))))
 (qc (qr (i:=8) sc_l_names.nd rfl (Or.inl rfl) (je qe))
 (qc (jL PassesOwn.never rfl (zj rfl T.b_range (qa (pv 1) qe)) (qq (i:=9) sc_l_names.nd rfl (Or.inl rfl))
 (qc (qr (i:=10) sc_l_names.nd rfl (Or.inl rfl) (qP (zC (K:=K) rfl) (jR (qdp (K:=K) rfl) (pv 6) zm (jQ (pv 7))) (qx (qy (K:=K) rfl hu) (pv 2) (qP qak (qP (zC (K:=K) rfl) (pv 4) (qP qbs (pv 5) (pv 9))) qi) (fun _ _=>rfl))))
 (qf (jr (qbu (K:=K) rfl PySem.F.plainAttrs_list PySem.F.slot_list_append PySem.F.type_list_append jz (pv 8) (qa (qP (zC (K:=K) rfl) (pv 10) (jR (qdp (K:=K) rfl) (pv 6) zm (jQ (qP qbs (qp D_l_take (hmR hr) qC (qa (pv 0) (qa (qP qcA qi (pv 7)) qe))) (qP qcA (pv 3) qi))))) qe))))))
 (qf (qm (pv 8)))))))))))),?_⟩
  ext
  refine ⟨p,3,rfl,hB,by decide,by decide,fun way H1 w0 w1 b1=>?_⟩
  ext
  refine ⟨p,26,rfl,b1.2,by decide,by decide,fun shift H2 sh0 sh1 b2=>?_⟩
  replace b2:=b1.trans b2
  ext
  refine ⟨by show 8≤sizeLine;decide,fun l8 h8=>?_⟩
  generalize hxs:[V.int 1,V.int 3,V.int 5,V.int 7,V.int 9,V.int 11,V.int 15,V.int 25]=xs
  have b3:=b2.new (o:=.lst xs) h8
  have n8:=b2.apart h8
  have e8:upd H2 l8 (.lst xs) l8=some (.lst xs):=qb
  generalize upd H2 l8 (.lst xs)=H3 at b3 e8 ⊢
  ext
  refine ⟨p,8,rfl,b3.2,by decide,by decide,fun r H4 r0 r1 b4=>?_⟩
  replace e8:=b4.1 _ _ n8 e8
  replace b4:=b3.trans b4
  have hl8:xs.length=8:=by rw [← hxs];rfl
  obtain ⟨v,ix,hv⟩:=qdo (xs:=xs) r0 (by omega)
  obtain ⟨step,rfl,hst,st0,st1⟩:∃ i:Int,v=.int i∧i∈[(1:Int),3,5,7,9,11,15,25]∧0≤i∧i≤25:=by
   have hm:=ye hv
   rw [← hxs] at hm
   simp only [List.mem_cons,List.not_mem_nil,or_false] at hm
   rcases hm with rfl | rfl | rfl | rfl | rfl | rfl | rfl | rfl<;>exact ⟨_,rfl,by decide,by decide,by decide⟩
  refine .inl (qah e8 ix ?_)
  clear hv ix hxs e8
  ext
  refine ⟨rfl,?_⟩
  ext
  refine ⟨5,rfl,by decide,by decide,qaG (lo:=0) (n:=5) (Signs p H4) (Signs.start b4.2) (fun i ys H' hi hs=>?_) fun ys H5 hs=>?_⟩
  ·ext
   refine zv ?_
   ext
   refine ⟨p,26,rfl,hs.1.2,by decide,by decide,fun r H2' r0 r1 hb=>?_⟩
   refine .inl (qfi (by decide +kernel) (qeb r0 r1) ?_)
   exact ⟨by rw [hs.len];exact qh (by omega),hs.more hb (qdu (by omega) (by omega))⟩
  ·refine ⟨by rw [hs.len];decide,fun l5 h5=>?_⟩
   obtain ⟨hb5,zs,rfl,hn,h1⟩:=hs
   replace b4:=(b4.trans hb5).new (o:=.lst (zs.map V.str)) h5
   ext
   refine ⟨_,l5,zs,rfl,rfl,SqL.of qb,by rw [sum_ones fun x hx=>(h1 x hx).1,show ("":Str).length=0 by decide +kernel];omega,?_⟩
   have lstem:(Txt.join "" zs).length=5:=by rw [join_len fun x hx=>(h1 x hx).1];omega
   have astem:(Txt.join "" zs).cps.toList.all sg=true:=by
    have e:Txt.join "" zs=Str.join "" zs:=beq_iff_eq.mp (join_plain_closes "" zs)
    rw [e]
    exact qcR fun x hx=>(h1 x hx).2
   generalize Txt.join "" zs=stem at lstem astem ⊢
   have lS:stem.cps.toList.length=5:=by rw [← lstem];simp [Str.length]
   have tkS:∀ k,(stem.cps.toList.take k).all sg=true:=fun k=>List.all_eq_true.mpr fun c hc=>List.all_eq_true.mp astem c (List.mem_of_mem_take hc)
   have hsl:∀ k:Nat,(Txt.slice stem none (some (k:Int))).length=min k 5:=fun k=>by
    have:(Txt.slice stem none (some (k:Int))).length=(Txt.slice stem none (some (k:Int))).cps.toList.length:=by simp [Str.length]
    rw [this,zZ,List.length_take,lS]
   generalize upd H5 l5 (.lst (zs.map V.str))=H6 at b4 ⊢
   have letter:∀ {i:Int} {H:Hp} {Q:VK},0≤i→i < 26→Q (.str ⟨#[97 + i.toNat]⟩) H→qe6 K (.str L26) (.int i) H Q:=fun h0 h1 k=>.inl (qfi (by decide +kernel) (qeb h0 h1) k)
   ext
   refine .inl (.inl (.inl ⟨rfl,rfl,?_⟩))
   ext
   refine qU (fun hw=>?_) fun hw=>?_
   ·ext
    refine ⟨m,rfl,by omega,by omega,qaG (lo:=0) (fun i ys H'=>H'=H6∧∃ ss:List Str,ys=ss.map V.str∧ss.length=i∧∀ (j:Nat) s,ss[j]?=some s→s.cps.toList=(97 + ((shift + step * ((j:Int) / 6)) % 26).toNat)::stem.cps.toList.take (j % 6)) ⟨rfl,[],rfl,rfl,by simp⟩ (fun i ys H' hi hs=>?_) fun ys H' hs=>?_⟩
    ·obtain ⟨rfl,ss,rfl,hsl',hss⟩:=hs
     ext
     refine zv ?_
     ext
     refine vI ⟨by decide,by decide⟩ ?_
     ext
     refine qbt (.inl ⟨by omega,by omega⟩) ?_
     ext
     refine vI (by decide) ?_
     ext
     refine letter (Int.emod_nonneg _ (by decide)) (Int.emod_lt_of_pos _ (by decide)) ?_
     ext
     refine vI (by decide) ?_
     ext
     refine qfj (yi (Nat.le_of_eq lstem) (by decide)) ?_
     rw [Int.zero_add,show ((i:Int) % 6)=((i % 6:Nat):Int) by omega]
     refine qdP (by rw [hsl];show 1 + _≤_;exact Nat.le_of_lt (qh (by omega))) ?_
     refine ⟨by rw [ya,hsl'];exact qh (by omega),rfl,ss++[_],by rw [List.map_append];rfl,by rw [List.length_append,hsl'];rfl,fun j s hj=>?_⟩
     by_cases hlt:j < ss.length
     ·rw [List.getElem?_append_left hlt] at hj
      exact hss j s hj
     ·rw [List.getElem?_append_right (by omega)] at hj
      have h0:j - ss.length=0:=by have:=(yc.mp hj).1;simp at this;omega
      rw [h0] at hj
      cases hj
      have hji:j=i:=by omega
      subst hji
      rw [qaa,zZ]
      rfl
    ·obtain ⟨rfl,ss,rfl,hsl',hss⟩:=hs
     refine ⟨by rw [ya,hsl'];exact Nat.le_of_lt (qh (by omega)),fun l hl=>?_⟩
     refine q l ss _ (b4.new hl) (b4.free hl) ⟨qb,b4.apart hl⟩ ⟨by omega,qa8 fun i j s hi hj=>?_,fun s hs=>?_⟩ (by omega)
     ·have ei:=hss i s hi
      have ej:=hss j s hj
      have li:=(yc.mp hi).1
      have lj:=(yc.mp hj).1
      rw [ei,List.cons.injEq] at ej
      obtain ⟨e1,e2⟩:=ej
      have e3:=congrArg List.length e2
      rw [List.length_take,List.length_take,lS] at e3
      have e4:(i:Int) / 6=(j:Int) / 6:=qcS (sh:=shift) hst (by omega) (by omega) (by omega) (by omega) (by
       have p1:=Int.emod_nonneg (shift + step * ((i:Int) / 6)) (show (26:Int)≠0 by decide)
       have p2:=Int.emod_nonneg (shift + step * ((j:Int) / 6)) (show (26:Int)≠0 by decide)
       omega)
      omega
     ·obtain ⟨j,hj,e⟩:=List.getElem_of_mem hs
      refine qbx (hss j s (by rw [yb hj,e])) (by simp) (by simp [lS];omega) ?_
      rw [List.all_cons,tkS,qdu (by omega) (by have:=Int.emod_lt_of_pos (shift + step * ((j:Int) / 6)) (show (0:Int) < 26 by decide);omega)]
      rfl
   ·ext
    refine ⟨p,4,rfl,b4.2,by decide,by decide,fun ahead H7 a0 a1 b7=>?_⟩
    obtain ⟨ah,rfl⟩:=Int.eq_ofNat_of_zero_le a0
    replace b7:=b4.trans b7
    ext
    refine ⟨by decide,fun l hl=>?_⟩
    have b8:=b7.new (o:=.lst []) hl
    have nl:=b7.apart hl
    have hl0:=b7.free hl
    ext
    refine ⟨m,rfl,by omega,by omega,qar (fun i σ H'=>BB p H H'∧∃ (ss:List Str) (x9 x10:Option V),σ=[some (.ref p),some (.int m),some (.str L26),some (.int way),some (.int shift),some (.int step),some (.str stem),some (.int (ah:Int)),some (.ref l),x9,x10]∧H' l=some (.lst (ss.map V.str))∧ss.length=i∧∀ (j:Nat) s,ss[j]?=some s→zF s=true∧s.cps.toList[ah]?=some (97 + ((shift + step * (j:Int)) % 26).toNat))
     ⟨b8,[],none,none,rfl,qb,rfl,by simp⟩ (fun i σ H8 hi hp=>?_) fun σ H8 hp=>?_⟩
    ·obtain ⟨b9,ss,x9,x10,rfl,hss,hsl',hk⟩:=hp
     ext
     refine qfj (yi (Nat.le_of_eq lstem) (by decide)) ?_
     ext
     refine qbt (.inl ⟨by omega,by omega⟩) ?_
     ext
     refine vI (by decide) ?_
     ext
     rw [Int.zero_add]
     refine letter (Int.emod_nonneg _ (by decide)) (Int.emod_lt_of_pos _ (by decide)) ?_
     refine qdP (by rw [hsl];show _ + 1≤_;exact Nat.le_of_lt (qh (by omega))) ?_
     have eNm:(Txt.slice stem none (some (ah:Int))++(⟨#[97 + ((shift + step * (i:Int)) % 26).toNat]⟩:Str)).cps.toList=stem.cps.toList.take ah++[97 + ((shift + step * (i:Int)) % 26).toNat]:=by rw [qaa,zZ]
     have lNm:(Txt.slice stem none (some (ah:Int))++(⟨#[97 + ((shift + step * (i:Int)) % 26).toNat]⟩:Str)).length≤6:=by
      have:(Txt.slice stem none (some (ah:Int))++(⟨#[97 + ((shift + step * (i:Int)) % 26).toNat]⟩:Str)).length=(Txt.slice stem none (some (ah:Int))++(⟨#[97 + ((shift + step * (i:Int)) % 26).toNat]⟩:Str)).cps.toList.length:=by simp [Str.length]
      rw [this,eNm]
      simp [lS]
      omega
     generalize Txt.slice stem none (some (ah:Int))++(⟨#[97 + ((shift + step * (i:Int)) % 26).toNat]⟩:Str)=nm at eNm lNm ⊢
     ext
     refine ⟨.inl ⟨rfl,_,SqL.of hss⟩,?_⟩
     ext
     refine ⟨p,_,rfl,b9.2,by omega,by omega,fun r H9 r0 r1 b10=>?_⟩
     replace hss:=b10.1 _ _ nl hss
     replace b10:=b9.trans b10
     ext
     refine qbt (.inl ⟨by omega,by omega⟩) ?_
     ext
     refine qfj (yi (Nat.le_of_eq lstem) (by decide)) ?_
     have hw12:way=1∨way=2:=by
      have:¬ way=0:=fun e=>hw (by subst e;rfl)
      omega
     obtain ⟨k,hk5,ek⟩:∃ k:Nat,k≤5 - ah∧r * (way - 1)=(k:Int):=by
      rcases hw12 with rfl | rfl
      ·exact ⟨0,by omega,by omega⟩
      ·exact ⟨r.toNat,by omega,by omega⟩
     rw [ek]
     refine qdP (by rw [hsl];exact Nat.le_of_lt (qh (by omega))) ?_
     refine ⟨l,_,_,rfl,rfl,hss,by rw [ya,hsl'];exact qh (by omega),?_⟩
     refine ⟨b10.put hl0 nl,ss++[_],_,_,rfl,by rw [qb,List.map_append];rfl,by rw [List.length_append,hsl'];rfl,fun j s hj=>?_⟩
     by_cases hlt:j < ss.length
     ·rw [List.getElem?_append_left hlt] at hj
      exact hk j s hj
     ·rw [List.getElem?_append_right (by omega)] at hj
      have h0:j - ss.length=0:=by have:=(yc.mp hj).1;simp at this;omega
      rw [h0] at hj
      cases hj
      have hji:j=i:=by omega
      subst hji
      have eF:(nm++Txt.slice stem none (some (k:Int))).cps.toList=stem.cps.toList.take ah++[97 + ((shift + step * (j:Int)) % 26).toNat]++stem.cps.toList.take k:=by rw [qaa,eNm,zZ]
      have lt26:=Int.emod_lt_of_pos (shift + step * (j:Int)) (show (0:Int) < 26 by decide)
      refine ⟨qbx eF (by simp;omega) (by simp [lS];omega) ?_,?_⟩
      ·rw [List.all_append,List.all_append,tkS,tkS,List.all_cons,qdu (by omega) (by omega)]
       rfl
      ·rw [eF,List.append_assoc,List.getElem?_append_right (by rw [List.length_take];omega)]
       have:ah - (stem.cps.toList.take ah).length=0:=by rw [List.length_take,lS];omega
       rw [this]
       rfl
    ·obtain ⟨b9,ss,x9,x10,rfl,hss,hsl',hk⟩:=hp
     ext
     refine q l ss _ b9 hl0 ⟨hss,nl⟩ ⟨by omega,qa8 fun i j s hi hj=>?_,fun s hs=>?_⟩ (by omega)
     ·have ei:=(hk i s hi).2
      have ej:=(hk j s hj).2
      have li:=(yc.mp hi).1
      have lj:=(yc.mp hj).1
      rw [ei,Option.some.injEq] at ej
      have e4:(i:Int)=(j:Int):=qcS (sh:=shift) hst (by omega) (by omega) (by omega) (by omega) (by
       have p1:=Int.emod_nonneg (shift + step * (i:Int)) (show (26:Int)≠0 by decide)
       have p2:=Int.emod_nonneg (shift + step * (j:Int)) (show (26:Int)≠0 by decide)
       omega)
      omega
     ·obtain ⟨j,hj,e⟩:=List.getElem_of_mem hs
      exact (hk j s (by rw [yb hj,e])).1
theorem sc_l_ties:FnScope ["_law_box_here", "_law_names_here", "_law_found", "_law_base", "_law_k", "_law_j"] ["_law_box_here", "_law_names_here"] (qd qab):=fS
theorem sc_l_shuffled:FnScope ["_law_box_here", "_law_ties_here", "_law_left", "_law_found"] ["_law_box_here", "_law_ties_here"] (qd jv):=fS
theorem NL.bb {p l:Addr} {H H':Hp} {ss:List Str} (h:NL p H l ss) (b:BB p H H'):NL p H' l ss:=⟨b.1 _ _ h.2 h.1,h.2⟩
theorem NL.same {p l:Addr} {H H':Hp} {ss:List Str} (h:NL p H l ss) (s:L2.Same H H'):NL p H' l ss:=⟨s _ _ h.1,h.2⟩
def PrT (p:Addr) (H:Hp) (t:Addr) (ab:Str×Str):Prop:=t≠p∧H t=some (.tup [.str ab.1,.str ab.2])
def TL (p:Addr) (H:Hp) (l:Addr) (ts:List Addr) (tps:List (Str×Str)):Prop:=H l=some (.lst (ts.map V.ref))∧l≠p∧All2 (PrT p H) ts tps
theorem TL.bb {p l:Addr} {H H':Hp} {ts:List Addr} {tps:List (Str×Str)} (h:TL p H l ts tps) (b:BB p H H'):TL p H' l ts tps:=⟨b.1 _ _ h.2.1 h.1,h.2.1,h.2.2.mono fun t ab z=>⟨z.1,b.1 _ _ z.1 z.2⟩⟩
theorem TL.same {p l:Addr} {H H':Hp} {ts:List Addr} {tps:List (Str×Str)} (h:TL p H l ts tps) (s:L2.Same H H'):TL p H' l ts tps:=⟨s _ _ h.1,h.2.1,h.2.2.mono fun t ab z=>⟨z.1,s _ _ z.2⟩⟩
theorem PrT.put {p l:Addr} {H:Hp} {t:Addr} {ab:Str×Str} {xs ys:List V} (h:PrT p H t ab) (hl:H l=some (.lst xs)):PrT p (upd H l (.lst ys)) t ab:=⟨h.1,by rw [qg (qal h.2 hl (by intro z;cases z))];exact h.2⟩
theorem TL.more {p l t:Addr} {H:Hp} {ts:List Addr} {tps:List (Str×Str)} {ab:Str×Str} (h:TL p H l ts tps) (ht:PrT p H t ab):TL p (upd H l (.lst (ts.map V.ref++[.ref t]))) l (ts++[t]) (tps++[ab]):=
 ⟨by rw [qb,List.map_append];rfl,h.2.1,(h.2.2.mono fun _ _ z=>z.put h.1).snoc (ht.put h.1)⟩
theorem TL.other {p l l':Addr} {H:Hp} {ts:List Addr} {tps:List (Str×Str)} {xs ys:List V} (h:TL p H l ts tps) (ne:l≠l') (hl:H l'=some (.lst xs)):TL p (upd H l' (.lst ys)) l ts tps:=⟨by rw [qg ne];exact h.1,h.2.1,h.2.2.mono fun _ _ z=>z.put hl⟩
theorem qcb {α β:Type} (f:α→β):∀ (l:List α) (k:Nat),(l.map f).eraseIdx k=(l.eraseIdx k).map f
 | [],_=>rfl
 | _::_,0=>rfl
 | a::r,k + 1=>congrArg (f a::·) (qcb f r k)
theorem All2.erase {α β:Type} {R:α→β→Prop} {l:List α} {m:List β} (h:All2 R l m) (k:Nat):All2 R (l.eraseIdx k) (m.eraseIdx k):=by
 refine ⟨by rw [List.length_eraseIdx,List.length_eraseIdx,h.len],fun j a b ha hb=>?_⟩
 rw [List.getElem?_eraseIdx] at ha hb
 split at ha
 ·rename_i hlt
  rw [if_pos hlt] at hb
  exact h.at_ j a b ha hb
 ·rename_i hlt
  rw [if_neg hlt] at hb
  exact h.at_ (j + 1) a b ha hb
theorem qbm {α:Type}:∀ (l:List α) (k:Nat) (h:k < l.length),(l[k]::l.eraseIdx k).Perm l
 | [],_,h=>absurd h (Nat.not_lt_zero _)
 | a::r,0,_=>.refl _
 | a::r,k + 1,h=>(List.Perm.swap a _ _).trans (.cons a (qbm r k (Nat.lt_of_succ_lt_succ h)))
theorem TL.less {p l:Addr} {H:Hp} {ts:List Addr} {tps:List (Str×Str)} (h:TL p H l ts tps) (k:Nat):TL p (upd H l (.lst ((ts.map V.ref).eraseIdx k))) l (ts.eraseIdx k) (tps.eraseIdx k):=
 ⟨by rw [qb,qcb],h.2.1,(h.2.2.erase k).mono fun _ _ z=>z.put h.1⟩
structure TOk (ss:List Str) (tps:List (Str×Str)):Prop where
 few:tps.length≤30
 ok:∀ ab∈tps,∃ j k:Nat,j < k∧ss[j]?=some ab.1∧ss[k]?=some ab.2
 nd:tps.Nodup
inductive spTies (vs:List V) (H:Hp) (Q:VK) (E:XK):Prop|mk (p n:Addr) (ss:List Str) (_:vs=[.ref p,.ref n]) (_:Box H p) (_:NL p H n ss) (_:NOk ss) (_:∀ (l:Addr) (ts:List Addr) (tps:List (Str×Str)) (H':Hp),BB p H H'→H l=none→TL p H' l ts tps→TOk ss tps→Q (.ref l) H')
def Shuf (tps ups:List (Str×Str)):Prop:=∃ qps,ups.Perm qps∧All2 (fun a b=>b=a∨b=(a.2,a.1)) tps qps
inductive spShuf (vs:List V) (H:Hp) (Q:VK) (E:XK):Prop|mk (p l:Addr) (ts:List Addr) (tps:List (Str×Str)) (_:vs=[.ref p,.ref l]) (_:Box H p) (_:TL p H l ts tps) (_:tps.length≤30) (_:∀ (l':Addr) (us:List Addr) (ups:List (Str×Str)) (H':Hp),BB p H H'→H l'=none→TL p H' l' us ups→Shuf tps ups→Q (.ref l') H')
theorem qec {K:W.Frag} {H:Hp} {l z:Addr} {xs:List V} {Q:VK} (hl:H l=some (.lst xs)) (hz:H z=some (.lst [])) (q:Q (.bl (!xs.isEmpty)) H):qep K true (.ref l) (.ref z) H Q:=by
 cases xs with
 | nil=>exact .inr (.inl ⟨l,z,true,1,rfl,rfl,by decide,EqT.lst (n:=0) (e:=fun _=>true) (SqL.of hl) (SqL.of hz) rfl fun j x y h=>by (simp at h),q⟩)
 | cons x r=>exact .inr (.inl ⟨l,z,false,1,rfl,rfl,by decide,EqT.lstL (SqL.of hl) (SqL.of hz) (by simp),q⟩)
theorem ok_ties (F:Fun K "_law_ties" "_law_ties" qab f fd) (T:Txt K mg cc cw) (D_l_take:DefOk P w K mg base CX0 1 "_law_take" ["_law_box_here", "_law_many"] spTake):FnOk P w K mg base CX0 2 f fd ["_law_box_here", "_law_names_here"] spTies:=by
 refine F.ok sc_l_ties fun _ _ _ _ H vs Q E hr h=>?_
 ·obtain ⟨p,n,ss,rfl,hB,hN,hO,q⟩:=h
  have few:=hO.few
  have hu:=j8 hr
  refine ⟨_,(qc (qr (i:=2) sc_l_ties.nd rfl (Or.inl rfl) (je qe))
 (qc (qr (i:=3) sc_l_ties.nd rfl (Or.inl rfl) (qx (qy (K:=K) rfl hu) (je (qa qi (qa qi (qa qi (qa qi qe))))) (qp D_l_take (hmR hr) qC (qa (pv 0) (qa qi qe))) (fun _ _=>rfl)))
 (qc (jL PassesOwn.never rfl (zj rfl T.b_range (qa (qw (zw (K:=K) rfl) rfl T.b_len boot_len (qa (pv 1) qe)) qe)) (qq (i:=4) sc_l_ties.nd rfl (Or.inl rfl))
 (qf (jL PassesOwn.never rfl (zj rfl T.b_range (qa (pv 4) qe)) (qq (i:=5) sc_l_ties.nd rfl (Or.inl rfl))
 (qf (qV (PW.pt (qbG (qo (qaj (K:=K) rfl hu) (qp D_l_take (hmR hr) qC (qa (pv 0) (qa (pv 3) qe))) qi (qB _)) (qaS (qo qc8 (qw (zw (K:=K) rfl) rfl T.b_len boot_len (qa (pv 2) qe)) qi (qB _))))) (qf (jr (qbu (K:=K) rfl PySem.F.plainAttrs_list PySem.F.slot_list_append PySem.F.type_list_append jz (pv 2) (qa (zk (qa (qx (qy (K:=K) rfl hu) (pv 1) (pv 5) (fun _ _=>rfl)) (qa (qx (qy (K:=K) rfl hu) (pv 1) (pv 4) (fun _ _=>rfl)) qe))) qe)))) qu)))))
 (qf (qm (pv 2)))))),?_⟩
  ext
  refine ⟨by decide,fun l hl=>?_⟩
  have b1:=(BB.refl hB).new (o:=.lst []) hl
  have nl:=hB.apart hl
  have t1:TL p (upd H l (.lst [])) l [] []:=⟨qb,nl,All2.nil⟩
  generalize upd H l (.lst [])=H1 at b1 t1 ⊢
  ext
  refine ⟨by show 4≤sizeLine;decide,fun l4 h4=>?_⟩
  generalize hxs:[V.int 2,V.int 2,V.int 3,V.int 5]=xs
  have b2:=b1.new (o:=.lst xs) h4
  have n4:=b1.apart h4
  have e4:upd H1 l4 (.lst xs) l4=some (.lst xs):=qb
  replace t1:=t1.same (qO (Sr H1) (o:=.lst xs) h4)
  generalize upd H1 l4 (.lst xs)=H2 at b2 e4 t1 ⊢
  ext
  refine ⟨p,4,rfl,b2.2,by decide,by decide,fun r H3 r0 r1 b3=>?_⟩
  replace e4:=b3.1 _ _ n4 e4
  replace t1:=t1.bb b3
  replace b3:=b2.trans b3
  have hl4:xs.length=4:=by rw [← hxs];rfl
  obtain ⟨v,ix,hv⟩:=qdo (xs:=xs) r0 (by omega)
  obtain ⟨bs,rfl,st0,st1⟩:∃ i:Int,v=.int i∧0 < i∧i≤25:=by
   have hm:=ye hv
   rw [← hxs] at hm
   simp only [List.mem_cons,List.not_mem_nil,or_false] at hm
   rcases hm with rfl | rfl | rfl | rfl<;>exact ⟨_,rfl,by decide,by decide⟩
  refine .inl (qah e4 ix ?_)
  clear hv ix hxs e4
  ext
  have hN3:H3 n=some (.lst (ss.map V.str)):=b3.1 _ _ hN.2 hN.1
  refine qai hN3 ?_
  rw [ya]
  refine ⟨_,rfl,by omega,by omega,qar (fun i σ H'=>BB p H H'∧∃ (ts:List Addr) (tps:List (Str×Str)) (x4 x5:Option V),σ=[some (.ref p),some (.ref n),some (.ref l),some (.int bs),x4,x5]∧TL p H' l ts tps∧tps.length≤30∧tps.Nodup∧∀ ab∈tps,∃ j k,j < k∧ss[j]?=some ab.1∧ss[k]?=some ab.2∧k < i)
   ⟨b3,[],[],none,none,rfl,t1,by simp,by simp,by simp⟩ (fun i σ H4 hi hp=>?_) fun σ H4 hp=>?_⟩
  ·obtain ⟨b4,ts,tps,x4,x5,rfl,t4,l30,nd,ok⟩:=hp
   have hi':i < ss.length:=by omega
   ext
   refine ⟨_,rfl,by omega,by omega,qar (fun j σ H'=>BB p H H'∧∃ (ts:List Addr) (tps:List (Str×Str)) (x5:Option V),σ=[some (.ref p),some (.ref n),some (.ref l),some (.int bs),some (.int (0 + (i:Int))),x5]∧TL p H' l ts tps∧tps.length≤30∧tps.Nodup∧∀ ab∈tps,∃ a k,a < k∧ss[a]?=some ab.1∧ss[k]?=some ab.2∧(k < i∨(k=i∧a < j)))
    ⟨b4,ts,tps,_,rfl,t4,l30,nd,fun ab h=>by obtain ⟨a,k,h1,h2,h3,h4⟩:=ok ab h;exact ⟨a,k,h1,h2,h3,.inl h4⟩⟩ (fun j σ H5 hj hp=>?_) fun σ H5 hp=>?_⟩
   ·obtain ⟨b5,ts,tps,x5,rfl,t5,l30,nd,ok⟩:=hp
    have hj':j < ss.length:=by omega
    have hji:j < i:=by omega
    have keep:∀ ab∈tps,∃ a k,a < k∧ss[a]?=some ab.1∧ss[k]?=some ab.2∧(k < i∨(k=i∧a < j + 1)):=fun ab h=>by
     obtain ⟨a,k,h1,h2,h3,h4⟩:=ok ab h
     exact ⟨a,k,h1,h2,h3,by omega⟩
    ext
    refine ⟨p,_,rfl,b5.2,st0,by omega,fun r H6 r0 r1 b6=>?_⟩
    replace t5:=t5.bb b6
    replace b6:=b5.trans b6
    ext
    refine .inl (.inl (.inl ⟨rfl,rfl,?_⟩))
    ext
    refine qU (fun _=>?_) fun _=>?_
    ·ext
     refine qai t5.1 ?_
     ext
     refine qU (fun h30=>?_) fun _=>?_
     ·have few':ts.length < 30:=by
       have:=yk h30
       rw [ya] at this
       omega
      have hN6:H6 n=some (.lst (ss.map V.str)):=b6.1 _ _ hN.2 hN.1
      have at_:∀ (k:Nat),k < ss.length→∃ x,atI (ss.map V.str) (0 + (k:Int))=some (.str x)∧ss[k]?=some x:=fun k hk=>by
       rw [Int.zero_add]
       exact ⟨ss[k],qz (by rw [yd,yb hk];rfl),yb hk⟩
      obtain ⟨x,ix,gx⟩:=at_ j hj'
      obtain ⟨y,iy,gy⟩:=at_ i hi'
      ext
      refine ⟨.inl ⟨rfl,_,SqL.of t5.1⟩,?_⟩
      ext
      refine .inl (qah hN6 ix ?_)
      ext
      refine .inl (qah hN6 iy ?_)
      ext
      refine ⟨by show 2≤sizeLine;decide,fun t ht=>?_⟩
      have nt:=b6.apart ht
      have b7:=b6.new (o:=.tup [.str x,.str y]) ht
      have t7:=t5.same (qO (Sr H6) (o:=.tup [.str x,.str y]) ht)
      refine ⟨l,_,_,rfl,rfl,t7.1,by rw [ya];exact qh (by omega),?_⟩
      refine ⟨b7.put hl nl,_,tps++[(x,y)],_,rfl,t7.more (ab:=(x,y)) ⟨nt,qb⟩,by rw [List.length_append,← t5.2.2.len];show ts.length + 1≤30;omega,?_,fun ab h=>?_⟩
      ·refine List.nodup_append.mpr ⟨nd,by simp,fun ab h cd h2 e=>?_⟩
       rw [List.mem_singleton.mp h2] at e
       subst e
       obtain ⟨a,k,h1,h2,h3,h4⟩:=ok _ h
       have e1:a=j:=qv hO.nd h2 gx
       have e2:k=i:=qv hO.nd h3 gy
       omega
      ·rcases List.mem_append.mp h with h | h
       ·exact keep ab h
       ·rw [List.mem_singleton.mp h]
        exact ⟨j,i,hji,gx,gy,.inr ⟨rfl,by omega⟩⟩
     ·exact ⟨b6,ts,tps,_,rfl,t5,l30,nd,keep⟩
    ·ext
     refine yq ?_
     exact ⟨b6,ts,tps,_,rfl,t5,l30,nd,keep⟩
   ·obtain ⟨b5,ts,tps,x5,rfl,t5,l30,nd,ok⟩:=hp
    exact ⟨b5,ts,tps,_,_,rfl,t5,l30,nd,fun ab h=>by obtain ⟨a,k,h1,h2,h3,h4⟩:=ok ab h;exact ⟨a,k,h1,h2,h3,by omega⟩⟩
  ·obtain ⟨b4,ts,tps,x4,x5,rfl,t4,l30,nd,ok⟩:=hp
   ext
   exact q l ts tps _ b4 hl t4 ⟨l30,fun ab h=>by obtain ⟨a,k,h1,h2,h3,_⟩:=ok ab h;exact ⟨a,k,h1,h2,h3⟩,nd⟩
theorem ok_shuf (F:Fun K "_law_shuffled" "_law_shuffled" jv f fd) (T:Txt K mg cc cw) (D_l_take:DefOk P w K mg base CX0 1 "_law_take" ["_law_box_here", "_law_many"] spTake):FnOk P w K mg base CX0 2 f fd ["_law_box_here", "_law_ties_here"] spShuf:=by
 refine F.ok sc_l_shuffled fun _ _ _ _ H vs Q E hr h=>?_
 ·obtain ⟨p,l,ts,tps,rfl,hB,hT,few,q⟩:=h
  have hu:=j8 hr
  have htl:ts.length≤30:=by rw [hT.2.2.len];exact few
  refine ⟨_,(qc (qam (sc:=qd jv) (XN:=["_law_box_here", "_law_ties_here", "_law_left", "_law_found"]) ["_law_tie", "_law_box_here"] 1 [0] rfl rfl rfl (by decide +kernel) rfl (by decide +kernel) (i:=2) sc_l_shuffled.nd rfl rfl
  (qT (K:=K) rfl (pv 1)) (fun _ _ _ _=>(qq (i:=0) (show (["_law_tie", "_law_box_here"]:List Str).Nodup by decide +kernel) rfl (Or.inl rfl))) qY
  (fun _ _ _ _=>jS)
  (fun _ _ _ _=>(qx (qy (K:=K) rfl hu) (je (qa (pv 0) (qa (pe_rev (K:=K) rfl (pv 0) (jQ (qbq qas qi))) qe))) (qp D_l_take (hmR hr) qC (qa (pv 1) (qa qi qe))) (fun _ _=>rfl))))
 (qc (qr (i:=3) sc_l_shuffled.nd rfl (Or.inl rfl) (je qe))
 (qc (qaL PassesOwn.never (qo (qan (K:=K) rfl hu) (pv 2) (je qe) (qB _))
 (qf (jr (qbu (K:=K) rfl PySem.F.plainAttrs_list PySem.F.slot_list_append PySem.F.type_list_append jz (pv 3) (qa (qbu (K:=K) rfl PySem.F.plainAttrs_list PySem.F.slot_list_pop PySem.F.type_list_pop qb3 (pv 2) (qa (qp D_l_take (hmR hr) qC (qa (pv 0) (qa (qw (zw (K:=K) rfl) rfl T.b_len boot_len (qa (pv 2) qe)) qe))) qe)) qe)))))
 (qf (qm (pv 3)))))),?_⟩
  ext
  refine .inl ⟨⟨_,SqL.of hT.1⟩,qJ (K:=K) (a:=l) (xs:=ts.map V.ref) (fun i ys H'=>BB p H H'∧∃ (us:List Addr) (ups:List (Str×Str)),ys=us.map V.ref∧us.length=i∧All2 (PrT p H') us ups∧All2 (fun a b=>b=a∨b=(a.2,a.1)) (tps.take i) ups) ⟨BB.refl hB,[],[],rfl,rfl,All2.nil,by simpa using All2.nil⟩
   (fun i ys H' _ h=>SqL.of (h.1.1 _ _ hT.2.1 hT.1)) (fun i x ys H1 hx hp=>?_) fun ys H1 hp=>?_⟩
  ·obtain ⟨b1,us,ups,rfl,hul,hP,hA⟩:=hp
   rw [yd] at hx
   cases ht:ts[i]? with
   | none=>rw [ht] at hx;cases hx
   | some t =>
    rw [ht] at hx
    cases hx
    have hil:i < ts.length:=(yc.mp ht).1
    have hil':i < tps.length:=by rw [← hT.2.2.len];exact hil
    have gi:tps[i]?=some tps[i]:=yb hil'
    generalize tps[i]=ab at gi
    obtain ⟨nt,et⟩:=(hT.bb b1).2.2.at_ i t ab ht gi
    have htk:tps.take (i + 1)=tps.take i++[ab]:=by rw [List.take_add_one,gi];rfl
    obtain ⟨a,b⟩:=ab
    dsimp only at et
    ext
    refine zv ?_
    ext
    refine vU ?_
    ext
    refine ⟨rfl,t,_,_,rfl,SqT.of et,fun t2 h2=>?_⟩
    have b2:=b1.new (o:=.tup [.str b,.str a]) h2
    have n2:=b1.apart h2
    have s2:=qO (Sr H1) (o:=.tup [.str b,.str a]) h2
    have e2:upd H1 t2 (.tup [.str b,.str a]) t2=some (.tup [.str b,.str a]):=qb
    replace et:=s2 _ _ et
    replace hP:=hP.mono (S:=PrT p (upd H1 t2 (.tup [.str b,.str a]))) fun t ab z=>⟨z.1,s2 _ _ z.2⟩
    generalize upd H1 t2 (.tup [.str b,.str a])=H2 at b2 e2 et hP ⊢
    clear s2
    ext
    refine ⟨by show 2≤sizeLine;decide,fun L h3=>?_⟩
    have b3:=b2.new (o:=.lst [.ref t,.ref t2]) h3
    have n3:=b2.apart h3
    have s3:=qO (Sr H2) (o:=.lst [.ref t,.ref t2]) h3
    have e3:upd H2 L (.lst [.ref t,.ref t2]) L=some (.lst [.ref t,.ref t2]):=qb
    replace et:=s3 _ _ et
    replace e2:=s3 _ _ e2
    replace hP:=hP.mono (S:=PrT p (upd H2 L (.lst [.ref t,.ref t2]))) fun t ab z=>⟨z.1,s3 _ _ z.2⟩
    generalize upd H2 L (.lst [.ref t,.ref t2])=H3 at b3 e2 e3 et hP ⊢
    clear s3
    ext
    refine ⟨p,2,rfl,b3.2,by decide,by decide,fun r H4 r0 r1 b4=>?_⟩
    replace et:=b4.1 _ _ nt et
    replace e2:=b4.1 _ _ n2 e2
    replace e3:=b4.1 _ _ n3 e3
    replace hP:=hP.mono (S:=PrT p H4) fun t ab z=>⟨z.1,b4.1 _ _ z.1 z.2⟩
    replace b4:=b3.trans b4
    have fin:∀ u cd,PrT p H4 u cd→(cd=(a,b)∨cd=(b,a))→(us.map V.ref).length < sizeLine∧(BB p H H4∧∃ (vs:List Addr) (vps:List (Str×Str)),us.map V.ref++[V.ref u]=vs.map V.ref∧vs.length=i + 1∧All2 (PrT p H4) vs vps∧All2 (fun a b=>b=a∨b=(a.2,a.1)) (tps.take (i + 1)) vps):=fun u cd hu hcd =>
     ⟨by rw [ya,hul];exact qh (by omega),b4,us++[u],ups++[cd],by rw [List.map_append];rfl,by rw [List.length_append,hul];rfl,hP.snoc hu,by rw [htk];exact hA.snoc hcd⟩
    have hr2:r=0∨r=1:=by omega
    rcases hr2 with rfl | rfl
    ·exact .inl (qah (v:=.ref t) e3 (qz (j:=0) rfl) (fin t (a,b) ⟨nt,et⟩ (.inl rfl)))
    ·exact .inl (qah (v:=.ref t2) e3 (qz (j:=1) rfl) (fin t2 (b,a) ⟨n2,e2⟩ (.inr rfl)))
  ·obtain ⟨b1,us,qps,rfl,hul,hP,hA⟩:=hp
   rw [ya] at hul hA
   have etk:tps.take ts.length=tps:=by rw [hT.2.2.len,List.take_length]
   rw [etk] at hA
   refine ⟨by rw [ya];exact Nat.le_of_lt (qh (by omega)),fun l1 h1=>?_⟩
   have b2:=b1.new (o:=.lst (us.map V.ref)) h1
   have n1:=b1.apart h1
   have z1:=b1.free h1
   have s1':=qO (Sr H1) (o:=.lst (us.map V.ref)) h1
   have t1:TL p (upd H1 l1 (.lst (us.map V.ref))) l1 us qps:=⟨qb,n1,hP.mono fun t ab z=>⟨z.1,s1' _ _ z.2⟩⟩
   generalize upd H1 l1 (.lst (us.map V.ref))=H2 at b2 t1 ⊢
   clear s1'
   ext
   refine ⟨by decide,fun l2 h2=>?_⟩
   have b3:=b2.new (o:=.lst []) h2
   have n2:=b2.apart h2
   have z2:=b2.free h2
   have n12:l1≠l2:=qE t1.1 h2
   have t3:=t1.same (qO (Sr H2) (o:=.lst []) h2)
   have t2:TL p (upd H2 l2 (.lst [])) l2 [] []:=⟨qb,n2,All2.nil⟩
   generalize upd H2 l2 (.lst [])=H3 at b3 t2 t3 ⊢
   ext
   refine ⟨fun m σ H'=>∃ (us vs:List Addr) (ups vps:List (Str×Str)),m=us.length∧σ=[some (.ref p),some (.ref l),some (.ref l1),some (.ref l2)]∧BB p H H'∧TL p H' l1 us ups∧TL p H' l2 vs vps∧us.length + vs.length≤30∧(vps++ups).Perm qps,⟨_,us,[],qps,[],rfl,rfl,b3,t3,t2,by simp;omega,by simp⟩,fun m σ H4 hW=>?_⟩
   obtain ⟨us,vs,ups,vps,rfl,rfl,b4,u4,v4,hsum,hperm⟩:=hW
   ext
   refine ⟨by decide,fun z hz=>?_⟩
   have sz:=qO (Sr H4) (o:=.lst []) hz
   have b5:=b4.new (o:=.lst []) hz
   have u5:=u4.same sz
   have v5:=v4.same sz
   have e5:upd H4 z (.lst []) z=some (.lst []):=qb
   generalize upd H4 z (.lst [])=H5 at b5 u5 v5 e5 ⊢
   refine qec u5.1 e5 ?_
   ext
   cases us with
   | nil =>
    refine yq ?_
    ext
    have eu:ups=[]:=List.eq_nil_of_length_eq_zero (by rw [← u5.2.2.len];rfl)
    rw [eu,List.append_nil] at hperm
    exact q l2 vs vps H5 b5 z2 v5 ⟨qps,hperm,hA⟩
   | cons u0 ur =>
    refine qU (fun _=>?_) (fun h=>absurd rfl h)
    refine ⟨fun σ' H'=>∃ (us vs:List Addr) (ups vps:List (Str×Str)),us.length=ur.length∧σ'=[some (.ref p),some (.ref l),some (.ref l1),some (.ref l2)]∧BB p H H'∧TL p H' l1 us ups∧TL p H' l2 vs vps∧us.length + vs.length≤30∧(vps++ups).Perm qps,fun σ' H' ⟨us',vs',ups',vps',e,qcg⟩=>⟨_,by rw [List.length_cons,← e];exact Nat.lt_succ_self _,us',vs',ups',vps',rfl,qcg⟩,?_⟩
    ext
    refine ⟨.inl ⟨rfl,_,SqL.of v5.1⟩,?_⟩
    ext
    refine ⟨.inl ⟨rfl,_,SqL.of u5.1⟩,?_⟩
    ext
    refine qai u5.1 ?_
    ext
    rw [ya]
    rw [List.length_cons] at hsum
    refine ⟨p,_,rfl,b5.2,by (rw [List.length_cons];omega),by (rw [List.length_cons];omega),fun r H6 r0 r1 b6=>?_⟩
    have u6:=u5.bb b6
    have v6:=v5.bb b6
    replace b6:=b5.trans b6
    obtain ⟨k,rfl⟩:=Int.eq_ofNat_of_zero_le r0
    have hk:k < (u0::ur).length:=by rw [List.length_cons];rw [List.length_cons] at r1;omega
    have hkp:k < ups.length:=by rw [← u5.2.2.len];exact hk
    have gk:((u0::ur).map V.ref)[k]?=some (.ref ((u0::ur)[k])):=by rw [yd,yb hk];rfl
    have hk9:(k:Int) < 2 ^ 62:=by rw [List.length_cons] at hk;omega
    refine ⟨l1,_,_,k,_,rfl,rfl,u6.1,by omega,by omega,(qck (qct (by rw [ya];exact hk))).1,gk,?_⟩
    have pk:=u6.2.2.at_ k ((u0::ur)[k]) ups[k] (yb hk) (yb hkp)
    have u7:=u6.less k
    have v7:=v6.other (ys:=((u0::ur).map V.ref).eraseIdx k) n12.symm u6.1
    have b7:=b6.put (o:=.lst (((u0::ur).map V.ref).eraseIdx k)) z1 n1
    have pk7:=pk.put (ys:=((u0::ur).map V.ref).eraseIdx k) u6.1
    generalize upd H6 l1 (.lst (((u0::ur).map V.ref).eraseIdx k))=H7 at u7 v7 b7 pk7 ⊢
    have hlen:((u0::ur).eraseIdx k).length=ur.length:=by rw [List.length_eraseIdx_of_lt hk,List.length_cons];omega
    refine ⟨l2,_,_,rfl,rfl,v7.1,by rw [ya];exact qh (by omega),?_⟩
    refine ⟨_,_,_,_,hlen,rfl,b7.put z2 n2,u7.other n12 v7.1,v7.more pk7,?_,?_⟩
    ·rw [hlen,List.length_append,List.length_singleton]
     omega
    ·rw [List.append_assoc]
     exact (List.Perm.append_left vps (qbm ups k hkp)).trans hperm
theorem pair_eqD {K:W.Frag} {H:Hp} {a b:Addr} {s t s' t':Str} (hb:H b=some (.tup [.str s',.str t'])) (ha:H a=some (.tup [.str s,.str t])):EqD K H 1 (.ref b) (.ref a) (decide ((s',t')=(s,t))):=by
 by_cases e:b=a
 ·subst e
  rw [hb] at ha
  cases ha
  rw [decide_eq_true rfl]
  exact .self
 ·have z:=EqT.tup (K:=K) (H:=H) (n:=0) (e:=fun j=>if j=0 then eqV (.str s') (.str s) else eqV (.str t') (.str t)) (SqT.of hb) (SqT.of ha) fun j x y hx hy=>by
   match j,hx,hy with
   | 0,hx,hy=>cases hx;cases hy;exact .flat rfl rfl
   | 1,hx,hy=>cases hx;cases hy;exact .flat rfl rfl
  have ev:((List.range (min [V.str s',V.str t'].length [V.str s,V.str t].length)).all (fun j=>if j=0 then eqV (.str s') (.str s) else eqV (.str t') (.str t))&&[V.str s',V.str t'].length==[V.str s,V.str t].length)=decide ((s',t')=(s,t)):=by
   show ((s'==s)&&((t'==t)&&true)&&true)=_
   rw [Bool.eq_iff_iff]
   simp
  rw [ev] at z
  exact .deep z e
theorem TL.pl {p l:Addr} {H:Hp} {ts:List Addr} {tps:List (Str×Str)} (h:TL p H l ts tps):PL H l ts tps:=⟨h.1,h.2.2.mono fun _ _ z=>z.2⟩
def qc5 (H:Hp) (z:V):Option (Str×Str):=match z with
 | .ref t=>(match H t with
  | some (.tup [.str a,.str b])=>some (a,b)
  | _=>none)
 | _=>none
theorem qby {H:Hp} {t:Addr} {a b:Str} (h:H t=some (.tup [.str a,.str b])):qc5 H (.ref t)=some (a,b):=by
 unfold qc5
 dsimp only
 rw [h]
theorem any_in {H:Hp} {ts:List Addr} {tps:List (Str×Str)} (h:All2 (fun t ab=>H t=some (.tup [.str ab.1,.str ab.2])) ts tps) (st:Str×Str):((ts.map V.ref).any fun z=>decide (qc5 H z=some st))=decide (st∈tps):=by
 rw [Bool.eq_iff_iff,List.any_eq_true,decide_eq_true_iff]
 constructor
 ·rintro ⟨z,hz,e⟩
  obtain ⟨t,ht,rfl⟩:=List.mem_map.mp hz
  obtain ⟨ab,hab,r⟩:=h.mem ht
  have e:=yk e
  rw [qby r] at e
  cases e
  exact hab
 ·intro hm
  obtain ⟨k,hk,e⟩:=List.getElem_of_mem hm
  have hk':k < ts.length:=by rw [h.len];exact hk
  have r:=h.at_ k ts[k] tps[k] (yb hk') (yb hk)
  refine ⟨.ref ts[k],List.mem_map.mpr ⟨_,List.getElem_mem hk',rfl⟩,decide_eq_true ?_⟩
  rw [qby r,e]
theorem qer {K:W.Frag} {H:Hp} {l a:Addr} {ts:List Addr} {tps:List (Str×Str)} {s t:Str} {Q:VK} (h:PL H l ts tps) (ha:H a=some (.tup [.str s,.str t])) (q:Q (.bl (decide ((s,t)∈tps))) H):qdQ K false (.ref a) (.ref l) H Q:=by
 refine .inr (.inr ⟨l,ts.map V.ref,fun z=>decide (qc5 H z=some (s,t)),1,rfl,SqL.of h.1,by decide,fun z hz=>?_,?_⟩)
 ·obtain ⟨b,hb,rfl⟩:=List.mem_map.mp hz
  obtain ⟨ab,_,r⟩:=h.2.mem hb
  have e:=pair_eqD (K:=K) r ha
  have ee:decide (qc5 H (.ref b)=some (s,t))=decide ((ab.1,ab.2)=(s,t)):=by
   rw [qby r]
   apply decide_eq_decide.mpr
   rw [Option.some.injEq]
  show EqD K H 1 (.ref b) (.ref a) (decide (qc5 H (.ref b)=some (s,t)))
  rw [ee]
  exact e
 ·rw [any_in h.2]
  exact q
def Adj (ss:List Str) (ns:List Nat) (tps:List (Str×Str)):Prop:=∀ a b s t,ss[a]?=some s→ss[b]?=some t→((ns.getD a 0).testBit b=true↔((s,t)∈tps∨(t,s)∈tps))
theorem sc_are_pairs:FnScope ["web", "thing", "paired", "tie"] ["web", "thing"] (qd jV):=fS
theorem sc_Web_has_tie:FnScope ["self", "thing"] ["self", "thing"] (qd jA):=fS
def qbz (seen:List Str):List (Key×V):=seen.map fun s=>(.inr s,.bl true)
theorem zR (y:Str):∀ seen:List Str,(j9 (qbz seen) (.inr y:Key)).isSome=decide (y∈seen)
 | []=>rfl
 | s::r=>by
  by_cases e:s=y
  ·subst e
   show (j9 (((.inr s:Key),V.bl true)::qbz r) _).isSome=_
   rw [decide_eq_true (by simp)]
   simp [j9]
  ·show (j9 (((.inr s:Key),V.bl true)::qbz r) _).isSome=_
   rw [q0 (p:=((.inr s:Key),V.bl true)) (fun z=>e (Sum.inr.inj z)),zR y r]
   apply decide_eq_decide.mpr
   simp [Ne.symm e]
theorem qbA {y:Str} {seen:List Str} (h:y∉seen):zJ (qbz seen) (.inr y:Key) (.bl true)=qbz (seen++[y]):=by
 have:j9 (qbz seen) (.inr y:Key)=none:=by
  have:=zR y seen
  rw [yl h] at this
  exact Option.isNone_iff_eq_none.mp (by rw [← Option.not_isSome,this];rfl)
 rw [qaN _ this]
 unfold qbz
 rw [List.map_append]
 rfl
def qt (qs:List (Str×Str)):List Str:=qs.flatMap fun q=>[q.1,q.2]
def prK (qs:List (Str×Str)):List (Key×V):=qs.flatMap fun q=>[(.inr q.1,.str q.2),(.inr q.2,.str q.1)]
def pt:List (Str×Str)→Str→Option Str
 | [],_=>none
 | q::r,s=>if q.1=s then some q.2 else if q.2=s then some q.1 else pt r s
theorem jW (s:Str):∀ qs,j9 (prK qs) (.inr s:Key)=(pt qs s).map V.str
 | []=>rfl
 | q::r=>by
  show j9 (((.inr q.1:Key),V.str q.2)::((.inr q.2:Key),V.str q.1)::prK r) _=(pt (q::r) s).map V.str
  unfold pt
  by_cases h1:q.1=s
  ·rw [jk (p:=((.inr q.1:Key),V.str q.2)) (congrArg Sum.inr h1),if_pos h1];rfl
  ·rw [q0 (p:=((.inr q.1:Key),V.str q.2)) (fun z=>h1 (Sum.inr.inj z)),if_neg h1]
   by_cases h2:q.2=s
   ·rw [jk (p:=((.inr q.2:Key),V.str q.1)) (congrArg Sum.inr h2),if_pos h2];rfl
   ·rw [q0 (p:=((.inr q.2:Key),V.str q.1)) (fun z=>h2 (Sum.inr.inj z)),if_neg h2,jW s r]
theorem pt_none {s:Str}:∀ {qs:List (Str×Str)},pt qs s=none↔s∉qt qs
 | []=>by simp [pt,qt]
 | q::r=>by
  have e:qt (q::r)=q.1::q.2::qt r:=rfl
  rw [e]
  unfold pt
  by_cases h1:q.1=s
  ·rw [if_pos h1];simp [h1]
  ·rw [if_neg h1]
   by_cases h2:q.2=s
   ·rw [if_pos h2];simp [h2]
   ·rw [if_neg h2,pt_none]
    simp only [List.mem_cons,not_or]
    exact ⟨fun z=>⟨Ne.symm h1,Ne.symm h2,z⟩,fun z=>z.2.2⟩
structure PGo (ss:List Str) (tps qs:List (Str×Str)):Prop where
 inn:∀ q∈qs,(q∈tps∨(q.2,q.1)∈tps)∧q.1∈ss∧q.2∈ss∧q.1≠q.2
 nd:(qt qs).Nodup
 few:qs.length≤30
theorem qao (qs:List (Str×Str)):(qt qs).length=2 * qs.length:=by
 induction qs with
 | nil=>rfl
 | cons q r ih=>show (q.1::q.2::qt r).length=_;simp only [List.length_cons];omega
theorem zA (qs:List (Str×Str)) (q:Str×Str):qt (qs++[q])=qt qs++[q.1,q.2]:=by
 unfold qt
 rw [List.flatMap_append]
 rfl
theorem PGo.new {ss:List Str} {tps qs:List (Str×Str)} (g:PGo ss tps qs) {i:Nat} {ab:Str×Str} (h:qs[i]?=some ab):qs.take (i + 1)=qs.take i++[ab]∧(qt (qs.take i++[ab])).Nodup∧ab.1∉qt (qs.take i)∧ab.2∉qt (qs.take i):=by
 have htk:qs.take (i + 1)=qs.take i++[ab]:=by rw [List.take_add_one,h];rfl
 have hnd:(qt (qs.take i++[ab])).Nodup:=by
  rw [← htk]
  have:qt qs=qt (qs.take (i + 1))++qt (qs.drop (i + 1)):=by unfold qt;rw [← List.flatMap_append,List.take_append_drop]
  have hn:=g.nd
  rw [this] at hn
  exact (List.nodup_append.mp hn).1
 have h3:=hnd
 rw [zA] at h3
 have h4:=(List.nodup_append.mp h3).2.2
 exact ⟨htk,hnd,fun z=>h4 _ z ab.1 (by simp) rfl,fun z=>h4 _ z ab.2 (by simp) rfl⟩
inductive spHt (cw:Addr) (vs:List V) (H:Hp) (Q:VK) (E:XK):Prop|mk (x t:Addr) (ss:List Str) (ns:List Nat) (tps:List (Str×Str)) (ab:Str×Str) (_:vs=[.ref x,.ref t]) (_:WebAt cw H x ss ns) (_:Adj ss ns tps) (_:H t=some (.tup [.str ab.1,.str ab.2])) (_:(ab∈tps∨(ab.2,ab.1)∈tps)) (_:ab.1∈ss) (_:ab.2∈ss) (_:ab.1≠ab.2) (_:∀ H',L2.Same H H'→Q (.bl true) H')
inductive spAp (cw:Addr) (vs:List V) (H:Hp) (Q:VK) (E:XK):Prop|mk (x l:Addr) (ss:List Str) (ns:List Nat) (us:List Addr) (tps qs:List (Str×Str)) (_:vs=[.ref x,.ref l]) (_:WebAt cw H x ss ns) (_:Adj ss ns tps) (_:PL H l us qs) (_:PGo ss tps qs) (_:∀ H',L2.Same H H'→Q (.bl true) H')
theorem ok_ht (F:Fun K "has_tie" "Web.has_tie" jA f fd) (T:Txt K mg cc cw) (D_are_two_places:DefOk P w K mg base CX0 3 "are_two_places" ["numbers", "thing"] spTwo) (D_Web_tied:MethOk P w K mg base CX0 6 cw "tied" ["self", "one", "other"] (spTied cw)):FnOk P w K mg base CX0 7 f fd ["self", "thing"] (spHt cw):=by
 refine F.ok sc_Web_has_tie fun _ _ _ _ H vs Q E hr h=>?_
 ·obtain ⟨x,t,ss,ns,tps,ab,rfl,hW,hA,et,hab,m1,m2,hne,q⟩:=h
  have hu:=j8 hr
  obtain ⟨wx,dd,ol,nn,hb,hdd,hol,hnn,hw⟩:=id hW
  refine ⟨_,(qf (qm (qbH (qp D_are_two_places (hmR hr) qC (qa (qD (K:=K) rfl (pv 0) rfl) (qa (pv 1) qe))) (qbe (qH D_Web_tied (hmR hr) (pv 0) (qa (qx (qy (K:=K) rfl hu) (pv 1) qi (fun _ _=>rfl)) (qa (qx (qy (K:=K) rfl hu) (pv 1) qi (fun _ _=>rfl)) qe))))))),?_⟩
  ext
  refine .inl ⟨x,cw,wx,_,.ref dd,rfl,hb,T.wcl,T.wn,jU,?_⟩
  ext
  refine ⟨dd,t,ss,ab.1,ab.2,rfl,hdd,et,hw.nm _ m1,hw.nm _ m2,m1,m2,hne,fun H1 s1=>?_⟩
  refine ⟨true,rfl,zv ?_⟩
  have et1:=s1 _ _ et
  ext
  refine ⟨x,wx,_,rfl,s1 _ _ hb,zq (by decide +kernel),?_⟩
  ext
  refine .inl (qaK et1 (v:=.str ab.1) (qz (j:=0) rfl) ?_)
  ext
  refine .inl (qaK et1 (v:=.str ab.2) (qz (j:=1) rfl) ?_)
  ext
  obtain ⟨j,gj⟩:=yf m1
  obtain ⟨i,gi⟩:=yf m2
  refine ⟨x,ss,ns,ab.1,ab.2,j,i,rfl,hW.same s1,gj,gi,fun H2 s2=>?_⟩
  rw [(hA j i ab.1 ab.2 gj gi).mpr hab]
  exact q H2 (s1.trans s2)
theorem ok_ap (F:Fun K "are_pairs" "are_pairs" jV f fd) (T:Txt K mg cc cw) (D_Web_has_tie:MethOk P w K mg base CX0 7 cw "has_tie" ["self", "thing"] (spHt cw)):FnOk P w K mg base CX0 8 f fd ["web", "thing"] (spAp cw):=by
 refine F.ok sc_are_pairs fun _ _ _ _ H vs Q E hr h=>?_
 ·obtain ⟨x,l,ss,ns,us,tps,qs,rfl,hW,hA,⟨hl,hal⟩,g,q⟩:=h
  have hu:=j8 hr
  obtain ⟨wx,dd,ol,nn,hb,_⟩:=id hW
  have few:=g.few
  have hul:=hal.len
  refine ⟨_,(qc (qV (js (jg (qw (qcL (K:=K) rfl) rfl T.b_isinstance boot_isinstance (qa (pv 1) (qa (zB (v:=.ty "list") rfl T.b_list boot_list rfl) qe))))) (qf (qm j5)) qu)
 (qc (qr (i:=2) sc_are_pairs.nd rfl (Or.inl rfl) zx)
 (qc (jL PassesOwn.never rfl (qT (K:=K) rfl (pv 1)) (qq (i:=3) sc_are_pairs.nd rfl (Or.inl rfl))
 (qc (qV (PW.pt (qaT (js (jg (qH D_Web_has_tie (hmR hr) (pv 0) (qa (pv 3) qe)))) (qaT (qo (zQ (K:=K) rfl hu) (qx (qy (K:=K) rfl hu) (pv 3) qi (fun _ _=>rfl)) (pv 2) (by with_unfolding_all rfl)) (qaq (qo (zQ (K:=K) rfl hu) (qx (qy (K:=K) rfl hu) (pv 3) qi (fun _ _=>rfl)) (pv 2) (by with_unfolding_all rfl)))))) (qf (qm j5)) qu)
 (qc (j7 j5 (zi (pv 2) (qx (qy (K:=K) rfl hu) (pv 3) qi (fun _ _=>rfl)) (zn hu)))
 (qf (j7 j5 (zi (pv 2) (qx (qy (K:=K) rfl hu) (pv 3) qi (fun _ _=>rfl)) (zn hu)))))))
 (qf (qm j5))))),?_⟩
  ext
  refine qdR (.inl (.lst hl)) rfl (qbw K "list" (by simp) "list" (by simp)) ?_
  ext
  refine yq ?_
  ext
  intro d hd
  have s0:=qO (Sr H) (o:=.dK []) hd
  have ed:upd H d (.dK []) d=some (.dK (qbz [])):=qb
  generalize upd H d (.dK [])=H1 at s0 ed
  ext
  refine .inl ⟨⟨_,.of (s0 _ _ hl)⟩,jf (xs:=us.map V.ref) (fun i σ J=>L2.Same H J∧∃ y3,σ=[some (.ref x),some (.ref l),some (.ref d),y3]∧J d=some (.dK (qbz (qt (qs.take i))))) ⟨s0,_,rfl,ed⟩ (fun i σ J _ hp=>.of (hp.1 _ _ hl)) (fun i y σ J hy hp=>?_) fun σ J hp=>?_⟩
  ·obtain ⟨sJ,y3,rfl,edJ⟩:=hp
   rw [yd] at hy
   obtain ⟨b,hb',rfl⟩:=yn.mp hy
   have hi:i < us.length:=(yc.mp hb').1
   obtain ⟨ab,hab⟩:∃ ab,qs[i]?=some ab:=⟨_,yb (by rw [← hul];exact hi)⟩
   have eb:=hal.at_ i b ab hb' hab
   obtain ⟨ht,m1,m2,hne⟩:=g.inn ab (ye hab)
   obtain ⟨htk,hnd,n1,n2⟩:=g.new hab
   have hsl:(qt (qs.take i)).length≤60:=by rw [qao,List.length_take];omega
   have hbd:b≠d:=fun z=>by rw [z,hd] at eb;cases eb
   ext
   refine ⟨x,wx,_,rfl,sJ _ _ hb,zq (by decide +kernel),?_⟩
   ext
   refine ⟨x,b,ss,ns,tps,ab,rfl,hW.same sJ,hA,sJ _ _ eb,ht,m1,m2,hne,fun J2 s2=>?_⟩
   have s02:=sJ.trans s2
   have eb2:=s02 _ _ eb
   ext
   refine yq ?_
   ext
   refine .inl (qaK eb2 (v:=.str ab.1) (qz (j:=0) rfl) ?_)
   ext
   refine .inr (.inl ⟨d,_,rfl,DGet.k (k:=Sum.inr ab.1) (s2 _ _ edJ),?_⟩)
   rw [if_neg (by decide),zR,yl n1]
   ext
   refine yq ?_
   ext
   refine .inl (qaK eb2 (v:=.str ab.2) (qz (j:=1) rfl) ?_)
   ext
   refine .inr (.inl ⟨d,_,rfl,DGet.k (k:=Sum.inr ab.2) (s2 _ _ edJ),?_⟩)
   rw [if_neg (by decide),zR,yl n2]
   ext
   refine yq ?_
   ext
   refine .inl (qaK eb2 (v:=.str ab.1) (qz (j:=0) rfl) ?_)
   ext
   refine .inr ⟨d,_,rfl,DPut.k (k:=Sum.inr ab.1) (s2 _ _ edJ) (by unfold qbz;rw [ya,sizeLine_eq];omega),?_⟩
   rw [qbA n1]
   have s3:=qaH s02 (o:=.dK (qbz (qt (qs.take i)++[ab.1]))) hd
   have e3:upd J2 d (.dK (qbz (qt (qs.take i)++[ab.1]))) d=some (.dK (qbz (qt (qs.take i)++[ab.1]))):=qb
   have eb3:upd J2 d (.dK (qbz (qt (qs.take i)++[ab.1]))) b=some (.tup [.str ab.1,.str ab.2]):=by rw [qg hbd];exact eb2
   generalize upd J2 d (.dK (qbz (qt (qs.take i)++[ab.1])))=J3 at s3 e3 eb3
   ext
   refine .inl (qaK eb3 (v:=.str ab.2) (qz (j:=1) rfl) ?_)
   ext
   refine .inr ⟨d,_,rfl,DPut.k (k:=Sum.inr ab.2) e3 (by unfold qbz;rw [ya,List.length_append,sizeLine_eq];simp only [List.length_cons,List.length_nil];omega),?_⟩
   rw [qbA (fun z=>by rcases List.mem_append.mp z with z | z;exact n2 z;exact hne (List.mem_singleton.mp z).symm)]
   exact ⟨qaH s3 hd,_,rfl,by rw [qb,htk,zA,List.append_assoc];rfl⟩
  ·obtain ⟨sJ,y3,rfl,edJ⟩:=hp
   ext
   exact q J sJ
theorem sc_partners_in:FnScope ["web", "pairs", "partners", "pair"] ["web", "pairs"] (qd jB):=fS
theorem prK_len (qs:List (Str×Str)):(prK qs).length=2 * qs.length:=by
 induction qs with
 | nil=>rfl
 | cons q r ih=>show (_::_::prK r).length=_;simp only [List.length_cons];rw [ih];omega
theorem prK_snoc (qs:List (Str×Str)) (q:Str×Str):prK (qs++[q])=prK qs++[(.inr q.1,.str q.2),(.inr q.2,.str q.1)]:=by
 unfold prK
 rw [List.flatMap_append]
 rfl
theorem prK_put {qs:List (Str×Str)} {q:Str×Str} (h:(qt (qs++[q])).Nodup):zJ (zJ (prK qs) (.inr q.1:Key) (.str q.2)) (.inr q.2:Key) (.str q.1)=prK (qs++[q]):=by
 rw [zA] at h
 obtain ⟨h1,h2,h3⟩:=List.nodup_append.mp h
 have n1:q.1∉qt qs:=fun z=>h3 _ z _ (by simp) rfl
 have n2:q.2∉qt qs:=fun z=>h3 _ z q.2 (by simp) rfl
 have n3:q.1≠q.2:=by simp at h2;exact h2
 have v1:j9 (prK qs) (.inr q.1:Key)=none:=by rw [jW,pt_none.mpr n1];rfl
 rw [qaN _ v1]
 have v2:j9 (prK qs++[((.inr q.1:Key),V.str q.2)]) (.inr q.2:Key)=none:=by
  have v2:j9 (prK qs) (.inr q.2:Key)=none:=by rw [jW,pt_none.mpr n2];rfl
  unfold j9 at v2 ⊢
  rw [List.find?_append]
  have:(prK qs).find? (fun kv=>decide (kv.1=(.inr q.2:Key)))=none:=by simpa using v2
  rw [this]
  simp [n3]
 rw [qaN _ v2,prK_snoc]
 simp
inductive spPn (cw:Addr) (vs:List V) (H:Hp) (Q:VK) (E:XK):Prop|mk (x l:Addr) (ss:List Str) (ns:List Nat) (us:List Addr) (tps qs:List (Str×Str)) (_:vs=[.ref x,.ref l]) (_:WebAt cw H x ss ns) (_:Adj ss ns tps) (_:PL H l us qs) (_:PGo ss tps qs) (_:∀ (d:Addr) (H':Hp),L2.Same H H'→H d=none→H' d=some (.dK (prK qs))→Q (.ref d) H')
theorem ok_pn (F:Fun K "partners_in" "partners_in" jB f fd) (T:Txt K mg cc cw) (D_are_pairs:DefOk P w K mg base CX0 8 "are_pairs" ["web", "thing"] (spAp cw)):FnOk P w K mg base CX0 9 f fd ["web", "pairs"] (spPn cw):=by
 refine F.ok sc_partners_in fun _ _ _ _ H vs Q E hr h=>?_
 ·obtain ⟨x,l,ss,ns,us,tps,qs,rfl,hW,hA,⟨hl,hal⟩,g,q⟩:=h
  have hu:=j8 hr
  have few:=g.few
  have hul:=hal.len
  refine ⟨_,(qc (qV (js (jg (qp D_are_pairs (hmR hr) qC (qa (pv 0) (qa (pv 1) qe))))) (qf jx) qu)
 (qc (qr (i:=2) sc_partners_in.nd rfl (Or.inl rfl) zx)
 (qc (jL PassesOwn.never rfl (qT (K:=K) rfl (pv 1)) (qq (i:=3) sc_partners_in.nd rfl (Or.inl rfl))
 (qc (j7 (qx (qy (K:=K) rfl hu) (pv 3) qi (fun _ _=>rfl)) (zi (pv 2) (qx (qy (K:=K) rfl hu) (pv 3) qi (fun _ _=>rfl)) (zn hu)))
 (qf (j7 (qx (qy (K:=K) rfl hu) (pv 3) qi (fun _ _=>rfl)) (zi (pv 2) (qx (qy (K:=K) rfl hu) (pv 3) qi (fun _ _=>rfl)) (zn hu))))))
 (qf (qm (pv 2)))))),?_⟩
  ext
  refine ⟨x,l,ss,ns,us,tps,qs,rfl,hW,hA,⟨hl,hal⟩,g,fun H1 s1=>?_⟩
  ext
  refine yq ?_
  ext
  intro d hd
  have hdH:=s1.free hd
  have s2:=qO s1 (o:=.dK []) hd
  have ed:upd H1 d (.dK []) d=some (.dK (prK [])):=qb
  generalize upd H1 d (.dK [])=H2 at s2 ed
  ext
  refine .inl ⟨⟨_,.of (s2 _ _ hl)⟩,jf (xs:=us.map V.ref) (fun i σ J=>L2.Same H J∧∃ y3,σ=[some (.ref x),some (.ref l),some (.ref d),y3]∧J d=some (.dK (prK (qs.take i)))) ⟨s2,_,rfl,ed⟩ (fun i σ J _ hp=>.of (hp.1 _ _ hl)) (fun i y σ J hy hp=>?_) fun σ J hp=>?_⟩
  ·obtain ⟨sJ,y3,rfl,edJ⟩:=hp
   rw [yd] at hy
   obtain ⟨b,hb',rfl⟩:=yn.mp hy
   have hi:i < us.length:=(yc.mp hb').1
   obtain ⟨ab,hab⟩:∃ ab,qs[i]?=some ab:=⟨_,yb (by rw [← hul];exact hi)⟩
   have eb:=hal.at_ i b ab hb' hab
   obtain ⟨htk,hnd,n1,n2⟩:=g.new hab
   have hbd:b≠d:=fun z=>by rw [z,hdH] at eb;cases eb
   have ebJ:=sJ _ _ eb
   have hl3:(prK (qs.take i)).length≤2000:=by rw [prK_len,List.length_take];omega
   ext
   refine .inl (qaK ebJ (v:=.str ab.2) (qz (j:=1) rfl) ?_)
   ext
   refine .inl (qaK ebJ (v:=.str ab.1) (qz (j:=0) rfl) ?_)
   ext
   refine .inr ⟨d,_,rfl,DPut.k (k:=Sum.inr ab.1) edJ (by rw [sizeLine_eq];omega),?_⟩
   have s3:=qaH sJ (o:=.dK (zJ (prK (qs.take i)) (Sum.inr ab.1) (.str ab.2))) hdH
   have e3:upd J d (.dK (zJ (prK (qs.take i)) (Sum.inr ab.1) (.str ab.2))) d=some (.dK (zJ (prK (qs.take i)) (Sum.inr ab.1) (.str ab.2))):=qb
   have eb3:upd J d (.dK (zJ (prK (qs.take i)) (Sum.inr ab.1) (.str ab.2))) b=some (.tup [.str ab.1,.str ab.2]):=by rw [qg hbd];exact ebJ
   generalize upd J d (.dK (zJ (prK (qs.take i)) (Sum.inr ab.1) (.str ab.2)))=J3 at s3 e3 eb3
   ext
   refine .inl (qaK eb3 (v:=.str ab.1) (qz (j:=0) rfl) ?_)
   ext
   refine .inl (qaK eb3 (v:=.str ab.2) (qz (j:=1) rfl) ?_)
   ext
   refine .inr ⟨d,_,rfl,DPut.k (k:=Sum.inr ab.2) e3 ?_,?_⟩
   ·have:=jT (prK (qs.take i)) (Sum.inr ab.1:Key) (.str ab.2)
    rw [sizeLine_eq];omega
   ·exact ⟨qaH s3 hdH,_,rfl,by rw [qb,prK_put hnd,htk]⟩
  ·obtain ⟨sJ,y3,rfl,edJ⟩:=hp
   rw [ya,hul,List.take_length] at edJ
   ext
   exact q d J sJ hdH edJ
structure Gr (A:Str→Str→Prop) (f:Str→Option Str):Prop where
 as:∀ {a b},A a b→A b a
 ir:∀ {a b},A a b→a≠b
 fs:∀ {a b},f a=some b→f b=some a
 fa:∀ {a b},f a=some b→A a b
structure FS where
 rows:Str→Option (List Str)
 par:Str→Option Str
 bas:Str→Str
def Turns (A:Str→Str→Prop) (f:Str→Option Str) (r:List Str):Prop:=∀ (j:Nat) a b,r[j]?=some a→r[j + 1]?=some b→A a b∧(f a=some b↔j % 2=1)
structure Alt (A:Str→Str→Prop) (f:Str→Option Str) (r:List Str) (v:Str):Prop where
 nd:r.Nodup
 odd:r.length % 2=1
 hd:∀ s,r[0]?=some s→f s=none
 tl:∃ r0,r=r0++[v]
 st:Turns A f r
structure FI (A:Str→Str→Prop) (f:Str→Option Str) (S:FS):Prop where
 alt:∀ v r,S.rows v=some r→Alt A f r v
 bse:∀ v r,S.rows v=some r→∃ rb t,S.rows (S.bas v)=some rb∧r=rb++t∧∀ u∈t,S.bas u=S.bas v
 idm:∀ v r,S.rows v=some r→S.bas (S.bas v)=S.bas v
 dwn:∀ b r q,S.rows b=some r→S.bas b=b→f b=some q→S.rows q=none∧∃ z rz,S.par q=some z∧S.rows z=some rz∧r=rz++[q,b]
 mat:∀ v,S.bas v≠v→(∃ r,S.rows v=some r)∧∃ u,f v=some u∧S.bas u=S.bas v
 odd:∀ x z,S.par x=some z→A z x∧(∃ r,S.rows z=some r)∧∃ y r,f x=some y∧S.rows y=some r
section
variable {A:Str→Str→Prop} {f:Str→Option Str} {S:FS}
theorem FI.own (I:FI A f S) {v:Str} (h:S.rows v=none):S.bas v=v:=Classical.byContradiction fun z=>by
 obtain ⟨⟨r,e⟩,_⟩:=I.mat v z
 rw [h] at e;cases e
theorem FI.evb (I:FI A f S) {v:Str} {r:List Str} (h:S.rows v=some r):∃ rb,S.rows (S.bas v)=some rb:=(I.bse v r h).elim fun rb z=>⟨rb,z.elim fun _ y=>y.1⟩
theorem FI.pair (I:FI A f S) {v w:Str} {r s:List Str} (hv:S.rows v=some r) (hw:S.rows w=some s) (h:f v=some w):S.bas v=S.bas w:=by
 by_cases z:S.bas v=v
 ·have:=(I.dwn v r w hv z h).1
  rw [hw] at this;cases this
 ·obtain ⟨_,u,hu,e⟩:=I.mat v z
  rw [h] at hu
  cases hu
  exact e.symm
inductive Ch (f:Str→Option Str) (S:FS):Str→List Str→Prop
 | root {b:Str}:f b=none→Ch f S b [b]
 | step {b q z:Str} {l:List Str}:f b=some q→S.par q=some z→Ch f S (S.bas z) l→Ch f S b (b::l)
theorem Ch.one {b:Str} {l:List Str} (h:Ch f S b l):∀ {m},Ch f S b m→m=l:=by
 induction h with
 | root e=>intro m g;cases g with
  | root _=>rfl
  | step e' _ _=>rw [e] at e';cases e'
 | step e p _ ih=>intro m g;cases g with
  | root e'=>rw [e] at e';cases e'
  | step e' p' g'=>rw [e] at e';cases e';rw [p] at p';cases p';rw [ih g']
theorem Ch.ne {b:Str} {l:List Str} (h:Ch f S b l):∃ t,l=b::t:=by cases h<;>exact ⟨_,rfl⟩
theorem FI.chain (I:FI A f S):∀ (n:Nat) {b:Str} {r:List Str},r.length≤n→S.rows b=some r→S.bas b=b→∃ l,Ch f S b l
 | n,b,r,hn,hb,hbb=>by
  cases e:f b with
  | none=>exact ⟨_,.root e⟩
  | some q =>
   obtain ⟨_,z,rz,p,hz,er⟩:=I.dwn b r q hb hbb e
   obtain ⟨rb,t,h1,h2,_⟩:=I.bse z rz hz
   have hl:rb.length < n:=by rw [er,h2] at hn;simp at hn;omega
   match n,hl with
   | n + 1,hl =>
    obtain ⟨l,g⟩:=I.chain n (b:=S.bas z) (r:=rb) (by omega) h1 (I.idm z rz hz)
    exact ⟨_,.step e p g⟩
theorem FI.chainOf (I:FI A f S) {v:Str} {r:List Str} (h:S.rows v=some r):∃ l,Ch f S (S.bas v) l:=by
 obtain ⟨rb,e⟩:=I.evb h
 exact I.chain _ (yh _) e (I.idm v r h)
def Cov (f:Str→Option Str) (S:FS) (l:List Str) (u:Str):Prop:=∃ d∈l,S.bas u=d∨f d=some u
theorem Cov.mono {l m:List Str} {u:Str} (h:Cov f S l u) (hs:∀ d∈l,d∈m):Cov f S m u:=h.elim fun d z=>⟨d,hs d z.1,z.2⟩
theorem Ch.up (I:FI A f S) {b:Str} {l:List Str} (h:Ch f S b l):∀ {v:Str} {r:List Str},S.rows v=some r→S.bas v=b→∀ {l1 l2:List Str} {c:Str},l=l1++c::l2→∃ rc t,S.rows c=some rc∧S.bas c=c∧Ch f S c (c::l2)∧r=rc++t∧∀ u∈t,S.bas u=c∨Cov f S l1 u:=by
 induction h with
 | root e =>
  intro v r hv hb l1 l2 c el
  cases l1 with
  | cons x y=>exact absurd (congrArg List.length el) (by simp)
  | nil =>
   cases el
   obtain ⟨rb,t,h1,h2,h3⟩:=I.bse v r hv
   rw [hb] at h1 h3
   exact ⟨rb,t,h1,by rw [← hb];exact I.idm v r hv,.root e,h2,fun u hu=>.inl (h3 u hu)⟩
 | @step b q z l e p g ih =>
  intro v r hv hb l1 l2 c el
  obtain ⟨rb,t,h1,h2,h3⟩:=I.bse v r hv
  rw [hb] at h1 h3
  have hbb:S.bas b=b:=by rw [← hb];exact I.idm v r hv
  cases l1 with
  | nil =>
   cases el
   exact ⟨rb,t,h1,hbb,.step e p g,h2,fun u hu=>.inl (h3 u hu)⟩
  | cons x y =>
   cases el
   obtain ⟨hq,z',rz,p',hz,er⟩:=I.dwn b rb q h1 hbb e
   rw [p] at p';cases p'
   obtain ⟨rc,t',k1,k2,k3,k4,k5⟩:=ih hz rfl rfl
   refine ⟨rc,t'++[q,b]++t,k1,k2,k3,by rw [h2,er,k4];simp,fun u hu=>?_⟩
   rcases List.mem_append.mp hu with hu | hu
   ·rcases List.mem_append.mp hu with hu | hu
    ·exact (k5 u hu).imp id fun z=>z.mono fun d hd=>List.mem_cons_of_mem _ hd
    ·simp only [List.mem_cons,List.not_mem_nil,or_false] at hu
     rcases hu with rfl | rfl
     ·exact .inr ⟨b,List.mem_cons_self,.inr e⟩
     ·exact .inr ⟨_,List.mem_cons_self,.inl hbb⟩
   ·exact .inr ⟨b,List.mem_cons_self,.inl (h3 u hu)⟩
theorem Ch.bs0 (I:FI A f S) {v:Str} {r l:List Str} (hv:S.rows v=some r) (h:Ch f S (S.bas v) l) {c:Str} (hc:c∈l):∃ rc,S.rows c=some rc∧S.bas c=c:=by
 obtain ⟨l1,l2,e⟩:=List.append_of_mem hc
 obtain ⟨rc,_,h1,h2,_⟩:=h.up I hv rfl e
 exact ⟨rc,h1,h2⟩
theorem Ch.cov (G:Gr A f) (I:FI A f S) {v:Str} {r l:List Str} (hv:S.rows v=some r) (h:Ch f S (S.bas v) l) {u:Str} (hu:u∈r):Cov f S l u:=by
 have hl:l≠[]:=by obtain ⟨t,e⟩:=h.ne;rw [e];exact List.cons_ne_nil _ _
 obtain ⟨rc,t,h1,h2,h3,h4,h5⟩:=h.up I hv rfl (List.dropLast_concat_getLast hl).symm
 have hlast:l.getLast hl∈l:=List.getLast_mem hl
 rw [h4] at hu
 rcases List.mem_append.mp hu with hu | hu
 ·have hf:f (l.getLast hl)=none:=by
   cases h3 with
   | root e=>exact e
   | step _ _ g=>obtain ⟨_,e⟩:=g.ne;cases e
  have al:=I.alt _ _ h1
  obtain ⟨r0,e0⟩:=al.tl
  have hr0:r0=[]:=by
   cases hr:r0.length with
   | zero=>exact List.eq_nil_of_length_eq_zero hr
   | succ n =>
    exfalso
    have hlen:rc.length=n + 2:=by rw [e0];simp [hr]
    obtain ⟨a,ha⟩:∃ a,rc[n]?=some a:=⟨_,yb (by omega)⟩
    have hb:rc[n + 1]?=some (l.getLast hl):=by rw [e0,List.getElem?_append_right (by omega),hr];simp
    have:=G.fs ((al.st n a _ ha hb).2.mpr (by have:=al.odd;omega))
    rw [hf] at this
    cases this
  rw [e0,hr0] at hu
  have e:u=l.getLast hl:=by simpa using hu
  exact ⟨_,hlast,.inl (by rw [e];exact h2)⟩
 ·rcases h5 u hu with z | ⟨d,hd,z⟩
  ·exact ⟨_,hlast,.inl z⟩
  ·exact ⟨d,List.dropLast_subset l hd,z⟩
theorem Cov.apart (G:Gr A f) (I:FI A f S) {l m:List Str} {u:Str} (hl:∀ d∈l,∃ r,S.rows d=some r∧S.bas d=d) (hm:∀ d∈m,∃ r,S.rows d=some r∧S.bas d=d) (hn:∀ d∈l,d∉m) (h1:Cov f S l u) (h2:Cov f S m u):False:=by
 have key:∀ {d e:Str},(∃ r,S.rows d=some r∧S.bas d=d)→(∃ r,S.rows e=some r∧S.bas e=e)→S.bas u=d→f e=some u→False:=fun ⟨r,hd,hdd⟩ ⟨s,he,hee⟩ h h'=>by
  have hu:=(I.dwn _ _ _ he hee h').1
  have:=I.own hu
  rw [h] at this
  rw [this,hu] at hd
  cases hd
 obtain ⟨d,hd,z⟩:=h1
 obtain ⟨e,he,y⟩:=h2
 have hde:d≠e:=fun w=>hn d hd (by rw [w];exact he)
 rcases z with z | z<;>rcases y with y | y
 ·exact hde (z.symm.trans y)
 ·exact key (hl d hd) (hm e he) z y
 ·exact key (hm e he) (hl d hd) y z
 ·have a:=G.fs z
  rw [G.fs y] at a
  exact hde (ym a).symm
theorem Turns.app {r s:List Str} (h:Turns A f r) (g:∀ (j:Nat) a b,s[j]?=some a→s[j + 1]?=some b→A a b∧(f a=some b↔(r.length + j) % 2=1)) (w:∀ a b,r[r.length - 1]?=some a→s[0]?=some b→0 < r.length→A a b∧(f a=some b↔(r.length - 1) % 2=1)):Turns A f (r++s):=fun j a b ha hb=>by
 by_cases h1:j + 1 < r.length
 ·rw [List.getElem?_append_left (by omega)] at ha
  rw [List.getElem?_append_left h1] at hb
  exact h j a b ha hb
 ·by_cases h2:j + 1=r.length
  ·rw [List.getElem?_append_left (by omega),show j=r.length - 1 by omega] at ha
   rw [List.getElem?_append_right (by omega),show j + 1 - r.length=0 by omega] at hb
   rw [show j=r.length - 1 by omega]
   exact w a b ha hb (by omega)
  ·rw [List.getElem?_append_right (by omega)] at ha
   rw [List.getElem?_append_right (by omega),show j + 1 - r.length=j - r.length + 1 by omega] at hb
   have:=g _ a b ha hb
   rwa [show r.length + (j - r.length)=j by omega] at this
theorem Alt.back (G:Gr A f) {r s rz t:List Str} {v w q c:Str} (hw:Alt A f s w) (hv:Alt A f r v) (er:r=rz++q::c::t) (hz:rz.length % 2=1) (ha:A w v) (hn:f w≠some v) (ap:∀ u∈s,u∉q::c::t):Alt A f (s++(q::c::t).reverse) q:=by
 obtain ⟨s0,es⟩:=hw.tl
 obtain ⟨r0,er0⟩:=hv.tl
 have hsl:0 < s.length:=by rw [es];simp
 have hro:=hv.odd
 have hrl:r.length=rz.length + (t.length + 2):=by rw [er];simp
 have at_:∀ {j:Nat} {a:Str},(q::c::t).reverse[j]?=some a→j < t.length + 2∧r[r.length - 1 - j]?=some a:=fun {j a} h=>by
  have hl:=(yc.mp h).1
  rw [List.length_reverse] at hl
  simp only [List.length_cons] at hl
  rw [List.getElem?_reverse (by simp only [List.length_cons];omega)] at h
  simp only [List.length_cons] at h
  refine ⟨by omega,?_⟩
  rw [hrl]
  conv=>lhs;rw [er]
  rw [List.getElem?_append_right (by omega),show rz.length + (t.length + 2) - 1 - j - rz.length=t.length + 1 + 1 - 1 - j by omega]
  exact h
 refine ⟨List.nodup_append.mpr ⟨hw.nd,?_,fun x hx y hy e=>ap x hx (by rw [e];exact List.mem_reverse.mp hy)⟩,?_,fun y hy=>?_,⟨s++(c::t).reverse,by simp⟩,hw.st.app (fun j a b h1 h2=>?_) fun a b h1 h2 _=>?_⟩
 ·exact (List.reverse_perm _).nodup_iff.mpr ((List.nodup_append.mp (er ▸ hv.nd)).2.1)
 ·rw [List.length_append,List.length_reverse]
  simp only [List.length_cons]
  have:=hw.odd
  omega
 ·rw [List.getElem?_append_left hsl] at hy
  exact hw.hd y hy
 ·obtain ⟨l1,e1⟩:=at_ h1
  obtain ⟨l2,e2⟩:=at_ h2
  have:=hv.st (r.length - 1 - (j + 1)) b a e2 (by rw [show r.length - 1 - (j + 1) + 1=r.length - 1 - j by omega];exact e1)
  refine ⟨G.as this.1,⟨fun z=>?_,fun z=>?_⟩⟩
  ·have:=this.2.mp (G.fs z)
   have:=hw.odd
   omega
  ·exact G.fs (this.2.mpr (by have:=hw.odd;omega))
 ·have ea:a=w:=by
   rw [es,List.length_append,List.getElem?_append_right (by simp)] at h1
   simpa using h1.symm
  have eb:b=v:=by
   obtain ⟨_,e2⟩:=at_ h2
   rw [Nat.sub_zero,er0,List.length_append,List.getElem?_append_right (by simp)] at e2
   simpa using e2.symm
  subst ea
  subst eb
  exact ⟨ha,⟨fun z=>absurd z hn,fun z=>by have:=hw.odd;omega⟩⟩
end
section
variable {A:Str→Str→Prop} {f:Str→Option Str} {S S':FS}
theorem Ch.nd (I:FI A f S) {b:Str} {l:List Str} (h:Ch f S b l):∀ {v:Str} {r:List Str},S.rows v=some r→S.bas v=b→l.Nodup:=by
 induction h with
 | root e=>intro _ _ _ _;simp
 | @step b q z l e p g ih =>
  intro v r hv hb
  have hbb:S.bas b=b:=by rw [← hb];exact I.idm v r hv
  obtain ⟨rb,h1⟩:=I.evb hv
  rw [hb] at h1
  obtain ⟨_,z',rz,p',hz,_⟩:=I.dwn b rb q h1 hbb e
  rw [p] at p';cases p'
  refine yo.mpr ⟨fun hm=>?_,ih hz rfl⟩
  obtain ⟨x,y,e2⟩:=List.append_of_mem hm
  obtain ⟨_,_,_,_,k3,_⟩:=g.up I hz rfl e2
  have:=k3.one (.step e p g)
  rw [e2] at this
  have:=congrArg List.length this
  simp at this
  omega
theorem Ch.suf (I:FI A f S) {v:Str} {r l:List Str} (hv:S.rows v=some r) (h:Ch f S (S.bas v) l) {l1 l2:List Str} {c q:Str} (el:l=l1++c::l2) (hq:f c=some q):∃ rz t,r=rz++q::c::t∧rz.length % 2=1∧S.rows q=none∧∀ u∈q::c::t,Cov f S (l1++[c]) u:=by
 obtain ⟨rc,t,h1,h2,_,h4,h5⟩:=h.up I hv rfl el
 obtain ⟨k1,z,rz,_,k3,k4⟩:=I.dwn c rc q h1 h2 hq
 refine ⟨rz,t,by rw [h4,k4];simp,(I.alt z rz k3).odd,k1,fun u hu=>?_⟩
 rcases List.mem_cons.mp hu with rfl | hu
 ·exact ⟨c,by simp,.inr hq⟩
 ·rcases List.mem_cons.mp hu with rfl | hu
  ·exact ⟨u,by simp,.inl h2⟩
  ·rcases h5 u hu with z | z
   ·exact ⟨c,by simp,.inl z⟩
   ·exact z.mono fun d hd=>List.mem_append_left _ hd
theorem Ch.meet (I:FI A f S) {v w:Str} {r s l l':List Str} (hv:S.rows v=some r) (hw:S.rows w=some s) (h:Ch f S (S.bas v) l) (h':Ch f S (S.bas w) l') {l1 l2 m1 m2:List Str} {m:Str} (el:l=l1++m::l2) (el':l'=m1++m::m2) (hd:∀ d∈l1,d∉l'):m2=l2∧∀ d∈m1,d∉l:=by
 obtain ⟨_,_,_,_,k,_⟩:=h.up I hv rfl el
 obtain ⟨_,_,_,_,k',_⟩:=h'.up I hw rfl el'
 have e2:m2=l2:=(List.cons.inj (k.one k')).2
 refine ⟨e2,fun d hm hl=>?_⟩
 obtain ⟨a,b,ea⟩:=List.append_of_mem hm
 obtain ⟨x,y,ex⟩:=List.append_of_mem hl
 obtain ⟨_,_,_,_,g,_⟩:=h.up I hv rfl ex
 obtain ⟨_,_,_,_,g',_⟩:=h'.up I hw rfl (l1:=a) (c:=d) (l2:=b++m::m2) (by rw [el',ea];simp)
 have e3:y=b++m::m2:=(List.cons.inj (g'.one g)).2
 have hnd:=h.nd I hv rfl
 have hdl:d∈l':=by rw [el',ea];simp
 have hm1:d∉l1:=fun z=>hd d z hdl
 have hdm:d∈m::l2:=by rw [el] at hl;exact (List.mem_append.mp hl).resolve_left hm1
 rcases List.mem_cons.mp hdm with z | z
 ·rw [z] at ex
  rw [ex,e3] at hnd
  have:=(List.nodup_append.mp hnd).2.1
  exact (yo.mp this).1 (by simp)
 ·have hmx:m∈x:=by
   obtain ⟨x2,y2,e4⟩:=List.append_of_mem z
   have e5:l=(l1++m::x2)++d::y2:=by rw [el,e4];simp
   obtain ⟨_,_,_,_,g2,_⟩:=h.up I hv rfl e5
   have e6:y2=y:=(List.cons.inj (g.one g2)).2
   rw [e5,e6] at ex
   rw [← List.append_cancel_right ex]
   simp
  rw [ex,e3] at hnd
  exact (List.nodup_append.mp hnd).2.2 m hmx m (by simp) rfl
def NewRow (S:FS) (v w u:Str) (r:List Str):Prop:=∃ rv rw rz t,S.rows v=some rv∧S.rows w=some rw∧rv=rz++u::t∧r=rw++(u::t).reverse
def InR (f:Str→Option Str) (m:Str) (cs:List Str) (u:Str):Prop:=u=m∨∃ c∈cs,u=c∨f c=some u
structure Mg (f:Str→Option Str) (S S':FS) (v w m:Str) (l1 m1:List Str):Prop where
 par:S'.par=S.par
 old:∀ u r,S.rows u=some r→S'.rows u=some r
 new:∀ u r,S'.rows u=some r→S.rows u=some r∨(∃ c∈l1,f c=some u∧NewRow S v w u r)∨(∃ c∈m1,f c=some u∧NewRow S w v u r)
 all:∀ c∈l1++m1,∀ q,f c=some q→∃ r,S'.rows q=some r
 inn:∀ u,InR f m (l1++m1) (S.bas u)→S'.bas u=m
 out:∀ u,¬ InR f m (l1++m1) (S.bas u)→S'.bas u=S.bas u
theorem cut_one {a b c d:List Str} {x:Str} (hn:(a++x::b).Nodup) (e:a++x::b=c++x::d):a=c∧b=d:=by
 induction a generalizing c with
 | nil =>
  cases c with
  | nil=>exact ⟨rfl,(List.cons.inj e).2⟩
  | cons y c =>
   obtain ⟨e1,e2⟩:=List.cons.inj e
   exact absurd (show x∈b by rw [e2];simp) (yo.mp hn).1
 | cons y a ih =>
  cases c with
  | nil =>
   obtain ⟨e1,e2⟩:=List.cons.inj e
   exact absurd (show y∈a++x::b by rw [e1];simp) (yo.mp hn).1
  | cons z c =>
   obtain ⟨e1,e2⟩:=List.cons.inj e
   obtain ⟨h1,h2⟩:=ih (yo.mp hn).2 e2
   exact ⟨by rw [e1,h1],h2⟩
theorem NewRow.ok (G:Gr A f) (I:FI A f S) {v w u c:Str} {rv rw r l l' l1 l2:List Str} (hv:S.rows v=some rv) (hw:S.rows w=some rw) (h:Ch f S (S.bas v) l) (h':Ch f S (S.bas w) l') (el:l=l1++l2) (hd:∀ d∈l1,d∉l') (ha:A w v) (hb:S.bas w≠S.bas v) (hc:c∈l1) (hu:f c=some u) (hr:NewRow S v w u r) :
  Alt A f r u∧S.rows u=none∧∃ t,r=rw++t∧∀ x∈t,Cov f S l1 x:=by
 obtain ⟨rv',rw',rz,t,k1,k2,k3,k4⟩:=hr
 rw [hv] at k1;cases k1
 rw [hw] at k2;cases k2
 obtain ⟨a,b,ea⟩:=List.append_of_mem hc
 obtain ⟨rz',t',e1,e2,e3,e4⟩:=h.suf I hv (l1:=a) (c:=c) (l2:=b++l2) (by rw [el,ea];simp) hu
 have hnd:=(I.alt v rv hv).nd
 obtain ⟨g1,g2⟩:=cut_one (by rw [← k3];exact hnd) (k3.symm.trans e1)
 subst g1
 subst g2
 have sub:∀ d∈a++[c],d∈l1:=fun d z=>by rw [ea];rcases List.mem_append.mp z with z | z;exact List.mem_append_left _ z;rw [List.mem_singleton.mp z];simp
 have inl:∀ d∈l1,d∈l:=fun d z=>by rw [el];exact List.mem_append_left _ z
 refine ⟨?_,e3,_,k4,fun x hx=>(e4 x (List.mem_reverse.mp hx)).mono sub⟩
 rw [k4]
 refine Alt.back G (I.alt w rw hw) (I.alt v rv hv) e1 e2 ha (fun z=>hb (I.pair hw hv z)) fun x hx hx2=>?_
 exact Cov.apart G I (fun d z=>h.bs0 I hv (inl d (sub d z))) (fun d z=>h'.bs0 I hw z) (fun d z=>hd d (sub d z)) (e4 x hx2) (h'.cov G I hw hx)
theorem FI.merge (G:Gr A f) (I:FI A f S) {v w m:Str} {rv rw l1 l2 m1:List Str} (hv:S.rows v=some rv) (hw:S.rows w=some rw) (h:Ch f S (S.bas v) (l1++m::l2)) (h':Ch f S (S.bas w) (m1++m::l2)) (hd:∀ d∈l1,d∉m1++m::l2) (hd':∀ d∈m1,d∉l1++m::l2) (ha:A v w) (hb:S.bas v≠S.bas w) (M:Mg f S S' v w m l1 m1):FI A f S':=by
 have hm:∃ r,S.rows m=some r∧S.bas m=m:=h.bs0 I hv (by simp)
 obtain ⟨rm,hrm,hmm⟩:=hm
 have hcs:∀ c∈l1++m1,(∃ r,S.rows c=some r∧S.bas c=c)∧c≠m∧∃ q,f c=some q∧S.rows q=none:=fun c hc=>by
  rcases List.mem_append.mp hc with z | z
  ·refine ⟨h.bs0 I hv (List.mem_append_left _ z),fun e=>hd c z (by rw [e];simp),?_⟩
   obtain ⟨a,b,ea⟩:=List.append_of_mem z
   obtain ⟨rc,_,g1,g2,g3,_⟩:=h.up I hv rfl (l1:=a) (c:=c) (l2:=b++m::l2) (by rw [ea];simp)
   generalize hx:b++m::l2=x at g3
   cases g3 with
   | root _=>exact absurd (congrArg List.length hx) (by simp)
   | step e _ _=>exact ⟨_,e,(I.dwn _ _ _ g1 g2 e).1⟩
  ·refine ⟨h'.bs0 I hw (List.mem_append_left _ z),fun e=>hd' c z (by rw [e];simp),?_⟩
   obtain ⟨a,b,ea⟩:=List.append_of_mem z
   obtain ⟨rc,_,g1,g2,g3,_⟩:=h'.up I hw rfl (l1:=a) (c:=c) (l2:=b++m::l2) (by rw [ea];simp)
   generalize hx:b++m::l2=x at g3
   cases g3 with
   | root _=>exact absurd (congrArg List.length hx) (by simp)
   | step e _ _=>exact ⟨_,e,(I.dwn _ _ _ g1 g2 e).1⟩
 have cov:∀ u,Cov f S (l1++m1) u→S'.bas u=m:=fun u ⟨d,hd,z⟩=>by
  refine M.inn u ?_
  rcases z with z | z
  ·exact .inr ⟨d,hd,.inl z⟩
  ·have hn:=(hcs d hd).2.2
   obtain ⟨q,e,hq⟩:=hn
   rw [z] at e;cases e
   rw [I.own hq]
   exact .inr ⟨d,hd,.inr z⟩
 have covl:∀ u,Cov f S l1 u→S'.bas u=m:=fun u z=>cov u (z.mono fun d y=>List.mem_append_left _ y)
 have covm:∀ u,Cov f S m1 u→S'.bas u=m:=fun u z=>cov u (z.mono fun d y=>List.mem_append_right _ y)
 have bm:∀ u,S.bas u=m→S'.bas u=m:=fun u z=>M.inn u (.inl z)
 have m0:S'.bas m=m:=bm m hmm
 have rm':=M.old m rm hrm
 have pre:∀ {x:Str} {rx a b:List Str},S.rows x=some rx→Ch f S (S.bas x) (a++m::b)→(∀ d∈a,d∈l1++m1)→∃ t,rx=rm++t∧∀ u∈t,S'.bas u=m:=fun {x rx a b} hx hc hs=>by
  obtain ⟨rc,t,g1,_,_,g4,g5⟩:=hc.up I hx rfl rfl
  rw [hrm] at g1;cases g1
  exact ⟨t,g4,fun u hu=>(g5 u hu).elim (bm u) fun z=>cov u (z.mono hs)⟩
 have nw:∀ u r,(∃ c∈l1,f c=some u∧NewRow S v w u r)∨(∃ c∈m1,f c=some u∧NewRow S w v u r)→Alt A f r u∧S.rows u=none∧S'.bas u=m∧∃ t,r=rm++t∧∀ x∈t,S'.bas x=m:=fun u r z=>by
  rcases z with ⟨c,hc,hu,hr⟩ | ⟨c,hc,hu,hr⟩
  ·obtain ⟨g1,g2,t,g3,g4⟩:=NewRow.ok G I hv hw h h' rfl hd (G.as ha) (Ne.symm hb) hc hu hr
   obtain ⟨t0,p1,p2⟩:=pre hw h' fun d y=>List.mem_append_right _ y
   exact ⟨g1,g2,covl u ⟨c,hc,.inr hu⟩,t0++t,by rw [g3,p1];simp,fun x hx=>(List.mem_append.mp hx).elim (p2 x) fun y=>covl x (g4 x y)⟩
  ·obtain ⟨g1,g2,t,g3,g4⟩:=NewRow.ok G I hw hv h' h rfl hd' ha hb hc hu hr
   obtain ⟨t0,p1,p2⟩:=pre hv h fun d y=>List.mem_append_left _ y
   exact ⟨g1,g2,covm u ⟨c,hc,.inr hu⟩,t0++t,by rw [g3,p1];simp,fun x hx=>(List.mem_append.mp hx).elim (p2 x) fun y=>covm x (g4 x y)⟩
 have inR:∀ u r,S.rows u=some r→InR f m (l1++m1) (S.bas u)→S.bas u=m∨S.bas u∈l1++m1:=fun u r hu z=>by
  rcases z with z | ⟨c,hc,z | z⟩
  ·exact .inl z
  ·exact .inr (by rw [z];exact hc)
  ·obtain ⟨q,e,hq⟩:=(hcs c hc).2.2
   rw [z] at e;cases e
   obtain ⟨rb,e2⟩:=I.evb hu
   rw [hq] at e2;cases e2
 refine ⟨fun u r hu=>?_,fun u r hu=>?_,fun u r hu=>?_,fun b r q hb' hbb hq=>?_,fun u hu=>?_,fun x z hx=>?_⟩
 ·rcases M.new u r hu with z | z
  ·exact I.alt u r z
  ·exact (nw u r z).1
 ·rcases M.new u r hu with z | z
  ·by_cases hin:InR f m (l1++m1) (S.bas u)
   ·rw [M.inn u hin]
    refine ⟨rm,?_⟩
    have:∃ t,r=rm++t∧∀ x∈t,S'.bas x=m:=by
     rcases inR u r z hin with y | y
     ·obtain ⟨rb,t,e1,e2,e3⟩:=I.bse u r z
      rw [y,hrm] at e1
      cases e1
      exact ⟨t,e2,fun x hx=>bm x ((e3 x hx).trans y)⟩
     ·rcases List.mem_append.mp y with y | y
      ·obtain ⟨a,b,ea⟩:=List.append_of_mem y
       obtain ⟨_,_,_,_,g,_⟩:=h.up I hv rfl (l1:=a) (c:=S.bas u) (l2:=b++m::l2) (by rw [ea];simp)
       exact pre z (a:=S.bas u::b) (by simpa using g) fun d hd=>by rw [ea];rcases List.mem_cons.mp hd with rfl | hd<;>simp [*]
      ·obtain ⟨a,b,ea⟩:=List.append_of_mem y
       obtain ⟨_,_,_,_,g,_⟩:=h'.up I hw rfl (l1:=a) (c:=S.bas u) (l2:=b++m::l2) (by rw [ea];simp)
       exact pre z (a:=S.bas u::b) (by simpa using g) fun d hd=>by rw [ea];rcases List.mem_cons.mp hd with rfl | hd<;>simp [*]
    obtain ⟨t,e1,e2⟩:=this
    exact ⟨t,rm',e1,e2⟩
   ·rw [M.out u hin]
    obtain ⟨rb,t,e1,e2,e3⟩:=I.bse u r z
    exact ⟨rb,t,M.old _ _ e1,e2,fun x hx=>by rw [M.out x (by rw [e3 x hx];exact hin)];exact e3 x hx⟩
  ·obtain ⟨_,_,e,t,e1,e2⟩:=nw u r z
   rw [e]
   exact ⟨rm,t,rm',e1,e2⟩
 ·by_cases hin:InR f m (l1++m1) (S.bas u)
  ·rw [M.inn u hin];exact m0
  ·rw [M.out u hin]
   rcases M.new u r hu with z | z
   ·have e:=I.idm u r z
    rw [M.out _ (by rw [e];exact hin)]
    exact e
   ·obtain ⟨_,g2,_⟩:=nw u r z
    have e:=I.own g2
    rw [e,M.out u (by rw [e] at hin ⊢;exact hin)]
    exact e
 ·have hb2:S.bas b=b∧(b=m∨¬ InR f m (l1++m1) (S.bas b)):=by
   by_cases hin:InR f m (l1++m1) (S.bas b)
   ·have:=M.inn b hin
    rw [hbb] at this
    rw [this]
    exact ⟨hmm,.inl rfl⟩
   ·have:=M.out b hin
    rw [hbb] at this
    exact ⟨this.symm,.inr hin⟩
  obtain ⟨hb3,hb4⟩:=hb2
  have hr:S.rows b=some r:=by
   rcases M.new b r hb' with z | z
   ·exact z
   ·exfalso
    obtain ⟨_,g2,g3,_⟩:=nw b r z
    rw [hbb] at g3
    rw [g3,hrm] at g2
    cases g2
  obtain ⟨k1,z,rz,k2,k3,k4⟩:=I.dwn b r q hr hb3 hq
  refine ⟨?_,z,rz,by rw [M.par];exact k2,M.old _ _ k3,k4⟩
  cases e:S'.rows q with
  | none=>rfl
  | some s =>
   exfalso
   have noc:∀ c∈l1++m1,f c=some q→False:=fun c hc hcq=>by
    have:=G.fs hcq
    rw [G.fs hq] at this
    have e2:=ym this
    subst e2
    rcases hb4 with y | y
    ·exact (hcs b hc).2.1 y
    ·exact y (.inr ⟨b,hc,.inl hb3⟩)
   rcases M.new q s e with y | ⟨c,hc,y,_⟩ | ⟨c,hc,y,_⟩
   ·rw [k1] at y;cases y
   ·exact noc c (List.mem_append_left _ hc) y
   ·exact noc c (List.mem_append_right _ hc) y
 ·by_cases hin:InR f m (l1++m1) (S.bas u)
  ·rw [M.inn u hin] at hu ⊢
   by_cases hub:S.bas u=u
   ·rw [hub] at hin
    rcases hin with z | ⟨c,hc,z | z⟩
    ·exact absurd z.symm hu
    ·subst z
     obtain ⟨⟨r,hr,_⟩,_,q,hq,_⟩:=hcs u hc
     exact ⟨⟨r,M.old _ _ hr⟩,q,hq,cov q ⟨u,hc,.inr hq⟩⟩
    ·exact ⟨M.all c hc u z,c,G.fs z,cov c ⟨c,hc,.inl (hcs c hc).1.choose_spec.2⟩⟩
   ·obtain ⟨⟨r,hr⟩,y,hy,e⟩:=I.mat u hub
    exact ⟨⟨r,M.old _ _ hr⟩,y,hy,M.inn y (by rw [e];exact hin)⟩
  ·rw [M.out u hin] at hu ⊢
   obtain ⟨⟨r,hr⟩,y,hy,e⟩:=I.mat u hu
   exact ⟨⟨r,M.old _ _ hr⟩,y,hy,by rw [M.out y (by rw [e];exact hin)];exact e⟩
 ·rw [M.par] at hx
  obtain ⟨k1,⟨r,k2⟩,y,s,k3,k4⟩:=I.odd x z hx
  exact ⟨k1,⟨r,M.old _ _ k2⟩,y,s,k3,M.old _ _ k4⟩
end
structure Aug (A:Str→Str→Prop) (f:Str→Option Str) (r:List Str):Prop where
 nd:r.Nodup
 two:2≤r.length
 ev:r.length % 2=0
 st:Turns A f r
 hd:∀ s,r[0]?=some s→f s=none
 tl:∀ s,r[r.length - 1]?=some s→f s=none
section
variable {A:Str→Str→Prop} {f:Str→Option Str} {S S':FS}
theorem FI.aug (G:Gr A f) (I:FI A f S) {v w:Str} {rv rw l l':List Str} (hv:S.rows v=some rv) (hw:S.rows w=some rw) (h:Ch f S (S.bas v) l) (h':Ch f S (S.bas w) l') (hl:l.getLast?≠l'.getLast?) (ha:A v w):Aug A f (rv++rw.reverse):=by
 have dis:∀ d∈l,d∉l':=fun d hd hd'=>by
  obtain ⟨a,b,e⟩:=List.append_of_mem hd
  obtain ⟨x,y,e'⟩:=List.append_of_mem hd'
  obtain ⟨_,_,_,_,k,_⟩:=h.up I hv rfl e
  obtain ⟨_,_,_,_,k',_⟩:=h'.up I hw rfl e'
  have:=k.one k'
  exact hl (by rw [e,e',this,List.getLast?_append,List.getLast?_append];rfl)
 have av:=I.alt v rv hv
 have aw:=I.alt w rw hw
 obtain ⟨v0,ev⟩:=av.tl
 obtain ⟨w0,ew⟩:=aw.tl
 have lv:0 < rv.length:=by rw [ev];simp
 have lw:0 < rw.length:=by rw [ew];simp
 have ov:=av.odd
 have ow:=aw.odd
 have hn:f v≠some w:=fun z=>by
  have e:=I.pair hv hw z
  have:=h.one (e ▸ h')
  rw [this] at hl
  exact hl rfl
 have at_:∀ {j:Nat} {a:Str},rw.reverse[j]?=some a→j < rw.length∧rw[rw.length - 1 - j]?=some a:=fun {j a} e=>by
  have hl:=(yc.mp e).1
  rw [List.length_reverse] at hl
  rw [List.getElem?_reverse hl] at e
  exact ⟨hl,e⟩
 refine ⟨List.nodup_append.mpr ⟨av.nd,(List.reverse_perm _).nodup_iff.mpr aw.nd,fun x hx y hy e=>?_⟩,by rw [List.length_append,List.length_reverse];omega,by rw [List.length_append,List.length_reverse];omega,av.st.app (fun j a b h1 h2=>?_) fun a b h1 h2 _=>?_,fun s hs=>?_,fun s hs=>?_⟩
 ·rw [← e] at hy
  exact Cov.apart G I (fun d z=>h.bs0 I hv z) (fun d z=>h'.bs0 I hw z) dis (h.cov G I hv hx) (h'.cov G I hw (List.mem_reverse.mp hy))
 ·obtain ⟨l1,e1⟩:=at_ h1
  obtain ⟨l2,e2⟩:=at_ h2
  have:=aw.st (rw.length - 1 - (j + 1)) b a e2 (by rw [show rw.length - 1 - (j + 1) + 1=rw.length - 1 - j by omega];exact e1)
  refine ⟨G.as this.1,⟨fun z=>?_,fun z=>?_⟩⟩
  ·have:=this.2.mp (G.fs z)
   omega
  ·exact G.fs (this.2.mpr (by omega))
 ·have ea:a=v:=by
   rw [ev,List.length_append,List.getElem?_append_right (by simp)] at h1
   simpa using h1.symm
  have eb:b=w:=by
   obtain ⟨_,e2⟩:=at_ h2
   rw [Nat.sub_zero,ew,List.length_append,List.getElem?_append_right (by simp)] at e2
   simpa using e2.symm
  subst ea
  subst eb
  exact ⟨ha,⟨fun z=>absurd z hn,fun z=>by omega⟩⟩
 ·rw [List.getElem?_append_left lv] at hs
  exact av.hd s hs
 ·rw [List.length_append,List.length_reverse,List.getElem?_append_right (by omega),show rv.length + rw.length - 1 - rv.length=rw.length - 1 by omega] at hs
  obtain ⟨_,e⟩:=at_ hs
  rw [Nat.sub_self] at e
  exact aw.hd s e
structure Gw (S S':FS) (p u y:Str) (r:List Str):Prop where
 ry:S'.rows y=some (r++[u,y])
 ro:∀ s,s≠y→S'.rows s=S.rows s
 pu:S'.par u=some p
 po:∀ s,s≠u→S'.par s=S.par s
 ba:S'.bas=S.bas
theorem FI.fresh (G:Gr A f) (I:FI A f S) {u y:Str} (hu:S.rows u=none) (hq:S.par u=none) (hy:f u=some y):S.rows y=none:=by
 cases e:S.rows y with
 | none=>rfl
 | some s =>
  exfalso
  by_cases z:S.bas y=y
  ·obtain ⟨_,_,_,k,_⟩:=I.dwn y s u e z (G.fs hy)
   rw [hq] at k;cases k
  ·obtain ⟨_,x,hx,k⟩:=I.mat y z
   rw [G.fs hy] at hx
   cases hx
   rw [I.own hu] at k
   obtain ⟨rb,k2⟩:=I.evb e
   rw [← k,hu] at k2
   cases k2
theorem FI.grow (G:Gr A f) (I:FI A f S) {p u y:Str} {r:List Str} (hp:S.rows p=some r) (ha:A p u) (hu:S.rows u=none) (hq:S.par u=none) (hy:f u=some y) (W:Gw S S' p u y r):FI A f S':=by
 have hyn:=I.fresh G hu hq hy
 have uy:u≠y:=G.ir (G.fa hy)
 have py:p≠y:=fun z=>by rw [z,hyn] at hp;cases hp
 have old:∀ s t,S.rows s=some t→S'.rows s=some t:=fun s t e=>by rw [W.ro s (fun z=>by rw [z,hyn] at e;cases e)];exact e
 have new:∀ s t,S'.rows s=some t→(s=y∧t=r++[u,y])∨(s≠y∧S.rows s=some t):=fun s t e=>by
  by_cases z:s=y
  ·subst z;rw [W.ry] at e;exact .inl ⟨rfl,(ym e).symm⟩
  ·rw [W.ro s z] at e;exact .inr ⟨z,e⟩
 obtain ⟨l,hl⟩:=I.chainOf hp
 have notin:∀ x∈r,x≠u∧x≠y:=fun x hx=>by
  obtain ⟨d,hd,z⟩:=hl.cov G I hp hx
  obtain ⟨rd,k1,k2⟩:=hl.bs0 I hp hd
  refine ⟨fun e=>?_,fun e=>?_⟩
  ·rw [e] at z
   rcases z with z | z
   ·rw [I.own hu] at z;rw [z,k1] at hu;cases hu
   ·obtain ⟨_,_,_,k,_⟩:=I.dwn d rd u k1 k2 z
    rw [hq] at k;cases k
  ·rw [e] at z
   rcases z with z | z
   ·rw [I.own hyn] at z;rw [z,k1] at hyn;cases hyn
   ·have:=G.fs z
    rw [G.fs hy] at this
    rw [ym this,k1] at hu
    cases hu
 have ap:=I.alt p r hp
 obtain ⟨r0,er⟩:=ap.tl
 have hrl:0 < r.length:=by rw [er];simp
 refine ⟨fun v t e=>?_,fun v t e=>?_,fun v t e=>?_,fun b t q e hb hf=>?_,fun v e=>?_,fun x z e=>?_⟩
 ·rcases new v t e with ⟨rfl,rfl⟩ | ⟨_,e⟩
  ·refine ⟨List.nodup_append.mpr ⟨ap.nd,by simp [uy],fun x hx z hz exz=>?_⟩,by rw [List.length_append];have:=ap.odd;simp only [List.length_cons,List.length_nil];omega,fun s hs=>?_,⟨r++[u],by simp⟩,ap.st.app (fun j a b h1 h2=>?_) fun a b h1 h2 _=>?_⟩
   ·obtain ⟨n1,n2⟩:=notin x hx
    simp only [List.mem_cons,List.not_mem_nil,or_false] at hz
    rcases hz with rfl | rfl
    ·exact n1 exz
    ·exact n2 exz
   ·rw [List.getElem?_append_left hrl] at hs
    exact ap.hd s hs
   ·have hj:j=0:=by have:=(yc.mp h2).1;simp at this;omega
    subst hj
    cases h1
    cases h2
    exact ⟨G.fa hy,⟨fun _=>by have:=ap.odd;omega,fun _=>hy⟩⟩
   ·cases h2
    have ea:a=p:=by
     rw [er,List.length_append,List.getElem?_append_right (by simp)] at h1
     simpa using h1.symm
    subst ea
    refine ⟨ha,⟨fun z=>?_,fun z=>by have:=ap.odd;omega⟩⟩
    have:=G.fs z
    rw [hy] at this
    exact absurd (ym this).symm py
  ·exact I.alt v t e
 ·rw [W.ba]
  rcases new v t e with ⟨rfl,rfl⟩ | ⟨_,e⟩
  ·rw [I.own hyn]
   exact ⟨_,[],W.ry,by simp,(fun x h=>by cases h)⟩
  ·obtain ⟨rb,s,k1,k2,k3⟩:=I.bse v t e
   exact ⟨rb,s,old _ _ k1,k2,k3⟩
 ·rw [W.ba]
  rcases new v t e with ⟨rfl,rfl⟩ | ⟨_,e⟩
  ·rw [I.own hyn,I.own hyn]
  ·exact I.idm v t e
 ·rw [W.ba] at hb
  rcases new b t e with ⟨rfl,rfl⟩ | ⟨_,e⟩
  ·rw [G.fs hy] at hf
   cases hf
   exact ⟨by rw [W.ro u uy];exact hu,p,r,W.pu,old _ _ hp,rfl⟩
  ·obtain ⟨k1,z,rz,k2,k3,k4⟩:=I.dwn b t q e hb hf
   refine ⟨?_,z,rz,?_,old _ _ k3,k4⟩
   ·rw [W.ro q fun z=>?_]
    ·exact k1
    ·rw [z] at hf
     have:=G.fs hf
     rw [G.fs hy] at this
     rw [← ym this,hu] at e
     cases e
   ·rw [W.po q fun z=>?_]
    ·exact k2
    ·rw [z,hq] at k2;cases k2
 ·rw [W.ba] at e ⊢
  obtain ⟨⟨t,k1⟩,k2⟩:=I.mat v e
  exact ⟨⟨t,old _ _ k1⟩,k2⟩
 ·by_cases hx:x=u
  ·subst hx
   rw [W.pu] at e
   cases e
   exact ⟨ha,⟨r,old _ _ hp⟩,y,_,hy,W.ry⟩
  ·rw [W.po x hx] at e
   obtain ⟨k1,⟨t,k2⟩,y',s,k3,k4⟩:=I.odd x z e
   exact ⟨k1,⟨t,old _ _ k2⟩,y',s,k3,old _ _ k4⟩
theorem FI.start (h1:∀ v r,S.rows v=some r→f v=none∧r=[v]) (h2:∀ x,S.par x=none) (h3:∀ v,S.bas v=v):FI A f S:=by
 refine ⟨fun v r e=>?_,fun v r e=>?_,fun v r e=>by rw [h3,h3],fun b r q e _ hf=>?_,fun v e=>absurd (h3 v) e,fun x z e=>by rw [h2] at e;cases e⟩
 ·obtain ⟨k,rfl⟩:=h1 v r e
  refine ⟨by simp,rfl,fun s hs=>by cases hs;exact k,⟨[],rfl⟩,fun j a b h1 h2=>?_⟩
  simp at h2
 ·exact ⟨r,[],by rw [h3];exact e,by simp,(fun x h=>by cases h)⟩
 ·rw [(h1 b r e).1] at hf;cases hf
end
structure CI (A:Str→Str→Prop) (S:FS) (Pd:Str→Prop):Prop where
 cl:∀ v u,Pd v→A v u→S.bas u=S.bas v∨(S.par u≠none∧¬ Pd u)
 pe:∀ v,Pd v→S.rows v≠none
theorem CI.mono {A:Str→Str→Prop} {S S':FS} {Pd:Str→Prop} (h:CI A S Pd) (hb:∀ u v,S.bas u=S.bas v→S'.bas u=S'.bas v) (hp:∀ u,S.par u≠none→S'.par u≠none) (hr:∀ u,S.rows u≠none→S'.rows u≠none):CI A S' Pd:=
 ⟨fun v u k a=>(h.cl v u k a).imp (hb u v) fun z=>⟨hp u z.1,z.2⟩,fun v k=>hr v (h.pe v k)⟩
theorem qcT:∀ {l m:List Str},l.Nodup→(∀ x∈l,x∈m)→l.length≤m.length
 | [],_,_,_=>Nat.zero_le _
 | x::r,m,hn,hs=>by
  obtain ⟨h1,h2⟩:=yo.mp hn
  have hx:=hs x List.mem_cons_self
  have:=qcT (l:=r) (m:=m.erase x) h2 fun y hy=>(List.mem_erase_of_ne (fun e=>h1 (by rw [← e];exact hy))).mpr (hs y (List.mem_cons_of_mem _ hy))
  rw [List.length_erase_of_mem hx] at this
  have:0 < m.length:=List.length_pos_of_mem hx
  simp only [List.length_cons]
  omega
theorem qes {g:Str→Option Str}:∀ (n:Nat) {X:List Str},X.length≤n→X.Nodup→(∀ x∈X,∃ y∈X,g x=some y∧y≠x∧g y=some x)→X.length % 2=0
 | _,[],_,_,_=>rfl
 | 0,x::r,h,_,_=>by simp at h
 | n + 1,x::r,h,hn,hp=>by
  obtain ⟨h1,h2⟩:=yo.mp hn
  obtain ⟨y,hy,gx,hyx,gy⟩:=hp x List.mem_cons_self
  have hyr:y∈r:=(List.mem_cons.mp hy).resolve_left hyx
  have hl:=List.length_erase_of_mem hyr
  have h0:0 < r.length:=List.length_pos_of_mem hyr
  have:=qes n (X:=r.erase y) (by simp at h;omega) (h2.erase y) fun z hz=>by
   have hz2:=(h2.mem_erase_iff.mp hz)
   obtain ⟨u,hu,gz,huz,gu⟩:=hp z (List.mem_cons_of_mem _ hz2.2)
   have ux:u≠x:=fun e=>by rw [e,gx] at gu;exact hz2.1 (ym gu).symm
   have uy:u≠y:=fun e=>by rw [e,gy] at gu;exact h1 (by rw [ym gu];exact hz2.2)
   exact ⟨u,h2.mem_erase_iff.mpr ⟨uy,(List.mem_cons.mp hu).resolve_left ux⟩,gz,huz,gu⟩
  simp only [List.length_cons]
  omega
structure Fn (A:Str→Str→Prop) (f:Str→Option Str) (S:FS) (ss:List Str):Prop where
 fi:FI A f S
 gr:Gr A f
 inn:∀ a b,A a b→a∈ss
 nd:ss.Nodup
 cl:∀ v u,S.rows v≠none→A v u→S.bas u=S.bas v∨(S.par u≠none∧S.rows u=none)
 sng:∀ z∈ss,f z=none→S.rows z≠none
 es:∀ v,S.rows v≠none→v∈ss
def qdS (S:FS) (ss:List Str) (b:Str):List Str:=ss.filter fun u=>(S.rows u).isSome&&decide (S.bas u=b)
def qbc (S:FS) (ss:List Str):List Str:=ss.filter fun u=>(S.rows u).isSome&&decide (S.bas u=u)
def qdJ (S:FS) (ss:List Str):List Str:=ss.filter fun u=>(S.par u).isSome&&!(S.rows u).isSome
def snL (g:Str→Option Str) (ss:List Str):List Str:=ss.filter fun u=>!(g u).isSome
section
variable {A:Str→Str→Prop} {f g:Str→Option Str} {S:FS} {ss:List Str}
theorem isS {α:Type} {o:Option α}:o.isSome=true↔o≠none:=by cases o<;>simp
theorem mem_cls {b u:Str}:u∈qdS S ss b↔u∈ss∧S.rows u≠none∧S.bas u=b:=by
 unfold qdS
 rw [yp,Bool.and_eq_true,isS,decide_eq_true_iff]
theorem mem_bas {u:Str}:u∈qbc S ss↔u∈ss∧S.rows u≠none∧S.bas u=u:=by
 unfold qbc
 rw [yp,Bool.and_eq_true,isS,decide_eq_true_iff]
theorem mem_bar {u:Str}:u∈qdJ S ss↔u∈ss∧S.par u≠none∧S.rows u=none:=by
 unfold qdJ
 rw [yp,Bool.and_eq_true,isS]
 cases S.rows u<;>simp
theorem mem_sn {u:Str}:u∈snL g ss↔u∈ss∧g u=none:=by
 unfold snL
 rw [yp]
 cases g u<;>simp
theorem some_of {α:Type} {o:Option α} (h:o≠none):∃ r,o=some r:=by cases o with | none=>exact absurd rfl h | some r=>exact ⟨r,rfl⟩
theorem FI.evE (I:FI A f S) {u v:Str} (hv:S.rows v≠none) (e:S.bas u=S.bas v):S.rows u≠none:=fun hu=>by
 obtain ⟨r,hr⟩:=some_of hv
 obtain ⟨rb,hb⟩:=I.evb hr
 rw [I.own hu] at e
 rw [← e,hu] at hb
 cases hb
theorem Fn.cls_odd (F:Fn A f S ss) {b:Str} (hb:b∈qbc S ss):(qdS S ss b).length % 2=1:=by
 obtain ⟨b1,b2,b3⟩:=mem_bas.mp hb
 have hbc:b∈qdS S ss b:=mem_cls.mpr ⟨b1,b2,b3⟩
 have hnd:(qdS S ss b).Nodup:=F.nd.filter _
 have:=qes (g:=f) _ (X:=(qdS S ss b).erase b) (yh _) (hnd.erase b) fun z hz=>by
  obtain ⟨zb,hz⟩:=hnd.mem_erase_iff.mp hz
  obtain ⟨z1,z2,z3⟩:=mem_cls.mp hz
  obtain ⟨_,u,hu,hub⟩:=F.fi.mat z (fun e=>zb (e.symm.trans z3))
  have hue:=F.fi.evE z2 hub
  refine ⟨u,hnd.mem_erase_iff.mpr ⟨fun e=>?_,mem_cls.mpr ⟨F.es u hue,hue,hub.trans z3⟩⟩,hu,Ne.symm (F.gr.ir (F.gr.fa hu)),F.gr.fs hu⟩
  obtain ⟨r,hr⟩:=some_of b2
  rw [e] at hu
  exact z2 (F.fi.dwn b r z hr b3 (F.gr.fs hu)).1
 rw [List.length_erase_of_mem hbc] at this
 have:=List.length_pos_of_mem hbc
 omega
theorem Fn.count (F:Fn A f S ss):(qbc S ss).length=(snL f ss).length + (qdJ S ss).length:=by
 have hb:(qbc S ss).Nodup:=F.nd.filter _
 have e:(qbc S ss).length=((qbc S ss).filter fun b=>!(f b).isSome).length + ((qbc S ss).filter fun b=>(f b).isSome).length:=by
  generalize qbc S ss=l
  induction l with
  | nil=>rfl
  | cons x r ih =>
   rw [List.filter_cons,List.filter_cons,List.length_cons,ih]
   cases (f x).isSome
   ·rw [if_pos (show (!false)=true from rfl),if_neg Bool.false_ne_true,List.length_cons];omega
   ·rw [if_neg (show ¬ (!true)=true by decide),if_pos (show true=true from rfl),List.length_cons];omega
 rw [e]
 have e1:((qbc S ss).filter fun b=>!(f b).isSome).length=(snL f ss).length:=Nat.le_antisymm
  (qcT (hb.filter _) fun x hx=>by
   obtain ⟨h1,h2⟩:=yp.mp hx
   refine mem_sn.mpr ⟨(mem_bas.mp h1).1,?_⟩
   cases e:f x with
   | none=>rfl
   | some y=>rw [e] at h2;cases h2)
  (qcT (F.nd.filter _) fun x hx=>by
   obtain ⟨h1,h2⟩:=mem_sn.mp hx
   refine yp.mpr ⟨mem_bas.mpr ⟨h1,F.sng x h1 h2,Classical.byContradiction fun z=>?_⟩,by rw [h2];rfl⟩
   obtain ⟨_,u,hu,_⟩:=F.fi.mat x z
   rw [h2] at hu;cases hu)
 have e2:((qbc S ss).filter fun b=>(f b).isSome).length=(qdJ S ss).length:=by
  have inj:(((qbc S ss).filter fun b=>(f b).isSome).map fun b=>(f b).getD "").Nodup:=by
   refine List.pairwise_map.mpr (List.Pairwise.imp_of_mem (fun {a b} ha hb' hab e=>?_) (hb.filter _))
   obtain ⟨x,hx⟩:=Option.isSome_iff_exists.mp (yp.mp ha).2
   obtain ⟨y,hy⟩:=Option.isSome_iff_exists.mp (yp.mp hb').2
   rw [hx,hy] at e
   have exy:x=y:=e
   have k:=F.gr.fs hx
   rw [exy,F.gr.fs hy] at k
   exact hab (ym k).symm
  refine Nat.le_antisymm ?_ ?_
  ·have:=qcT inj (m:=qdJ S ss) fun q hq=>?_
   rwa [ya] at this
   obtain ⟨b,hb',rfl⟩:=List.mem_map.mp hq
   obtain ⟨h1,h2⟩:=yp.mp hb'
   obtain ⟨x,hx⟩:=Option.isSome_iff_exists.mp h2
   obtain ⟨b1,b2,b3⟩:=mem_bas.mp h1
   obtain ⟨r,hr⟩:=some_of b2
   obtain ⟨k1,z,rz,k2,_⟩:=F.fi.dwn b r x hr b3 hx
   rw [hx]
   have k3:S.par x≠none:=by rw [k2];exact fun e=>by cases e
   show x∈qdJ S ss
   exact mem_bar.mpr ⟨F.inn _ _ (F.gr.as (F.gr.fa hx)),k3,k1⟩
  ·have:(qdJ S ss).length≤(((qbc S ss).filter fun b=>(f b).isSome).map fun b=>(f b).getD "").length:=qcT (F.nd.filter _) fun q hq=>?_
   rwa [ya] at this
   obtain ⟨q1,q2,q3⟩:=mem_bar.mp hq
   obtain ⟨z,hz⟩:=some_of q2
   obtain ⟨_,_,y,r,k1,k2⟩:=F.fi.odd q z hz
   have hy2:S.rows y≠none:=by rw [k2];exact fun e=>by cases e
   refine List.mem_map.mpr ⟨y,yp.mpr ⟨mem_bas.mpr ⟨F.es y hy2,hy2,Classical.byContradiction fun e=>?_⟩,by rw [F.gr.fs k1];rfl⟩,by rw [F.gr.fs k1];rfl⟩
   obtain ⟨_,u,hu,hub⟩:=F.fi.mat y e
   rw [F.gr.fs k1] at hu
   cases hu
   exact F.fi.evE hy2 hub q3
 rw [e1,e2]
theorem Fn.most (F:Fn A f S ss) (hg:Gr A g):(snL f ss).length≤(ss.filter fun u=>!(g u).isSome&&(S.rows u).isSome).length:=by
 have key:∀ b∈qbc S ss,∃ v∈qdS S ss b,g v=none∨∃ w,g v=some w∧w∈qdJ S ss:=fun b hb=>Classical.byContradiction fun hno=>by
  have hodd:=F.cls_odd hb
  have:=qes (g:=g) _ (X:=qdS S ss b) (yh _) (F.nd.filter _) fun v hv=>by
   obtain ⟨v1,v2,v3⟩:=mem_cls.mp hv
   cases e:g v with
   | none=>exact absurd ⟨v,hv,.inl e⟩ hno
   | some w =>
    have hw:=hg.as (hg.fa e)
    rcases F.cl v w v2 (hg.fa e) with z | ⟨z1,z2⟩
    ·have hwe:=F.fi.evE v2 z
     exact ⟨w,mem_cls.mpr ⟨F.es w hwe,hwe,z.trans v3⟩,rfl,Ne.symm (hg.ir (hg.fa e)),hg.fs e⟩
    ·exact absurd ⟨v,hv,.inr ⟨w,e,mem_bar.mpr ⟨F.inn _ _ hw,z1,z2⟩⟩⟩ hno
  omega
 obtain ⟨φ,hφ⟩:∃ φ:Str→Str,∀ b∈qbc S ss,φ b∈qdS S ss b∧(g (φ b)=none∨∃ w,g (φ b)=some w∧w∈qdJ S ss):=
  ⟨fun b=>@dite _ (b∈qbc S ss) (Classical.propDecidable _) (fun h=>(key b h).choose) fun _=>b,fun b hb=>by
   dsimp only
   rw [dif_pos hb]
   exact ⟨(key b hb).choose_spec.1,(key b hb).choose_spec.2⟩⟩
 have inj:∀ a∈qbc S ss,∀ b∈qbc S ss,φ a=φ b→a=b:=fun a ha b hb e=>by
  have h1:=(mem_cls.mp (hφ a ha).1).2.2
  have h2:=(mem_cls.mp (hφ b hb).1).2.2
  rw [← h1,← h2,e]
 have hb:(qbc S ss).Nodup:=F.nd.filter _
 have hle:(qbc S ss).length≤((ss.filter fun u=>!(g u).isSome&&(S.rows u).isSome)++qdJ S ss).length:=by
  rw [← ya (f:=fun b=>(g (φ b)).getD (φ b))]
  refine qcT (List.pairwise_map.mpr (List.Pairwise.imp_of_mem (fun {a b} ha hb' hab e=>?_) hb)) fun x hx=>?_
  ·have hE:∀ c∈qbc S ss,S.rows (φ c)≠none:=fun c hc=>(mem_cls.mp (hφ c hc).1).2.1
   rcases (hφ a ha).2 with z | ⟨w,z,hw⟩<;>rcases (hφ b hb').2 with y | ⟨u,y,hu⟩
   ·rw [z,y] at e;exact hab (inj a ha b hb' e)
   ·rw [z,y] at e
    have e':φ a=u:=e
    exact hE a ha (by rw [e'];exact (mem_bar.mp hu).2.2)
   ·rw [z,y] at e
    have e':w=φ b:=e
    exact hE b hb' (by rw [← e'];exact (mem_bar.mp hw).2.2)
   ·rw [z,y] at e
    have e':w=u:=e
    have k:=hg.fs z
    rw [e',hg.fs y] at k
    exact hab (inj a ha b hb' (ym k).symm)
  ·obtain ⟨b,hb',rfl⟩:=List.mem_map.mp hx
   obtain ⟨v1,v2,v3⟩:=mem_cls.mp (hφ b hb').1
   rcases (hφ b hb').2 with z | ⟨w,z,hw⟩
   ·rw [z]
    exact List.mem_append_left _ (yp.mpr ⟨v1,by show (!(g (φ b)).isSome&&(S.rows (φ b)).isSome)=true;rw [z,isS.mpr v2];rfl⟩)
   ·rw [z];exact List.mem_append_right _ hw
 rw [F.count,List.length_append] at hle
 omega
end
theorem qcU {s t:Str}:∀ {qs:List (Str×Str)},pt qs s=some t→(s,t)∈qs∨(t,s)∈qs
 | [],h=>by cases h
 | q::r,h=>by
  unfold pt at h
  split at h
  ·rename_i e;cases h;exact .inl (by rw [← e];simp)
  ·split at h
   ·rename_i e;cases h;exact .inr (by rw [← e];simp)
   ·rcases qcU h with z | z
    ·exact .inl (List.mem_cons_of_mem _ z)
    ·exact .inr (List.mem_cons_of_mem _ z)
theorem qeT:∀ {qs:List (Str×Str)},(qt qs).Nodup→∀ {a b:Str},(a,b)∈qs∨(b,a)∈qs→pt qs a=some b
 | [],_,a,b,m=>by rcases m with z | z<;>cases z
 | q::r,h,a,b,m=>by
  have hnd:(q.1::q.2::qt r).Nodup:=h
  obtain ⟨d1,d2⟩:=yo.mp hnd
  obtain ⟨d3,d4⟩:=yo.mp d2
  have inr:∀ {x y:Str},(x,y)∈r→x∈qt r∧y∈qt r:=fun hxy=>⟨List.mem_flatMap.mpr ⟨_,hxy,by simp⟩,List.mem_flatMap.mpr ⟨_,hxy,by simp⟩⟩
  unfold pt
  have later:(a,b)∈r∨(b,a)∈r→(if q.1=a then some q.2 else if q.2=a then some q.1 else pt r a)=some b:=fun hm=>by
   have ha:a∈qt r:=hm.elim (fun z=>(inr z).1) fun z=>(inr z).2
   rw [if_neg (fun z=>d1 (by rw [z];exact List.mem_cons_of_mem _ ha)),if_neg (fun z=>d3 (by rw [z];exact ha))]
   exact qeT d4 hm
  rcases m with z | z
  ·rcases List.mem_cons.mp z with z | z
   ·subst z;rw [if_pos rfl]
   ·exact later (.inl z)
  ·rcases List.mem_cons.mp z with z | z
   ·subst z
    have hne:b≠a:=fun e=>d1 (by show b∈a::_;rw [e];exact List.mem_cons_self)
    rw [if_neg hne,if_pos rfl]
   ·exact later (.inr z)
theorem qdv {qs:List (Str×Str)} (h:(qt qs).Nodup) {a b:Str}:pt qs a=some b↔(a,b)∈qs∨(b,a)∈qs:=⟨qcU,qeT h⟩
theorem qdw {qs:List (Str×Str)} (h:(qt qs).Nodup) {a b:Str}:pt qs a=some b↔pt qs b=some a:=by
 rw [qdv h,qdv h,Or.comm]
theorem qdx {x y:Option Str} (h:∀ b,x=some b↔y=some b):x=y:=by
 cases x with
 | none=>cases y with
  | none=>rfl
  | some b=>exact absurd ((h b).mpr rfl) (fun z=>by cases z)
 | some a=>exact ((h a).mp rfl).symm
theorem sc_Forest_reach:FnScope ["self", "place", "row"] ["self", "place", "row"] (qd jo):=fS
structure Fo where
 x:Addr
 b:Addr
 dp:Addr
 dr:Addr
 da:Addr
 ds:Addr
 dg:Addr
 dw:Addr
 ex:List Addr
def Fo.six (a:Fo):List Addr:=[a.x,a.dr,a.da,a.ds,a.dg,a.dw]
def Fo.all (a:Fo):List Addr:=a.six++a.ex
def Fo.tab (a:Fo) (lo:V):List (Str×V):=[("board",.ref a.b),("partners",.ref a.dp),("rows",.ref a.dr),("parents",.ref a.da),("bases",.ref a.ds),("rings",.ref a.dg),("waiting",.ref a.dw),("longer",lo)]
def Bx (l:List Addr) (H H':Hp):Prop:=∀ c o,c∉l→H c=some o→H' c=some o
def RowV (H:Hp) (l:List Addr) (o:Option V):Option (List Str)→Prop
 | none=>o=none
 | some r=>∃ t,o=some (.ref t)∧H t=some (.lst (r.map V.str))∧t∉l
def FoO (cf:Addr) (H:Hp) (a:Fo) (lo:V):Prop:=∃ dx fs,H a.x=some (.ins cf dx fs)∧fs.length≤9∧(lo=.non→fs.length≤8)∧(∀ f v,(f,v)∈a.tab lo→fs.lookup f=some v)∧∀ f,f∉fAtt→fs.lookup f=none
structure FoA (cf cw:Addr) (H0 H:Hp) (a:Fo) (ss:List Str) (ns:List Nat) (qs:List (Str×Str)) (S:FS) (bs dn wt:List Str) (lo:V):Prop where
 sm:L2.Same H0 H
 web:WebAt cw H0 a.b ss ns
 prt:H0 a.dp=some (.dK (prK qs))
 fr:∀ c∈a.six,H0 c=none
 nd:[a.dr,a.da,a.ds,a.dg,a.dw].Nodup
 exf:∀ c∈a.ex,H0 c=none∧c∉a.six∧∃ o,H c=some o
 obj:FoO cf H a lo
 row:∃ kvs,H a.dr=some (.dK kvs)∧kvs.length≤(dn++wt).length∧∀ s,RowV H a.all (j9 kvs (.inr s:Key)) (S.rows s)
 par:∃ kvs,H a.da=some (.dK kvs)∧(∃ po:List Str,kvs.length≤po.length∧po.Nodup∧∀ u∈po,u∈ss∧S.par u≠none)∧∀ s,j9 kvs (.inr s:Key)=(S.par s).map V.str
 bas:∃ kvs,H a.ds=some (.dK kvs)∧kvs.length≤bs.length∧∀ s∈bs,j9 kvs (.inr s:Key)=some (.str (S.bas s))
 rng:∃ xs,H a.dg=some (.lst xs)∧xs.length≤(dn++wt).length
 wai:H a.dw=some (.lst (wt.map V.str))
 evn:(dn++wt).Nodup
 evi:∀ v,v∈dn++wt↔S.rows v≠none
 evs:∀ v∈dn++wt,v∈ss
theorem RowV.mono {H H':Hp} {l:List Addr} {o:Option V} {r:Option (List Str)} (h:RowV H l o r) {m:List Addr} (k:Bx m H H') (hs:∀ c∈m,c∈l):RowV H' l o r:=by
 cases r with
 | none=>exact h
 | some r=>obtain ⟨t,h1,h2,h3⟩:=h;exact ⟨t,h1,k _ _ (fun z=>h3 (hs _ z)) h2,h3⟩
theorem Fo.sub {a:Fo}:∀ c∈a.six,c∈a.all:=fun c h=>List.mem_append_left _ h
theorem Bx.of {l:List Addr} {H H':Hp} (s:L2.Same H H'):Bx l H H':=fun c o _ e=>s c o e
theorem Bx.trans {l:List Addr} {H H' H'':Hp} (a:Bx l H H') (b:Bx l H' H''):Bx l H H'':=fun c o n e=>b c o n (a c o n e)
section
variable {cf cw:Addr} {H0 H H':Hp} {a:Fo} {ss:List Str} {ns:List Nat} {qs:List (Str×Str)} {S S':FS} {bs dn wt:List Str} {lo:V}
theorem FoA.same (h:FoA cf cw H0 H a ss ns qs S bs dn wt lo) (s:L2.Same H H'):FoA cf cw H0 H' a ss ns qs S bs dn wt lo:=by
 obtain ⟨dx,fs,h1,h2⟩:=h.obj
 obtain ⟨k1,r1,r2,r3⟩:=h.row
 obtain ⟨k2,p1,p2⟩:=h.par
 obtain ⟨k3,b1,b2⟩:=h.bas
 obtain ⟨xs,g1,g2⟩:=h.rng
 exact ⟨h.sm.trans s,h.web,h.prt,h.fr,h.nd,fun c hc=>⟨(h.exf c hc).1,(h.exf c hc).2.1,(h.exf c hc).2.2.elim fun o e=>⟨o,s _ _ e⟩⟩,⟨dx,fs,s _ _ h1,h2⟩,⟨k1,s _ _ r1,r2,fun z=>(r3 z).mono (Bx.of (l:=[]) s) (fun c h=>by cases h)⟩,⟨k2,s _ _ p1,p2⟩,⟨k3,s _ _ b1,b2⟩,⟨xs,s _ _ g1,g2⟩,s _ _ h.wai,h.evn,h.evi,h.evs⟩
theorem FoA.six (h:FoA cf cw H0 H a ss ns qs S bs dn wt lo):∀ c∈a.six,∃ o,H c=some o:=fun c hc=>by
 obtain ⟨dx,fs,h1,_⟩:=h.obj
 obtain ⟨k1,r1,_⟩:=h.row
 obtain ⟨k2,p1,_⟩:=h.par
 obtain ⟨k3,b1,_⟩:=h.bas
 obtain ⟨xs,g1,_⟩:=h.rng
 simp only [Fo.six,List.mem_cons,List.not_mem_nil,or_false] at hc
 rcases hc with rfl | rfl | rfl | rfl | rfl | rfl
 ·exact ⟨_,h1⟩
 ·exact ⟨_,r1⟩
 ·exact ⟨_,p1⟩
 ·exact ⟨_,b1⟩
 ·exact ⟨_,g1⟩
 ·exact ⟨_,h.wai⟩
theorem FoA.new (h:FoA cf cw H0 H a ss ns qs S bs dn wt lo) {c:Addr} (e:H c=none):c∉a.six:=fun z=>by
 obtain ⟨o,k⟩:=h.six c z
 rw [e] at k;cases k
theorem FoA.sep (h:FoA cf cw H0 H a ss ns qs S bs dn wt lo):a.six.Nodup:=by
 obtain ⟨dx,fs,h1,_⟩:=h.obj
 obtain ⟨k1,r1,_⟩:=h.row
 obtain ⟨k2,p1,_⟩:=h.par
 obtain ⟨k3,b1,_⟩:=h.bas
 obtain ⟨xs,g1,_⟩:=h.rng
 refine yo.mpr ⟨fun z=>?_,h.nd⟩
 simp only [List.mem_cons,List.not_mem_nil,or_false] at z
 rcases z with z | z | z | z | z
 ·rw [z,r1] at h1;cases h1
 ·rw [z,p1] at h1;cases h1
 ·rw [z,b1] at h1;cases h1
 ·rw [z,g1] at h1;cases h1
 ·rw [z,h.wai] at h1;cases h1
theorem FoO.eq {H H':Hp} (h:FoO cf H a lo) (e:H' a.x=H a.x):FoO cf H' a lo:=by
 obtain ⟨dx,fs,h1,h2⟩:=h
 exact ⟨dx,fs,e.trans h1,h2⟩
theorem Bx.upd {l:List Addr} {H H':Hp} {c:Addr} {o:HO} (k:Bx l H H') (hc:c∈l):Bx l H (upd H' c o):=fun d u n e=>by
 rw [qg (fun z=>n (by rw [z];exact hc))];exact k d u n e
def Fo.add (a:Fo) (c:Addr):Fo:={ a with ex:=c::a.ex }
theorem FoA.add (h:FoA cf cw H0 H a ss ns qs S bs dn wt lo) {c:Addr} {o:HO} (e:H c=none):FoA cf cw H0 (upd H c o) (a.add c) ss ns qs S bs dn wt lo:=by
 have g:=h.same (qO (Sr H) (o:=o) e)
 obtain ⟨k1,r1,r2,r3⟩:=g.row
 obtain ⟨k0,r0,_,r4⟩:=h.row
 have ek:k0=k1:=by
  have:=qO (Sr H) (o:=o) e _ _ r0
  rw [r1] at this
  exact (HO.dK.inj (ym this)).symm
 subst ek
 refine ⟨g.sm,g.web,g.prt,g.fr,g.nd,fun d hd=>?_,g.obj,⟨k0,r1,r2,fun z=>?_⟩,g.par,g.bas,g.rng,g.wai,g.evn,g.evi,g.evs⟩
 ·rcases List.mem_cons.mp hd with rfl | hd
  ·exact ⟨h.sm.free e,h.new e,_,qb⟩
  ·exact g.exf d hd
 ·have g1:=r3 z
  have g2:=r4 z
  cases er:S.rows z with
  | none=>rw [er] at g1;exact g1
  | some r =>
   rw [er] at g1 g2
   obtain ⟨t,k1,k2,k3⟩:=g1
   obtain ⟨t',j1,j2,_⟩:=g2
   rw [k1] at j1
   cases j1
   refine ⟨t,k1,k2,fun y=>?_⟩
   rcases List.mem_append.mp y with y | y
   ·exact k3 (List.mem_append_left _ y)
   ·rcases List.mem_cons.mp y with y | y
    ·rw [y,e] at j2;cases j2
    ·exact k3 (List.mem_append_right _ y)
theorem FoA.updE (h:FoA cf cw H0 H a ss ns qs S bs dn wt lo) {c:Addr} {o:HO} (hc:c∈a.ex):FoA cf cw H0 (upd H c o) a ss ns qs S bs dn wt lo:=by
 obtain ⟨h0,h6,_⟩:=h.exf c hc
 have ne:∀ {d:Addr},d∈a.six→upd H c o d=H d:=fun hd=>qg fun z=>h6 (by rw [← z];exact hd)
 obtain ⟨k1,r1,r2,r3⟩:=h.row
 obtain ⟨k2,p1,p2⟩:=h.par
 obtain ⟨k3,b1,b2⟩:=h.bas
 obtain ⟨xs,g1,g2⟩:=h.rng
 refine ⟨qaH h.sm h0,h.web,h.prt,h.fr,h.nd,fun d hd=>⟨(h.exf d hd).1,(h.exf d hd).2.1,by by_cases z:d=c;exact ⟨_,by rw [z,qb]⟩;rw [qg z];exact (h.exf d hd).2.2⟩,h.obj.eq (ne (by simp [Fo.six])),⟨k1,(ne (by simp [Fo.six])).trans r1,r2,fun z=>(r3 z).mono (m:=[c]) (fun d u n e=>by rw [qg (fun y=>n (by rw [y];simp))];exact e) fun d hd=>by rw [List.mem_singleton.mp hd];exact List.mem_append_right _ hc⟩,⟨k2,(ne (by simp [Fo.six])).trans p1,p2⟩,⟨k3,(ne (by simp [Fo.six])).trans b1,b2⟩,⟨xs,(ne (by simp [Fo.six])).trans g1,g2⟩,(ne (by simp [Fo.six])).trans h.wai,h.evn,h.evi,h.evs⟩
theorem FoA.drop (h:FoA cf cw H0 H a ss ns qs S bs dn wt lo) {l:List Addr} (hs:∀ c∈l,c∈a.ex):FoA cf cw H0 H { a with ex:=l } ss ns qs S bs dn wt lo:=by
 obtain ⟨k1,r1,r2,r3⟩:=h.row
 refine ⟨h.sm,h.web,h.prt,h.fr,h.nd,fun c hc=>h.exf c (hs c hc),h.obj,⟨k1,r1,r2,fun z=>?_⟩,h.par,h.bas,h.rng,h.wai,h.evn,h.evi,h.evs⟩
 have g1:=r3 z
 cases er:S.rows z with
 | none=>rw [er] at g1;exact g1
 | some r =>
  rw [er] at g1
  obtain ⟨t,k1,k2,k3⟩:=g1
  exact ⟨t,k1,k2,fun y=>k3 ((List.mem_append.mp y).elim (fun z=>List.mem_append_left _ z) fun z=>List.mem_append_right _ (hs _ z))⟩
theorem FoA.newA (h:FoA cf cw H0 H a ss ns qs S bs dn wt lo) {c:Addr} (e:H c=none):c∉a.all:=fun z=>by
 rcases List.mem_append.mp z with z | z
 ·exact h.new e z
 ·obtain ⟨o,k⟩:=(h.exf c z).2.2
  rw [e] at k;cases k
theorem FoA.few (h:FoA cf cw H0 H a ss ns qs S bs dn wt lo):(dn++wt).length≤ss.length:=zI h.evn h.evs
end
def FS.setRow (S:FS) (p:Str) (r:List Str):FS:=⟨fun s=>if s=p then some r else S.rows s,S.par,S.bas⟩
inductive spRe (cc:Nat→Addr) (cw:Addr) (vs:List V) (H:Hp) (Q:VK) (E:XK):Prop|mk (H0:Hp) (a:Fo) (ss:List Str) (ns:List Nat) (qs:List (Str×Str)) (S:FS) (bs dn wt:List Str) (lo:V) (p:Str) (t:Addr) (r:List Str) (_:vs=[.ref a.x,.str p,.ref t]) (_:FoA (cc 9) cw H0 H a ss ns qs S bs dn wt lo) (_:ss.length≤14) (_:H t=some (.lst (r.map V.str))) (_:t∉a.all) (_:p∈ss) (_:S.rows p=none) (_:∀ H',FoA (cc 9) cw H0 H' a ss ns qs (S.setRow p r) bs dn (wt++[p]) lo→Bx a.six H H'→(∀ o,H a.dg=some o→H' a.dg=some o)→Q .non H')
inductive spBd (cc:Nat→Addr) (cw:Addr) (vs:List V) (H:Hp) (Q:VK) (E:XK):Prop|mk (H0:Hp) (a:Fo) (ss:List Str) (ns:List Nat) (qs:List (Str×Str)) (S:FS) (dn wt:List Str) (lo:V) (p:Str) (r l:List Str) (A:Str→Str→Prop) (_:vs=[.ref a.x,.str p]) (_:FoA (cc 9) cw H0 H a ss ns qs S ss dn wt lo) (_:ss.length≤14) (_:FI A (pt qs) S) (_:S.rows p=some r) (_:Ch (pt qs) S (S.bas p) l) (_:l.length≤14) (_:∀ (t:Addr) (H':Hp),L2.Same H H'→H t=none→H' t=some (.lst (l.map V.str))→Q (.ref t) H')
section
variable {P:Program} {w:World} {K:W.Frag} {mg:Str→Option Value} {base:Heap} {cc:Nat→Addr} {cw:Addr} {H0 H:Hp} {a:Fo} {ss:List Str} {ns:List Nat} {qs:List (Str×Str)} {S:FS} {bs dn wt:List Str} {lo:V}
theorem FoO.rd {Q:V→Prop} {f:Str} {v:V} (h:FoO (cc 9) H a lo) (T:Txt K mg cc cw) (i:Nat) (e:(a.tab lo)[i]?=some (f,v)) (q:Q v):∃ (c C dx:Addr) (fs:List (Str×V)) (u:V),V.ref a.x=.ref c∧H c=some (.ins C dx fs)∧Cls K C∧NoAttr K C f∧fs.lookup f=some u∧Q u:=by
 obtain ⟨dx,fs,h1,_,_,h4,_⟩:=h
 refine ⟨a.x,cc 9,dx,fs,v,rfl,h1,T.fcl,T.fa f ?_,h4 f v (ye e),q⟩
 have:((a.tab lo).map Prod.fst)[i]?=some f:=by rw [yd,e];rfl
 exact ye (l:=fAtt) (i:=i) this
theorem ok_re (F:Fun K "reach" "Forest.reach" jo f fd) (T:Txt K mg cc cw):FnOk P w K mg base CX0 1 f fd ["self", "place", "row"] (spRe cc cw):=by
 refine F.ok sc_Forest_reach fun _ _ _ _ H vs Q E hr h=>?_
 ·obtain ⟨H0,a,ss,ns,qs,S,bs,dn,wt,lo,p,t,r,rfl,h,h14,ht,htn,hps,hpn,q⟩:=h
  have hu:=j8 hr
  have hfew:=h.few
  have hpe:p∉dn++wt:=fun z=>(h.evi p).mp z hpn
  refine ⟨_,(qc (j7 (pv 2) (zi (qD (K:=K) rfl (pv 0) rfl) (pv 1) (zn hu)))
 (qf (jr (qbu (K:=K) rfl PySem.F.plainAttrs_list PySem.F.slot_list_append PySem.F.type_list_append jz (qD (K:=K) rfl (pv 0) rfl) (qa (pv 1) qe))))),?_⟩
  ext
  obtain ⟨⟨n1,n2,n3,n4,n5⟩,⟨n6,n7,n8,n9⟩,⟨n10,n11,n12⟩,⟨n13,n14⟩,n15⟩:=(by simpa [Fo.six] using h.sep:(¬a.x=a.dr∧¬a.x=a.da∧¬a.x=a.ds∧¬a.x=a.dg∧¬a.x=a.dw)∧(¬a.dr=a.da∧¬a.dr=a.ds∧¬a.dr=a.dg∧¬a.dr=a.dw)∧(¬a.da=a.ds∧¬a.da=a.dg∧¬a.da=a.dw)∧(¬a.ds=a.dg∧¬a.ds=a.dw)∧¬a.dg=a.dw)
  obtain ⟨kr,r1,r2,r3⟩:=h.row
  obtain ⟨ka,p1,p2,p3⟩:=h.par
  obtain ⟨ks,b1,b2,b3⟩:=h.bas
  obtain ⟨xs,g1,g2⟩:=h.rng
  refine .inl (h.obj.rd T 2 rfl ?_)
  ext
  refine .inr ⟨a.dr,_,rfl,DPut.k (k:=Sum.inr p) r1 (by rw [sizeLine_eq];omega),?_⟩
  have o1:FoO (cc 9) (upd H a.dr (.dK (zJ kr (Sum.inr p) (.ref t)))) a lo:=h.obj.eq (qg n1)
  have w1:upd H a.dr (.dK (zJ kr (Sum.inr p) (.ref t))) a.dw=some (.lst (wt.map V.str)):=by rw [qg (Ne.symm n9)];exact h.wai
  ext
  refine .inl (o1.rd T 6 rfl ?_)
  refine ⟨.inl ⟨rfl,_,.of w1⟩,?_⟩
  ext
  refine ⟨a.dw,_,_,rfl,rfl,w1,by rw [ya];exact qh (by rw [List.length_append] at hfew;omega),?_⟩
  have hx:∀ {c:Addr} {o o':HO},c∉a.six→upd (upd H a.dr o) a.dw o' c=H c:=fun hc=>by rw [qg (fun z=>hc (by rw [z];simp [Fo.six])),qg (fun z=>hc (by rw [z];simp [Fo.six]))]
  have bx:Bx a.six H (upd (upd H a.dr (.dK (zJ kr (Sum.inr p) (.ref t)))) a.dw (.lst (wt.map V.str++[.str p]))):=fun c o n e=>by rw [hx n];exact e
  refine q _ ⟨qaH (qaH h.sm (h.fr _ (by simp [Fo.six]))) (h.fr _ (by simp [Fo.six])),h.web,h.prt,h.fr,h.nd,fun c hc=>⟨(h.exf c hc).1,(h.exf c hc).2.1,(h.exf c hc).2.2.elim fun o e=>⟨o,bx _ _ (h.exf c hc).2.1 e⟩⟩,o1.eq (qg n5),⟨_,by rw [qg n9,qb],?_,fun z=>?_⟩,⟨ka,by rw [qg n12,qg (Ne.symm n6)];exact p1,p2,p3⟩,⟨ks,by rw [qg n14,qg (Ne.symm n7)];exact b1,b2,b3⟩,⟨xs,by rw [qg n15,qg (Ne.symm n8)];exact g1,?_⟩,by rw [qb,List.map_append];rfl,?_,fun v=>?_,fun v hv=>?_⟩ bx fun o e=>by (rw [qg n15,qg (Ne.symm n8)];exact e)
  ·have:=jT kr (Sum.inr p:Key) (.ref t)
   rw [← List.append_assoc,List.length_append (bs:=[p])]
   show _≤_ + 1
   omega
  ·unfold FS.setRow
   dsimp only
   rw [qaM]
   by_cases e:z=p
   ·subst e
    rw [if_pos rfl,if_pos rfl]
    exact ⟨t,rfl,bx _ _ (fun y=>htn (Fo.sub _ y)) ht,htn⟩
   ·rw [if_neg (fun y=>e (Sum.inr.inj y)),if_neg e]
    exact (r3 z).mono bx Fo.sub
  ·rw [← List.append_assoc,List.length_append (bs:=[p])];exact Nat.le_succ_of_le g2
  ·rw [← List.append_assoc]
   exact List.nodup_append.mpr ⟨h.evn,List.pairwise_singleton _ _,fun x hx y hy e=>hpe (by rw [← List.mem_singleton.mp hy,← e];exact hx)⟩
  ·rw [← List.append_assoc,List.mem_append,List.mem_singleton,h.evi]
   unfold FS.setRow
   dsimp only
   by_cases e:v=p
   ·subst e;rw [if_pos rfl];exact ⟨(fun _ z=>by cases z),fun _=>.inr rfl⟩
   ·rw [if_neg e];exact ⟨fun z=>z.resolve_right e,.inl⟩
  ·rw [← List.append_assoc] at hv
   rcases List.mem_append.mp hv with z | z
   ·exact h.evs v z
   ·rw [List.mem_singleton.mp z];exact hps
end
theorem sc_Forest_bases_down_from:FnScope ["self", "place", "bases", "below"] ["self", "place"] (qd qF):=fS
theorem atI_last {xs:List Str} {c:Str}:atI ((xs++[c]).map V.str) (-1)=some (.str c):=by
 have e:ixN ((xs++[c]).map V.str).length (-1)=some xs.length:=by
  unfold ixN
  rw [if_neg (by omega),if_pos (by rw [ya,List.length_append];simp;omega)]
  congr 1
  rw [ya,List.length_append]
  simp only [List.length_cons,List.length_nil]
  omega
 unfold atI
 rw [e]
 show ((xs++[c]).map V.str)[xs.length]?=_
 rw [yd,List.getElem?_append_right (yh _),Nat.sub_self]
 rfl
theorem Ch.cases' {f:Str→Option Str} {S:FS} {b:Str} {t:List Str} (h:Ch f S b (b::t)):(f b=none∧t=[])∨∃ q z,f b=some q∧S.par q=some z∧Ch f S (S.bas z) t:=by
 generalize e:b::t=l at h
 cases h with
 | root h=>cases e;exact .inl ⟨h,rfl⟩
 | step h1 h2 h3=>cases e;exact .inr ⟨_,_,h1,h2,h3⟩
theorem in_prK {H:Hp} {d:Addr} {qs:List (Str×Str)} {s:Str} {Q:VK} (hd:H d=some (.dK (prK qs))) (q:Q (.bl (pt qs s).isSome) H):qdQ K false (.str s) (.ref d) H Q:=by
 refine .inr (.inl ⟨d,_,rfl,DGet.k (k:=Sum.inr s) hd,?_⟩)
 rw [jW,if_neg (by decide),Option.isSome_map]
 exact q
theorem qdK {H:Hp} {d:Addr} {kvs:List (Key×V)} {s:Str} {v:V} {Q:VK} (hd:H d=some (.dK kvs)) (e:j9 kvs (.inr s:Key)=some v) (q:Q v H):qe6 K (.ref d) (.str s) H Q:=.inr ⟨d,v,rfl,by rw [← e];exact DGet.k (k:=Sum.inr s) hd,q⟩
theorem ok_bd (F:Fun K "bases_down_from" "Forest.bases_down_from" qF f fd) (T:Txt K mg cc cw):FnOk P w K mg base CX0 1 f fd ["self", "place"] (spBd cc cw):=by
 refine F.ok sc_Forest_bases_down_from fun _ _ _ _ H vs Q E hr h=>?_
 ·obtain ⟨H0,a,ss,ns,qs,S,dn,wt,lo,p,r,l,B,rfl,h,h14,I,hp,hch,hl14,q⟩:=h
  have hu:=j8 hr
  refine ⟨_,(qc (qr (i:=2) sc_Forest_bases_down_from.nd rfl (Or.inl rfl) (je (qa (qx (qy (K:=K) rfl hu) (qD (K:=K) rfl (pv 0) rfl) (pv 1) (fun _ _=>rfl)) qe)))
 (qc (qaL PassesOwn.never (qo (zQ (K:=K) rfl hu) (qx (qy (K:=K) rfl hu) (pv 2) (qbq qas qi) (fun _ _=>rfl)) (qD (K:=K) rfl (pv 0) rfl) (by with_unfolding_all rfl))
 (qc (qr (i:=3) sc_Forest_bases_down_from.nd rfl (Or.inl rfl) (qx (qy (K:=K) rfl hu) (qD (K:=K) rfl (pv 0) rfl) (qx (qy (K:=K) rfl hu) (qD (K:=K) rfl (pv 0) rfl) (qx (qy (K:=K) rfl hu) (pv 2) (qbq qas qi) (fun _ _=>rfl)) (fun _ _=>rfl)) (fun _ _=>rfl)))
 (qf (jr (qbu (K:=K) rfl PySem.F.plainAttrs_list PySem.F.slot_list_append PySem.F.type_list_append jz (pv 2) (qa (qx (qy (K:=K) rfl hu) (qD (K:=K) rfl (pv 0) rfl) (pv 3) (fun _ _=>rfl)) qe))))))
 (qf (qm (pv 2))))),?_⟩
  have evS:∀ {v:Str} {r:List Str},S.rows v=some r→v∈ss:=fun e=>h.evs _ ((h.evi _).mpr (by rw [e];exact fun z=>by cases z))
  obtain ⟨ks,b1,b2,b3⟩:=h.bas
  ext
  refine .inl (h.obj.rd T 4 rfl ?_)
  ext
  refine qdK b1 (b3 p (evS hp)) ?_
  ext
  refine ⟨by show 1≤sizeLine;decide,fun bl hbl=>?_⟩
  have s1:=qO (Sr H) (o:=.lst [.str (S.bas p)]) hbl
  have e1:upd H bl (.lst [.str (S.bas p)]) bl=some (.lst (([]++[S.bas p]).map V.str)):=qb
  generalize upd H bl (.lst [.str (S.bas p)])=H1 at s1 e1
  ext
  obtain ⟨W,hW0⟩:∃ W:Nat→L2.St→Hp→Prop,W=fun m σ J=>∃ (l1 l2:List Str) (c:Str) (y3:Option V),l=l1++c::l2∧σ=[some (.ref a.x),some (.str p),some (.ref bl),y3]∧L2.Same H J∧J bl=some (.lst ((l1++[c]).map V.str))∧m=l2.length:=⟨_,rfl⟩
  obtain ⟨t0,et0⟩:=hch.ne
  refine ⟨W,⟨t0.length,by rw [hW0];exact ⟨[],t0,_,_,et0,rfl,s1,e1,rfl⟩⟩,fun m σ J hW=>?_⟩
  rw [hW0] at hW
  obtain ⟨l1,l2,c,y3,el,rfl,sJ,eJ,hm⟩:=hW
  obtain ⟨rc,_,hrc,hcc,hchc,_⟩:=hch.up I hp rfl el
  have hJ:=h.same sJ
  have hpJ:=hJ.sm _ _ h.prt
  ext
  refine ⟨1,rfl,?_⟩
  refine .inl (qah eJ (v:=.str c) atI_last ?_)
  ext
  refine .inl (hJ.obj.rd T 1 rfl ?_)
  refine in_prK hpJ ?_
  rcases hchc.cases' with ⟨hf,rfl⟩ | ⟨q',z,hf,hpz,hcz⟩
  ·rw [hf]
   refine ⟨_,rfl,qU (fun h=>by cases h) fun _=>?_⟩
   ext
   exact q bl J sJ hbl (by rw [el];exact eJ)
  ·rw [hf]
   refine ⟨_,rfl,zv ⟨fun σ' H'=>∃ m',m' < m∧W m' σ' H',fun σ' H' z=>z,?_⟩⟩
   obtain ⟨_,z',rz,hpz',hrz,_⟩:=I.dwn c rc q' hrc hcc hf
   rw [hpz] at hpz'
   cases hpz'
   obtain ⟨ka,p1,p2,p3⟩:=hJ.par
   obtain ⟨ks',b1',b2',b3'⟩:=hJ.bas
   ext
   refine .inl (hJ.obj.rd T 3 rfl ?_)
   ext
   refine .inl (hJ.obj.rd T 1 rfl ?_)
   ext
   refine ⟨1,rfl,?_⟩
   refine .inl (qah eJ (v:=.str c) atI_last ?_)
   refine qdK hpJ (by rw [jW,hf];rfl) ?_
   refine qdK p1 (by rw [p3,hpz];rfl) ?_
   ext
   refine ⟨.inl ⟨rfl,_,.of eJ⟩,?_⟩
   ext
   refine .inl (hJ.obj.rd T 4 rfl ?_)
   ext
   refine qdK b1' (b3' z (evS hrz)) ?_
   ext
   refine ⟨bl,_,_,rfl,rfl,eJ,by rw [ya];exact qh (by have:=congrArg List.length el;rw [List.length_append,List.length_cons] at this;rw [List.length_append];simp only [List.length_cons,List.length_nil];omega),?_⟩
   obtain ⟨t1,et1⟩:=hcz.ne
   rw [hW0]
   refine ⟨t1.length,by rw [hm,et1];simp,l1++[c],t1,S.bas z,_,by rw [el,et1];simp,rfl,qaH sJ hbl,by rw [qb,List.map_append (l₁:=l1++[c])];rfl,rfl⟩
theorem sc_Forest_reach_round:FnScope ["self", "one", "other", "bases", "side", "base", "place", "row"] ["self", "one", "other", "bases"] (qd qL):=fS
structure RR (f:Str→Option Str) (S S':FS) (v w:Str) (cs:List Str):Prop where
 par:S'.par=S.par
 bas:S'.bas=S.bas
 old:∀ u r,S.rows u=some r→S'.rows u=some r
 new:∀ u r,S'.rows u=some r→S.rows u=some r∨∃ c∈cs,f c=some u∧NewRow S v w u r
 all:∀ c∈cs,∀ q,f c=some q→∃ r,S'.rows q=some r
inductive spRr (cc:Nat→Addr) (cw:Addr) (vs:List V) (H:Hp) (Q:VK) (E:XK):Prop|mk (H0:Hp) (a:Fo) (ss:List Str) (ns:List Nat) (qs:List (Str×Str)) (S:FS) (dn wt:List Str) (lo:V) (v w:Str) (lb:Addr) (cs rv rw:List Str) (_:vs=[.ref a.x,.str v,.str w,.ref lb]) (_:FoA (cc 9) cw H0 H a ss ns qs S ss dn wt lo) (_:ss.length≤14) (_:H lb=some (.lst (cs.map V.str))) (_:lb∉a.six) (_:S.rows v=some rv) (_:S.rows w=some rw) (_:rv.length≤14) (_:rw.length≤14) (_:rv.Nodup) (_:cs.Nodup) (_:cs.length≤14) (_:(qt qs).Nodup) (_:(∀ c∈cs,∃ q rz t,pt qs c=some q∧S.rows q=none∧q∈ss∧rv=rz++q::t)) (_:∀ (t:Addr) (sd more:List Str) (H':Hp) (S':FS),FoA (cc 9) cw H0 H' (a.add t) ss ns qs S' ss dn (wt++more) lo→Bx a.six H H'→H t=none→H' t=some (.lst (sd.map V.str))→(∀ u,u∈sd↔∃ c∈cs,u=c∨pt qs c=some u)→sd.length=2 * cs.length→more.length=cs.length→RR (pt qs) S S' v w cs→(∀ o,H a.dg=some o→H' a.dg=some o)→Q (.ref t) H')
theorem qcw {rz t:List Str} {q:Str} (hn:(rz++q::t).Nodup):(rz++q::t).idxOf q=rz.length:=by
 exact qea hn (by rw [List.getElem?_append_right (yh _),Nat.sub_self];rfl)
theorem qdT {G:Hp} {a b:Addr} {xs ys:List V} {Q:VK} (ea:G a=some (.lst xs)) (eb:G b=some (.lst ys)) (hl:xs.length + ys.length≤1000) (q:∀ p,G p=none→Q (.ref p) (upd G p (.lst (xs++ys)))):qc3 K (.ref a) (.ref b) G Q:=.inl ⟨a,b,_,_,rfl,rfl,ea,eb,yi hl (by decide),q⟩
theorem ok_rr (F:Fun K "reach_round" "Forest.reach_round" qL f fd) (T:Txt K mg cc cw) (D_Forest_reach:MethOk P w K mg base CX0 1 (cc 9) "reach" ["self", "place", "row"] (spRe cc cw)):FnOk P w K mg base CX0 2 f fd ["self", "one", "other", "bases"] (spRr cc cw):=by
 refine F.ok sc_Forest_reach_round fun _ _ _ _ H vs Q E hr h=>?_
 ·obtain ⟨H0,a,ss,ns,qs,S,dn,wt,lo,v,w,lb,cs,rv,rw',rfl,h,h14,hlb,hl6,hv,hw,hvl,hwl,hvn,hcn,hcl,hqn,hcs,q⟩:=h
  have hu:=j8 hr
  refine ⟨_,(qc (qr (i:=4) sc_Forest_reach_round.nd rfl (Or.inl rfl) (je qe))
 (qc (jL PassesOwn.never rfl (qT (K:=K) rfl (pv 3)) (qq (i:=5) sc_Forest_reach_round.nd rfl (Or.inl rfl))
 (qc (qr (i:=6) sc_Forest_reach_round.nd rfl (Or.inl rfl) (qx (qy (K:=K) rfl hu) (qD (K:=K) rfl (pv 0) rfl) (pv 5) (fun _ _=>rfl)))
 (qc (qr (i:=7) sc_Forest_reach_round.nd rfl (Or.inl rfl) (qx (qy (K:=K) rfl hu) (qD (K:=K) rfl (pv 0) rfl) (pv 1) (fun _ _=>rfl)))
 (qc (jr (qH D_Forest_reach (hmR hr) (pv 0) (qa (pv 6) (qa (qP (zC (K:=K) rfl) (qx (qy (K:=K) rfl hu) (qD (K:=K) rfl (pv 0) rfl) (pv 2) (fun _ _=>rfl)) (qd7 (K:=K) rfl (jR (qdp (K:=K) rfl) (pv 7) (jQ (qbu (K:=K) rfl PySem.F.plainAttrs_list PySem.F.slot_list_index PySem.F.type_list_index (qa3 (K:=K) rfl) (pv 7) (qa (pv 6) qe))) zm) (jQ (qbq qas qi)))) qe))))
 (qf (jr (qbu (K:=K) rfl PySem.F.plainAttrs_list PySem.F.slot_list_extend PySem.F.type_list_extend qbl (pv 4) (qa (je (qa (pv 5) (qa (pv 6) qe))) qe))))))))
 (qf (qm (pv 4))))),?_⟩
  ext
  refine ⟨by show 0≤sizeLine;decide,fun sd hsd=>?_⟩
  have s1:=qO (Sr H) (o:=.lst []) hsd
  have h1:=h.add (o:=.lst []) hsd
  have e1:upd H sd (.lst []) sd=some (.lst (([]:List Str).map V.str)):=qb
  have nsl:lb≠sd:=fun z=>by rw [z,hsd] at hlb;cases hlb
  generalize upd H sd (.lst [])=H1 at s1 h1 e1
  ext
  obtain ⟨LI,hLI⟩:∃ LI:Nat→L2.St→Hp→Prop,LI=fun i σ J=>∃ (S':FS) (more sl:List Str) (y5 y6 y7:Option V),σ=[some (.ref a.x),some (.str v),some (.str w),some (.ref lb),some (.ref sd),y5,y6,y7]∧FoA (cc 9) cw H0 J (a.add sd) ss ns qs S' ss dn (wt++more) lo∧Bx a.six H J∧J sd=some (.lst (sl.map V.str))∧(∀ u,u∈sl↔∃ c∈cs.take i,u=c∨pt qs c=some u)∧sl.length=2 * i∧more.length=i∧RR (pt qs) S S' v w (cs.take i)∧∀ o,H a.dg=some o→J a.dg=some o:=⟨_,rfl⟩
  refine .inl ⟨⟨_,.of (s1 _ _ hlb)⟩,jf (xs:=cs.map V.str) LI (by rw [hLI];exact ⟨S,[],[],_,_,_,rfl,by rw [List.append_nil];exact h1,Bx.of s1,e1,fun u=>by simp,rfl,rfl,⟨rfl,rfl,fun _ _ e=>e,fun _ _ e=>.inl e,fun c hc=>by simp at hc⟩,fun o e=>s1 _ _ e⟩) (fun i σ J _ hp=>?_) (fun i y σ J hy hp=>?_) fun σ J hp=>?_⟩
  ·rw [hLI] at hp
   obtain ⟨S',more,sl,y5,y6,y7,rfl,hJ,bx,_⟩:=hp
   exact .of (bx _ _ hl6 hlb)
  ·rw [hLI] at hp
   obtain ⟨S',more,sl,y5,y6,y7,rfl,hJ,bx,eJ,hsl,hsll,hml,hR,hdg⟩:=hp
   rw [yd] at hy
   obtain ⟨c,hc,rfl⟩:=yn.mp hy
   have hcm:=ye hc
   obtain ⟨z,rz,t,hz,hzn,hzs,erv⟩:=hcs c hcm
   have hil:i < cs.length:=(yc.mp hc).1
   have htk:cs.take (i + 1)=cs.take i++[c]:=by rw [List.take_add_one,hc];rfl
   have hpJ:=hJ.sm _ _ h.prt
   obtain ⟨kr,r1,r2,r3⟩:=hJ.row
   have rowOf:∀ {u:Str} {r:List Str},S.rows u=some r→∃ t,j9 kr (.inr u:Key)=some (.ref t)∧J t=some (.lst (r.map V.str)):=fun {u r} e=>by
    have:=r3 u
    rw [hR.old u r e] at this
    obtain ⟨t,k1,k2,_⟩:=this
    exact ⟨t,k1,k2⟩
   obtain ⟨tv,kv,ev⟩:=rowOf hv
   obtain ⟨tw,kw,ew⟩:=rowOf hw
   ext
   refine .inl (hJ.obj.rd T 1 rfl ?_)
   ext
   refine qdK hpJ (by rw [jW,hz];rfl) ?_
   ext
   refine .inl (hJ.obj.rd T 2 rfl ?_)
   ext
   refine qdK r1 kv ?_
   ext
   obtain ⟨dx,fs,hx1,_,_,_,hx2⟩:=id hJ.obj
   refine ⟨a.x,dx,fs,rfl,hx1,hx2 _ (by decide +kernel),?_⟩
   ext
   refine .inl (hJ.obj.rd T 2 rfl ?_)
   ext
   refine qdK r1 kw ?_
   ext
   refine qfK ?_
   ext
   refine ⟨.inl ⟨rfl,_,.of ev⟩,?_⟩
   ext
   refine ⟨tv,rv,z,rfl,rfl,.of ev,by rw [erv];simp,_,rfl,?_⟩
   rw [erv] at hvn
   have eix:rv.idxOf z=rz.length:=by rw [erv];exact qcw hvn
   rw [eix]
   ext
   refine .inl ⟨tv,_,rfl,.of ev,fun c1 hc1=>?_⟩
   have ecut:qcD (rv.map V.str) (some ((rz.length:Nat):Int)) none=(z::t).map V.str:=by rw [qb6,erv,List.map_append,List.drop_left' (by simp)]
   rw [ecut]
   have t1:=qO (Sr J) (o:=.lst ((z::t).map V.str)) hc1
   have ec1:upd J c1 (.lst ((z::t).map V.str)) c1=some (.lst ((z::t).map V.str)):=qb
   generalize upd J c1 (.lst ((z::t).map V.str))=J1 at t1 ec1
   ext
   refine ⟨1,rfl,?_⟩
   refine ⟨_,rfl,rfl,c1,_,rfl,.of ec1,fun c2 hc2=>?_⟩
   have t2:=qO t1 (o:=.lst ((z::t).map V.str).reverse) hc2
   have ec2:upd J1 c2 (.lst ((z::t).map V.str).reverse) c2=some (.lst ((z::t).reverse.map V.str)):=by rw [qb,List.map_reverse]
   generalize upd J1 c2 (.lst ((z::t).map V.str).reverse)=J2 at t2 ec2
   have htl:(z::t).length≤14:=by rw [erv,List.length_append] at hvl;omega
   refine qdT (t2 _ _ ew) ec2 (by rw [ya,ya,List.length_reverse];omega) fun c3 hc3=>?_
   have hJ2:=hJ.same t2
   have n3:=hJ2.newA hc3
   have t3:=qO t2 (o:=.lst (rw'.map V.str++(z::t).reverse.map V.str)) hc3
   have ec3:upd J2 c3 (.lst (rw'.map V.str++(z::t).reverse.map V.str)) c3=some (.lst ((rw'++(z::t).reverse).map V.str)):=by rw [qb,List.map_append]
   generalize upd J2 c3 (.lst (rw'.map V.str++(z::t).reverse.map V.str))=J3 at t3 ec3
   have hcni:c∉cs.take i:=fun y=>by
    obtain ⟨j,hj⟩:=yf y
    have hjl:=(yc.mp hj).1
    rw [List.length_take] at hjl
    rw [List.getElem?_take,if_pos (by omega)] at hj
    have:=qv hcn hj hc
    omega
   have hzn':S'.rows z=none:=by
    cases e:S'.rows z with
    | none=>rfl
    | some r =>
     exfalso
     rcases hR.new z r e with y | ⟨c',hc',y,_⟩
     ·rw [hzn] at y;cases y
     ·have e1:=(qdw hqn).mp y
      rw [(qdw hqn).mp hz] at e1
      rw [← ym e1] at hc'
      exact hcni hc'
   ext
   refine ⟨H0,a.add sd,ss,ns,qs,S',ss,dn,wt++more,lo,z,c3,rw'++(z::t).reverse,rfl,hJ.same t3,h14,ec3,n3,hzs,hzn',fun J4 h4 bx4 hdg4=>?_⟩
   have sd6:sd∉a.six:=h.new hsd
   have eJ4:J4 sd=some (.lst (sl.map V.str)):=bx4 _ _ sd6 (t3 _ _ eJ)
   ext
   refine ⟨.inl ⟨rfl,_,.of eJ4⟩,?_⟩
   ext
   refine ⟨by show 2≤sizeLine;decide,fun c5 hc5=>?_⟩
   have t5:=qO (Sr J4) (o:=.lst [.str c,.str z]) hc5
   have ec5:upd J4 c5 (.lst [.str c,.str z]) c5=some (.lst [.str c,.str z]):=qb
   generalize upd J4 c5 (.lst [.str c,.str z])=J5 at t5 ec5
   have h5:=h4.same t5
   ext
   refine ⟨sd,c5,_,_,rfl,rfl,t5 _ _ eJ4,ec5,by rw [ya,sizeLine_eq];show _ + 2≤_;omega,?_⟩
   have h6:=h5.updE (c:=sd) (o:=.lst (sl.map V.str++[.str c,.str z])) List.mem_cons_self
   rw [hLI]
   refine ⟨S'.setRow z (rw'++(z::t).reverse),more++[z],sl++[c,z],_,_,_,rfl,by rw [← List.append_assoc wt];exact h6,?_,by rw [qb,List.map_append];rfl,fun u=>?_,by rw [List.length_append,hsll];show _ + 2=_;omega,by rw [List.length_append,hml];rfl,⟨hR.par,hR.bas,fun u r e=>?_,fun u r e=>?_,fun c' hc' q' e=>?_⟩,fun o e=>?_⟩
   ·exact fun d o n e=>by
     have ne:d≠sd:=fun y=>by rw [y,hsd] at e;cases e
     rw [qg ne]
     exact t5 _ _ (bx4 _ _ n (t3 _ _ (bx _ _ n e)))
   ·rw [htk,List.mem_append,hsl]
    simp only [List.mem_append,List.mem_cons,List.not_mem_nil,or_false]
    constructor
    ·rintro (⟨c',h1,h2⟩ | rfl | rfl)
     ·exact ⟨c',.inl h1,h2⟩
     ·exact ⟨u,.inr rfl,.inl rfl⟩
     ·exact ⟨c,.inr rfl,.inr hz⟩
    ·rintro ⟨c',h1 | rfl,h2⟩
     ·exact .inl ⟨c',h1,h2⟩
     ·rcases h2 with h2 | h2
      ·exact .inr (.inl h2)
      ·rw [hz] at h2;exact .inr (.inr (ym h2).symm)
   ·show (if u=z then _ else S'.rows u)=_
    rw [if_neg (fun y=>by rw [y,hzn] at e;cases e)]
    exact hR.old u r e
   ·have e':(if u=z then some (rw'++(z::t).reverse) else S'.rows u)=some r:=e
    by_cases y:u=z
    ·subst y
     rw [if_pos rfl] at e'
     exact .inr ⟨c,by rw [htk];simp,hz,rv,rw',rz,t,hv,hw,erv,(ym e').symm⟩
    ·rw [if_neg y] at e'
     rcases hR.new u r e' with x | ⟨c',h1,h2⟩
     ·exact .inl x
     ·exact .inr ⟨c',by rw [htk];exact List.mem_append_left _ h1,h2⟩
   ·show ∃ r,(if q'=z then some (rw'++(z::t).reverse) else S'.rows q')=some r
    by_cases y:q'=z
    ·rw [if_pos y];exact ⟨_,rfl⟩
    ·rw [if_neg y]
     rw [htk] at hc'
     rcases List.mem_append.mp hc' with x | x
     ·exact hR.all c' x q' e
     ·rw [List.mem_singleton.mp x,hz] at e
      exact absurd (ym e).symm y
   ·have ne:a.dg≠sd:=fun y=>sd6 (by rw [← y];simp [Fo.six])
    rw [qg ne]
    exact t5 _ _ (hdg4 o (t3 _ _ (hdg o e)))
  ·rw [hLI] at hp
   obtain ⟨S',more,sl,y5,y6,y7,rfl,hJ,bx,eJ,hsl,hsll,hml,hR,hdg⟩:=hp
   rw [ya] at hsll hml
   rw [ya,List.take_length] at hsl hR
   ext
   exact q sd sl more J S' hJ bx hsd eJ hsl hsll hml hR hdg
theorem sc_Forest_fold:FnScope ["self", "ring", "meeting", "within", "place"] ["self", "ring", "meeting"] (qd jl):=fS
def FS.setBas (S:FS) (l:List Str) (m:Str):FS:=⟨S.rows,S.par,fun u=>if u∈l then m else S.bas u⟩
def wnL (S:FS) (ss rg:List Str) (m:Str):List Str:=ss.filter fun u=>decide (S.bas u∈rg++[m])
inductive spFd (cc:Nat→Addr) (cw:Addr) (vs:List V) (H:Hp) (Q:VK) (E:XK):Prop|mk (H0:Hp) (a:Fo) (ss:List Str) (ns:List Nat) (qs:List (Str×Str)) (S:FS) (dn wt:List Str) (lo:V) (lr:Addr) (rg:List Str) (m:Str) (xs:List V) (_:vs=[.ref a.x,.ref lr,.str m]) (_:FoA (cc 9) cw H0 H a ss ns qs S ss dn wt lo) (_:ss.length≤14) (_:H lr=some (.lst (rg.map V.str))) (_:lr∉a.six) (_:rg.length≤100) (_:H a.dg=some (.lst xs)) (_:xs.length < (dn++wt).length) (_:∀ H',FoA (cc 9) cw H0 H' a ss ns qs (S.setBas (wnL S ss rg m) m) ss dn wt lo→Bx a.six H H'→Q .non H')
theorem put_len {kvs:List (Key×V)} {k:Key} {v u:V} (h:j9 kvs k=some u):(zJ kvs k v).length=kvs.length:=by
 unfold zJ
 rw [zV,h]
 exact ya _
theorem qdy {H:Hp} {n:Addr} {ss:List Str} {z:Str} {Q:VK} (hn:H n=some (.lst (ss.map V.str))) (q:Q (.bl (decide (z∈ss))) H):qdQ K false (.str z) (.ref n) H Q:=
 .inl ⟨n,_,rfl,.inl (.of hn),rfl,List.all_eq_true.mpr fun x hx=>by (obtain ⟨s,_,rfl⟩:=List.mem_map.mp hx;rfl),by rw [if_neg (by decide),qcv];exact q⟩
theorem FoA.setB {H0 H:Hp} {a:Fo} {ss:List Str} {ns:List Nat} {qs:List (Str×Str)} {S:FS} {dn wt:List Str} {lo:V} {ks:List (Key×V)} {l:List Str} {z m:Str} (h:FoA (cc 9) cw H0 H a ss ns qs (S.setBas l m) ss dn wt lo) (hk:H a.ds=some (.dK ks)) (hz:z∈ss):FoA (cc 9) cw H0 (upd H a.ds (.dK (zJ ks (Sum.inr z) (.str m)))) a ss ns qs (S.setBas (l++[z]) m) ss dn wt lo∧ks.length≤ss.length:=by
 obtain ⟨kr,r1,r2,r3⟩:=h.row
 obtain ⟨ka,p1,p2,p3⟩:=h.par
 obtain ⟨k,b1,b2,b3⟩:=h.bas
 obtain ⟨xs,g1,g2⟩:=h.rng
 rw [hk] at b1
 cases b1
 obtain ⟨⟨n1,n2,n3,n4,n5⟩,⟨n6,n7,n8,n9⟩,⟨n10,n11,n12⟩,⟨n13,n14⟩,n15⟩:=(by simpa [Fo.six] using h.sep:(¬a.x=a.dr∧¬a.x=a.da∧¬a.x=a.ds∧¬a.x=a.dg∧¬a.x=a.dw)∧(¬a.dr=a.da∧¬a.dr=a.ds∧¬a.dr=a.dg∧¬a.dr=a.dw)∧(¬a.da=a.ds∧¬a.da=a.dg∧¬a.da=a.dw)∧(¬a.ds=a.dg∧¬a.ds=a.dw)∧¬a.dg=a.dw)
 have bx:Bx a.six H (upd H a.ds (.dK (zJ ks (Sum.inr z) (.str m)))):=fun c o n e=>by rw [qg (fun y=>n (by rw [y];simp [Fo.six]))];exact e
 refine ⟨⟨qaH h.sm (h.fr _ (by simp [Fo.six])),h.web,h.prt,h.fr,h.nd,fun c hc=>⟨(h.exf c hc).1,(h.exf c hc).2.1,(h.exf c hc).2.2.elim fun o e=>⟨o,bx _ _ (h.exf c hc).2.1 e⟩⟩,h.obj.eq (qg n3),⟨kr,by rw [qg n7];exact r1,r2,fun y=>(r3 y).mono bx Fo.sub⟩,⟨ka,by rw [qg n10];exact p1,p2,p3⟩,⟨_,qb,by rw [put_len (b3 z hz)];exact b2,fun u hu=>?_⟩,⟨xs,by rw [qg (Ne.symm n13)];exact g1,g2⟩,by rw [qg (Ne.symm n14)];exact h.wai,h.evn,h.evi,h.evs⟩,b2⟩
 rw [qaM,b3 u hu]
 show (if _ then _ else _)=some (V.str (if u∈l++[z] then m else S.bas u))
 have e0:(S.setBas l m).bas u=if u∈l then m else S.bas u:=rfl
 rw [e0]
 by_cases e:u=z
 ·subst e;rw [if_pos rfl,if_pos (by simp)]
 ·rw [if_neg (fun x=>e (Sum.inr.inj x))]
  by_cases y:u∈l
  ·rw [if_pos y,if_pos (List.mem_append_left _ y)]
  ·rw [if_neg y,if_neg (fun x=>(List.mem_append.mp x).elim y fun x=>e (List.mem_singleton.mp x))]
theorem FoA.updG {H0 H:Hp} {a:Fo} {ss:List Str} {ns:List Nat} {qs:List (Str×Str)} {S:FS} {bs dn wt:List Str} {lo:V} {xs:List V} (h:FoA (cc 9) cw H0 H a ss ns qs S bs dn wt lo) (hx:xs.length≤(dn++wt).length):FoA (cc 9) cw H0 (upd H a.dg (.lst xs)) a ss ns qs S bs dn wt lo:=by
 obtain ⟨kr,r1,r2,r3⟩:=h.row
 obtain ⟨ka,p1,p2,p3⟩:=h.par
 obtain ⟨k,b1,b2,b3⟩:=h.bas
 obtain ⟨⟨n1,n2,n3,n4,n5⟩,⟨n6,n7,n8,n9⟩,⟨n10,n11,n12⟩,⟨n13,n14⟩,n15⟩:=(by simpa [Fo.six] using h.sep:(¬a.x=a.dr∧¬a.x=a.da∧¬a.x=a.ds∧¬a.x=a.dg∧¬a.x=a.dw)∧(¬a.dr=a.da∧¬a.dr=a.ds∧¬a.dr=a.dg∧¬a.dr=a.dw)∧(¬a.da=a.ds∧¬a.da=a.dg∧¬a.da=a.dw)∧(¬a.ds=a.dg∧¬a.ds=a.dw)∧¬a.dg=a.dw)
 have bx:Bx a.six H (upd H a.dg (.lst xs)):=(Bx.of (Sr H)).upd (by simp [Fo.six])
 exact ⟨qaH h.sm (h.fr _ (by simp [Fo.six])),h.web,h.prt,h.fr,h.nd,fun c hc=>⟨(h.exf c hc).1,(h.exf c hc).2.1,(h.exf c hc).2.2.elim fun o e=>⟨o,bx _ _ (h.exf c hc).2.1 e⟩⟩,h.obj.eq (qg n4),⟨kr,by rw [qg n8];exact r1,r2,fun y=>(r3 y).mono bx Fo.sub⟩,⟨ka,by rw [qg n11];exact p1,p2,p3⟩,⟨k,by rw [qg n13];exact b1,b2,b3⟩,⟨xs,qb,hx⟩,by rw [qg (Ne.symm n15)];exact h.wai,h.evn,h.evi,h.evs⟩
theorem ok_fdF (F:Fun K "fold" "Forest.fold" jl f fd) (T:Txt K mg cc cw) (D_Web_places:MethOk P w K mg base CX0 1 cw "places" ["self"] (spPls cw)):FnOk P w K mg base CX0 2 f fd ["self", "ring", "meeting"] (spFd cc cw):=by
 refine F.ok sc_Forest_fold fun _ _ _ _ H vs Q E hr h=>?_
 ·obtain ⟨H0,a,ss,ns,qs,S,dn,wt,lo,lr,rg,m,xs,rfl,h,h14,hlr,hl6,hrl,hdg,hxl,q⟩:=h
  have hu:=j8 hr
  refine ⟨_,(qc (qam (sc:=qd jl) (XN:=["self", "ring", "meeting", "within", "place"]) ["place", "ring", "self", "meeting"] 1 [1,0,2] rfl rfl rfl (by decide +kernel) rfl (by decide +kernel) (i:=3) sc_Forest_fold.nd rfl rfl
  (qT (K:=K) rfl (jm D_Web_places (hmR hr) (qD (K:=K) rfl (pv 0) rfl))) (fun _ _ _ _=>(qq (i:=0) (show (["place", "ring", "self", "meeting"]:List Str).Nodup by decide +kernel) rfl (Or.inl rfl))) qY
  (fun _ _ _ _=>(jy (qo (zQ (K:=K) rfl hu) (qx (qy (K:=K) rfl hu) (qD (K:=K) rfl (pv 2) rfl) (pv 0) (fun _ _=>rfl)) (qP (zC (K:=K) rfl) (pv 1) (je (qa (pv 3) qe))) (by with_unfolding_all rfl))))
  (fun _ _ _ _=>(pv 0)))
 (qc (jL PassesOwn.never rfl (qT (K:=K) rfl (pv 3)) (qq (i:=4) sc_Forest_fold.nd rfl (Or.inl rfl))
 (qf (j7 (pv 2) (zi (qD (K:=K) rfl (pv 0) rfl) (pv 4) (zn hu)))))
 (qf (jr (qbu (K:=K) rfl PySem.F.plainAttrs_list PySem.F.slot_list_append PySem.F.type_list_append jz (qD (K:=K) rfl (pv 0) rfl) (qa (pv 3) qe)))))),?_⟩
  have hfew:=h.few
  have hWb:=h.web.same h.sm
  obtain ⟨wx,dd,ol,nn,hb,_⟩:=id hWb
  ext
  refine .inl (h.obj.rd T 0 rfl ?_)
  refine ⟨a.b,wx,_,rfl,hb,zq (by decide +kernel),?_⟩
  ext
  refine ⟨a.b,ss,ns,rfl,hWb,fun pl hpl=>?_⟩
  have s1:=qO (Sr H) (o:=.lst (ss.map V.str)) hpl
  have e1:upd H pl (.lst (ss.map V.str)) pl=some (.lst (ss.map V.str)):=qb
  generalize upd H pl (.lst (ss.map V.str))=H1 at s1 e1
  refine .inl ⟨⟨_,.of e1⟩,qJ (xs:=ss.map V.str) (fun i ys J=>L2.Same H1 J∧ys=((ss.take i).filter fun u=>decide (S.bas u∈rg++[m])).map V.str) ⟨L2.Same.refl H1,rfl⟩ (fun i ys J _ hp=>.of (hp.1 _ _ e1)) (fun i y ys J hy hp=>?_) fun ys J hp=>?_⟩
  ·obtain ⟨sJ,rfl⟩:=hp
   rw [yd] at hy
   obtain ⟨z,hz,rfl⟩:=yn.mp hy
   have s0J:=s1.trans sJ
   have hJ:=h.same s0J
   obtain ⟨ks,b1,b2,b3⟩:=hJ.bas
   have hil:=(yc.mp hz).1
   have estep:(ss.take (i + 1)).filter (fun u=>decide (S.bas u∈rg++[m]))=(ss.take i).filter (fun u=>decide (S.bas u∈rg++[m]))++(if S.bas z∈rg++[m] then [z] else []):=by
    rw [List.take_add_one,hz,List.filter_append]
    show _++[z].filter _=_
    rw [List.filter_cons]
    simp only [decide_eq_true_eq,List.filter_nil]
   ext
   refine .inl (hJ.obj.rd T 4 rfl ?_)
   ext
   refine qdK b1 (b3 z (ye hz)) ?_
   ext
   refine ⟨by show 1≤sizeLine;decide,fun c1 hc1=>?_⟩
   have t1:=qO (Sr J) (o:=.lst [.str m]) hc1
   have ec1:upd J c1 (.lst [.str m]) c1=some (.lst [.str m]):=qb
   generalize upd J c1 (.lst [.str m])=J1 at t1 ec1
   refine qdT ((s0J.trans t1) _ _ hlr) ec1 (by rw [ya];show _ + 1≤_;omega) fun c2 hc2=>?_
   have t2:=qO t1 (o:=.lst (rg.map V.str++[.str m])) hc2
   have ec2:upd J1 c2 (.lst (rg.map V.str++[.str m])) c2=some (.lst ((rg++[m]).map V.str)):=by rw [qb,List.map_append];rfl
   generalize upd J1 c2 (.lst (rg.map V.str++[.str m]))=J2 at t2 ec2
   refine qdy ec2 ⟨_,rfl,?_⟩
   rw [estep]
   by_cases hin:S.bas z∈rg++[m]
   ·rw [decide_eq_true hin,if_pos hin]
    refine zv ?_
    ext
    have hfl:=List.length_filter_le (fun u=>decide (S.bas u∈rg++[m])) (ss.take i)
    rw [List.length_take] at hfl
    refine ⟨by rw [ya];exact qh (by omega),sJ.trans t2,by rw [List.map_append];rfl⟩
   ·rw [yl hin,if_neg hin,List.append_nil]
    refine yq ?_
    exact ⟨sJ.trans t2,rfl⟩
  ·obtain ⟨sJ,rfl⟩:=hp
   rw [show (ss.map V.str).length=ss.length from ya _,List.take_length]
   have s0J:=s1.trans sJ
   have hwl:(ss.filter fun u=>decide (S.bas u∈rg++[m])).length≤ss.length:=List.length_filter_le _ _
   refine ⟨by rw [ya];exact Nat.le_of_lt (qh (by omega)),fun wn hwn=>?_⟩
   have s2:=qO s0J (o:=.lst ((wnL S ss rg m).map V.str)) hwn
   have ew:upd J wn (.lst ((wnL S ss rg m).map V.str)) wn=some (.lst ((wnL S ss rg m).map V.str)):=qb
   have hwl2:(wnL S ss rg m).length≤ss.length:=hwl
   have hwm:∀ u∈wnL S ss rg m,u∈ss:=fun u hu=>(yp.mp hu).1
   show qfa _ _ _ _ (upd J wn (.lst ((wnL S ss rg m).map V.str)))
   generalize wnL S ss rg m=wl at *
   have hwn6:=(h.same s0J).new hwn
   generalize upd J wn (.lst (wl.map V.str))=H2 at s2 ew
   have h2:=h.same s2
   ext
   refine .inl ⟨⟨_,.of ew⟩,jf (xs:=wl.map V.str) (fun i σ J=>Bx a.six H2 J∧(∀ o,H2 a.dg=some o→J a.dg=some o)∧FoA (cc 9) cw H0 J a ss ns qs (S.setBas (wl.take i) m) ss dn wt lo∧∃ y4,σ=[some (.ref a.x),some (.ref lr),some (.str m),some (.ref wn),y4]) ⟨fun c o _ e=>e,fun _ e=>e,?_,_,rfl⟩ (fun i σ J _ hp=>.of (hp.1 _ _ hwn6 ew)) (fun i y σ J hy hp=>?_) fun σ J hp=>?_⟩
   ·have:S.setBas ([]:List Str) m=S:=by unfold FS.setBas;simp
    rw [List.take_zero,this]
    exact h2
   ·obtain ⟨bx,hg,hJ,y4,rfl⟩:=hp
    rw [yd] at hy
    obtain ⟨z,hz,rfl⟩:=yn.mp hy
    obtain ⟨ks,b1,b2,b3⟩:=hJ.bas
    have htk:wl.take (i + 1)=wl.take i++[z]:=by rw [List.take_add_one,hz];rfl
    obtain ⟨h3,hkl⟩:=hJ.setB b1 (hwm z (ye hz))
    ext
    refine .inl (hJ.obj.rd T 4 rfl ?_)
    ext
    refine .inr ⟨a.ds,_,rfl,DPut.k (k:=Sum.inr z) b1 (by rw [sizeLine_eq];omega),?_⟩
    have nsg:a.dg≠a.ds:=fun e=>by have:=h.nd;rw [e] at this;simp at this
    exact ⟨fun c o n e=>by rw [qg (fun y=>n (by rw [y];simp [Fo.six]))];exact bx c o n e,fun o e=>by rw [qg nsg];exact hg o e,by rw [htk];exact h3,_,rfl⟩
   ·obtain ⟨bx,hg,hJ,y4,rfl⟩:=hp
    rw [ya,List.take_length] at hJ
    have edg:=hg _ (s2 _ _ hdg)
    ext
    refine .inl (hJ.obj.rd T 5 rfl ?_)
    refine ⟨.inl ⟨rfl,_,.of edg⟩,?_⟩
    ext
    refine ⟨a.dg,_,_,rfl,rfl,edg,qh (by omega),?_⟩
    exact q _ (hJ.updG (by rw [List.length_append];simp only [List.length_cons,List.length_nil];omega)) ((Bx.of s2).trans bx |>.upd (by simp [Fo.six]))
theorem sc_Forest_bring_together:FnScope ["self", "one", "other", "ones", "others", "meeting", "ring"] ["self", "one", "other"] (qd qA):=fS
structure Mono (S S':FS):Prop where
 ba:∀ u v,S.bas u=S.bas v→S'.bas u=S'.bas v
 pa:∀ u,S.par u≠none→S'.par u≠none
 ro:∀ u r,S.rows u=some r→S'.rows u=some r
theorem Mono.refl (S:FS):Mono S S:=⟨fun _ _ e=>e,fun _ e=>e,fun _ _ e=>e⟩
theorem Mono.trans {S S' S'':FS} (a:Mono S S') (b:Mono S' S''):Mono S S'':=⟨fun u v e=>b.ba u v (a.ba u v e),fun u e=>b.pa u (a.pa u e),fun u r e=>b.ro u r (a.ro u r e)⟩
structure Wb (A:Str→Str→Prop) (ss:List Str) (qs:List (Str×Str)):Prop where
 gr:Gr A (pt qs)
 inn:∀ a b,A a b→a∈ss
 qn:(qt qs).Nodup
 few:ss.length≤14
 nd:ss.Nodup
theorem Alt.inn {A:Str→Str→Prop} {ss:List Str} {qs:List (Str×Str)} (W:Wb A ss qs) {r:List Str} {v:Str} (h:Alt A (pt qs) r v) (hv:v∈ss):r.length≤14∧∀ u∈r,u∈ss:=by
 have hin:∀ u∈r,u∈ss:=fun u hu=>by
  obtain ⟨j,hj⟩:=yf hu
  obtain ⟨r0,e⟩:=h.tl
  by_cases hl:j + 1 < r.length
  ·obtain ⟨b,hb⟩:∃ b,r[j + 1]?=some b:=⟨_,yb hl⟩
   exact W.inn _ _ (h.st j u b hj hb).1
  ·have hj2:=(yc.mp hj).1
   have:j=r0.length:=by rw [e,List.length_append] at hj2 hl;simp at hj2 hl;omega
   rw [e,this,List.getElem?_append_right (yh _),Nat.sub_self] at hj
   rw [← ym hj]
   exact hv
 exact ⟨yi (zI h.nd hin) W.few,hin⟩
theorem qcV (l':List Str):∀ {l:List Str},(∃ d∈l,d∈l')→∃ l1 m l2,l=l1++m::l2∧m∈l'∧(∀ d∈l1,d∉l')∧∃ t,l.filter (fun d=>decide (d∈l'))=m::t
 | [],⟨_,h,_⟩=>by cases h
 | x::r,h=>by
  by_cases hx:x∈l'
  ·exact ⟨[],x,r,rfl,hx,(fun _ h=>by cases h),_,by rw [List.filter_cons,if_pos (decide_eq_true hx)]⟩
  ·obtain ⟨d,hd,hd'⟩:=h
   obtain ⟨l1,m,l2,e1,e2,e3,t,e4⟩:=qcV l' (l:=r) ⟨d,(List.mem_cons.mp hd).resolve_left (fun z=>hx (by rw [← z];exact hd')),hd'⟩
   refine ⟨x::l1,m,l2,by rw [e1];rfl,e2,fun y hy=>?_,t,by rw [List.filter_cons,if_neg (by simpa using hx)];exact e4⟩
   rcases List.mem_cons.mp hy with rfl | hy
   ·exact hx
   ·exact e3 y hy
inductive spBt (cc:Nat→Addr) (cw:Addr) (vs:List V) (H:Hp) (Q:VK) (E:XK):Prop|mk (H0:Hp) (a:Fo) (ss:List Str) (ns:List Nat) (qs:List (Str×Str)) (S:FS) (dn wt:List Str) (v w:Str) (rv rw:List Str) (A:Str→Str→Prop) (_:vs=[.ref a.x,.str v,.str w]) (_:FoA (cc 9) cw H0 H a ss ns qs S ss dn wt .non) (_:Wb A ss qs) (_:FI A (pt qs) S) (_:S.rows v=some rv) (_:S.rows w=some rw) (_:A v w) (_:(∀ (H':Hp) (S':FS) (more:List Str),FoA (cc 9) cw H0 H' a ss ns qs S' ss dn (wt++more) .non→Bx a.six H H'→FI A (pt qs) S'→S'.bas v=S'.bas w→Mono S S'→Q .non H')) (_:∀ (H':Hp) (t:Addr) (r:List Str),FoA (cc 9) cw H0 H' a ss ns qs S ss dn wt (.ref t)→Bx a.six H H'→H' t=some (.lst (r.map V.str))→t∉a.all→Aug A (pt qs) r→r.length≤28→Q .non H')
theorem qed {H:Hp} {c d:Str} {Q:VK} (q:Q (.bl (!decide (c=d))) H):qep K true (.str c) (.str d) H Q:=by
 refine .inl ⟨rfl,rfl,?_⟩
 rw [if_pos rfl]
 have e:eqV (.str c) (.str d)=decide (c=d):=by
  by_cases h:c=d
  ·subst h;simp [eqV]
  ·simp [eqV,h]
 rw [e]
 exact q
theorem FoA.setL {H0 H:Hp} {a:Fo} {ss:List Str} {ns:List Nat} {qs:List (Str×Str)} {S:FS} {bs dn wt:List Str} {dx:Addr} {fs:List (Str×V)} {v:V} (h:FoA (cc 9) cw H0 H a ss ns qs S bs dn wt .non) (hx:H a.x=some (.ins (cc 9) dx fs)) (hv:v≠.non):fs.length < 1000∧FoA (cc 9) cw H0 (upd H a.x (.ins (cc 9) dx (qI "longer" v fs))) a ss ns qs S bs dn wt v:=by
 obtain ⟨dx',fs',x1,x2,x3,x4,x5⟩:=h.obj
 rw [hx] at x1
 cases x1
 have hl:=x3 rfl
 obtain ⟨kr,r1,r2,r3⟩:=h.row
 obtain ⟨ka,p1,p2,p3⟩:=h.par
 obtain ⟨k,b1,b2,b3⟩:=h.bas
 obtain ⟨xs,g1,g2⟩:=h.rng
 have hs:=h.sep
 have nx:∀ {c:Addr},c∈[a.dr,a.da,a.ds,a.dg,a.dw]→c≠a.x:=fun hc e=>(yo.mp hs).1 (by rw [← e];exact hc)
 have bx:Bx a.six H (upd H a.x (.ins (cc 9) dx (qI "longer" v fs))):=(Bx.of (Sr H)).upd (by simp [Fo.six])
 refine ⟨by omega,qaH h.sm (h.fr _ (by simp [Fo.six])),h.web,h.prt,h.fr,h.nd,fun c hc=>⟨(h.exf c hc).1,(h.exf c hc).2.1,(h.exf c hc).2.2.elim fun o e=>⟨o,bx _ _ (h.exf c hc).2.1 e⟩⟩,⟨dx,_,qb,yi (jH _ _ _) (by omega),fun e=>absurd e hv,fun f u hf=>?_,fun f hf=>?_⟩,⟨kr,by rw [qg (nx (by simp))];exact r1,r2,fun y=>(r3 y).mono bx Fo.sub⟩,⟨ka,by rw [qg (nx (by simp))];exact p1,p2,p3⟩,⟨k,by rw [qg (nx (by simp))];exact b1,b2,b3⟩,⟨xs,by rw [qg (nx (by simp))];exact g1,g2⟩,by rw [qg (nx (by simp))];exact h.wai,h.evn,h.evi,h.evs⟩
 ·rw [qG]
  by_cases e:f="longer"
  ·rw [if_pos e]
   subst e
   have:(Str.ofString "longer",u)∈a.tab v:=hf
   simp only [Fo.tab,List.mem_cons,Prod.mk.injEq,List.not_mem_nil,or_false] at this
   rcases this with ⟨z,_⟩ | ⟨z,_⟩ | ⟨z,_⟩ | ⟨z,_⟩ | ⟨z,_⟩ | ⟨z,_⟩ | ⟨z,_⟩ | ⟨_,z⟩<;>first | exact absurd z (by decide +kernel) | exact congrArg some z.symm
  ·rw [if_neg e]
   refine x4 f u ?_
   have:(f,u)∈a.tab v:=hf
   simp only [Fo.tab,List.mem_cons,Prod.mk.injEq,List.not_mem_nil,or_false] at this ⊢
   rcases this with z | z | z | z | z | z | z | ⟨z,_⟩
   all_goals first | exact absurd z e | simp [z]
 ·rw [qG,if_neg (fun e=>hf (by rw [e];decide +kernel))]
  exact x5 f hf
theorem FoA.rowAt {H0 H:Hp} {a:Fo} {ss:List Str} {ns:List Nat} {qs:List (Str×Str)} {S:FS} {bs dn wt:List Str} {lo:V} (h:FoA (cc 9) cw H0 H a ss ns qs S bs dn wt lo) {u:Str} {r:List Str} (e:S.rows u=some r) {Q:VK} (q:∀ t,H t=some (.lst (r.map V.str))→Q (.ref t) H):qe6 K (.ref a.dr) (.str u) H Q:=by
 obtain ⟨kr,r1,_,r3⟩:=h.row
 have:=r3 u
 rw [e] at this
 obtain ⟨t,k1,k2,_⟩:=this
 exact qdK r1 k1 (q t k2)
theorem ok_bt (F:Fun K "bring_together" "Forest.bring_together" qA f fd) (T:Txt K mg cc cw) (D_Forest_bases_down_from:MethOk P w K mg base CX0 1 (cc 9) "bases_down_from" ["self", "place"] (spBd cc cw)) (D_Forest_reach_round:MethOk P w K mg base CX0 2 (cc 9) "reach_round" ["self", "one", "other", "bases"] (spRr cc cw)) (D_Forest_fold:MethOk P w K mg base CX0 2 (cc 9) "fold" ["self", "ring", "meeting"] (spFd cc cw)):FnOk P w K mg base CX0 3 f fd ["self", "one", "other"] (spBt cc cw):=by
 refine F.ok sc_Forest_bring_together fun _ _ _ _ H vs Q E hr h=>?_
 ·obtain ⟨H0,a,ss,ns,qs,S,dn,wt,v,w,rv,rw',B,rfl,h,hWb,I,hv,hw,hvw,q1,q2⟩:=h
  have hu:=j8 hr
  have evS:∀ {v:Str} {r:List Str},S.rows v=some r→v∈ss:=fun e=>h.evs _ ((h.evi _).mpr (by rw [e];exact fun z=>by cases z))
  obtain ⟨l,hl⟩:=I.chainOf hv
  obtain ⟨l',hl'⟩:=I.chainOf hw
  have hln:=hl.nd I hv rfl
  have hln':=hl'.nd I hw rfl
  have hl14:l.length≤14:=yi (zI hln fun c hc=>(hl.bs0 I hv hc).elim fun r z=>evS z.1) hWb.few
  have hl14':l'.length≤14:=yi (zI hln' fun c hc=>(hl'.bs0 I hw hc).elim fun r z=>evS z.1) hWb.few
  obtain ⟨rl14,rvs⟩:=(I.alt v rv hv).inn hWb (evS hv)
  obtain ⟨rl14',rws⟩:=(I.alt w rw' hw).inn hWb (evS hw)
  obtain ⟨lx,c,elc⟩:∃ lx c,l=lx++[c]:=by obtain ⟨t,e⟩:=hl.ne;exact ⟨_,_,(List.dropLast_concat_getLast (by rw [e];exact List.cons_ne_nil _ _)).symm⟩
  obtain ⟨ly,d,eld⟩:∃ ly d,l'=ly++[d]:=by obtain ⟨t,e⟩:=hl'.ne;exact ⟨_,_,(List.dropLast_concat_getLast (by rw [e];exact List.cons_ne_nil _ _)).symm⟩
  refine ⟨_,(qc (qr (i:=3) sc_Forest_bring_together.nd rfl (Or.inl rfl) (qH D_Forest_bases_down_from (hmR hr) (pv 0) (qa (pv 1) qe)))
 (qc (qr (i:=4) sc_Forest_bring_together.nd rfl (Or.inr rfl) (qH D_Forest_bases_down_from (hmR hr) (pv 0) (qa (pv 2) qe)))
 (qf (qV (qo (qan (K:=K) rfl hu) (qx (qy (K:=K) rfl hu) (pv 3) (qbq qas qi) (fun _ _=>rfl)) (qx (qy (K:=K) rfl hu) (pv 4) (qbq qas qi) (fun _ _=>rfl)) (qB _)) (qf (j6 (K:=K) rfl (pv 0) (qP (zC (K:=K) rfl) (qx (qy (K:=K) rfl hu) (qD (K:=K) rfl (pv 0) rfl) (pv 1) (fun _ _=>rfl)) (qd7 (K:=K) rfl (qx (qy (K:=K) rfl hu) (qD (K:=K) rfl (pv 0) rfl) (pv 2) (fun _ _=>rfl)) (jQ (qbq qas qi)))) rfl)) (qf (qV (qo (qan (K:=K) rfl hu) (qx (qy (K:=K) rfl hu) (pv 3) qi (fun _ _=>rfl)) (qx (qy (K:=K) rfl hu) (pv 4) qi (fun _ _=>rfl)) (qB _)) (qc (qr (i:=5) sc_Forest_bring_together.nd rfl (Or.inl rfl) (qx (qy (K:=K) rfl hu) (ju (sc:=qd qA) (XN:=["self", "one", "other", "ones", "others", "meeting", "ring"]) ["base", "others"] 1 [4] rfl rfl rfl (by decide +kernel) rfl (by decide +kernel)
  (qT (K:=K) rfl (pv 3)) (fun _ _ _ _=>(qq (i:=0) (show (["base", "others"]:List Str).Nodup by decide +kernel) rfl (Or.inl rfl))) qY
  (fun _ _ _ _=>(jy (qo (zQ (K:=K) rfl hu) (pv 0) (pv 1) (by with_unfolding_all rfl))))
  (fun _ _ _ _=>(pv 0))) qi (fun _ _=>rfl)))
 (qc (qr (i:=6) sc_Forest_bring_together.nd rfl (Or.inl rfl) (qH D_Forest_reach_round (hmR hr) (pv 0) (qa (pv 1) (qa (pv 2) (qa (jR (qdp (K:=K) rfl) (pv 3) zm (jQ (qbu (K:=K) rfl PySem.F.plainAttrs_list PySem.F.slot_list_index PySem.F.type_list_index (qa3 (K:=K) rfl) (pv 3) (qa (pv 5) qe)))) qe)))))
 (qc (jr (qbu (K:=K) rfl PySem.F.plainAttrs_list PySem.F.slot_list_extend PySem.F.type_list_extend qbl (pv 6) (qa (qH D_Forest_reach_round (hmR hr) (pv 0) (qa (pv 2) (qa (pv 1) (qa (jR (qdp (K:=K) rfl) (pv 4) zm (jQ (qbu (K:=K) rfl PySem.F.plainAttrs_list PySem.F.slot_list_index PySem.F.type_list_index (qa3 (K:=K) rfl) (pv 4) (qa (pv 5) qe)))) qe)))) qe)))
 (qf (jr (qH D_Forest_fold (hmR hr) (pv 0) (qa (pv 6) (qa (pv 5) qe)))))))) qu)))))),?_⟩
  ext
  obtain ⟨dx,fs,hx1,_,_,_,hx2⟩:=id h.obj
  refine ⟨a.x,dx,fs,rfl,hx1,hx2 _ (by decide +kernel),?_⟩
  ext
  refine ⟨H0,a,ss,ns,qs,S,dn,wt,.non,v,rv,l,B,rfl,h,hWb.few,I,hv,hl,hl14,fun o1 H1 s1 ho1 eo1=>?_⟩
  ext
  refine ⟨a.x,dx,fs,rfl,s1 _ _ hx1,hx2 _ (by decide +kernel),?_⟩
  ext
  refine ⟨H0,a,ss,ns,qs,S,dn,wt,.non,w,rw',l',B,rfl,h.same s1,hWb.few,I,hw,hl',hl14',fun o2 H2 s2 ho2 eo2=>?_⟩
  have s02:=s1.trans s2
  have h2:=h.same s02
  have eo12:=s2 _ _ eo1
  have no1:=h.newA ho1
  have no2:=(h.same s1).newA ho2
  ext
  refine ⟨1,rfl,?_⟩
  refine .inl (qah eo12 (v:=.str c) (by rw [elc];exact atI_last) ?_)
  ext
  refine ⟨1,rfl,?_⟩
  refine .inl (qah eo2 (v:=.str d) (by rw [eld];exact atI_last) ?_)
  refine qed ⟨_,rfl,?_⟩
  by_cases hcd:c=d
  ·rw [decide_eq_true hcd]
   refine yq ?_
   obtain ⟨t0,et0⟩:=hl.ne
   obtain ⟨t0',et0'⟩:=hl'.ne
   ext
   refine .inl (qah eo12 (v:=.str (S.bas v)) (qz (j:=0) (by rw [et0];rfl)) ?_)
   ext
   refine .inl (qah eo2 (v:=.str (S.bas w)) (qz (j:=0) (by rw [et0'];rfl)) ?_)
   refine qed ⟨_,rfl,?_⟩
   by_cases hbb:S.bas v=S.bas w
   ·rw [decide_eq_true hbb]
    refine yq ?_
    exact q1 H2 S [] (by rw [List.append_nil];exact h2) (Bx.of s02) I hbb (Mono.refl S)
   ·rw [yl hbb]
    refine zv ?_
    obtain ⟨l1,m,l2,el,hml',hd1,tf,etf⟩:=qcV l' (l:=l) ⟨c,by rw [elc];simp,by rw [eld,hcd];simp⟩
    obtain ⟨m1,m2,em⟩:=List.append_of_mem hml'
    obtain ⟨e22,hd2⟩:=hl.meet I hv hw hl' el em hd1
    rw [e22] at em
    have hm1n:m∉m1:=fun z=>by rw [em] at hln';exact (List.nodup_append.mp hln').2.2 m z m (by simp) rfl
    have hl1n:m∉l1:=fun z=>hd1 m z hml'
    ext
    refine .inl ⟨⟨_,.of eo12⟩,qJ (xs:=l.map V.str) (fun i ys J=>J=H2∧ys=((l.take i).filter fun d=>decide (d∈l')).map V.str) ⟨rfl,rfl⟩ (fun i ys J _ hp=>by rw [hp.1];exact .of eo12) (fun i y ys J hy hp=>?_) fun ys J hp=>?_⟩
    ·obtain ⟨rfl,rfl⟩:=hp
     rw [yd] at hy
     obtain ⟨z,hz,rfl⟩:=yn.mp hy
     have estep:(l.take (i + 1)).filter (fun d=>decide (d∈l'))=(l.take i).filter (fun d=>decide (d∈l'))++(if z∈l' then [z] else []):=by
      rw [List.take_add_one,hz,List.filter_append]
      show _++[z].filter _=_
      rw [List.filter_cons]
      simp only [decide_eq_true_eq,List.filter_nil]
     have hil:=(yc.mp hz).1
     have hfl:=List.length_filter_le (fun d=>decide (d∈l')) (l.take i)
     rw [List.length_take] at hfl
     ext
     refine qdy eo2 ⟨_,rfl,?_⟩
     rw [estep]
     by_cases hin:z∈l'
     ·rw [decide_eq_true hin,if_pos hin]
      refine zv ?_
      ext
      exact ⟨by rw [ya];exact qh (by omega),rfl,by rw [List.map_append];rfl⟩
     ·rw [yl hin,if_neg hin,List.append_nil]
      refine yq ?_
      exact ⟨rfl,rfl⟩
    ·obtain ⟨rfl,rfl⟩:=hp
     rw [show (l.map V.str).length=l.length from ya _,List.take_length,etf]
     have htf:=List.length_filter_le (fun d=>decide (d∈l')) l
     rw [etf] at htf
     refine ⟨by rw [ya];exact Nat.le_of_lt (qh (by omega)),fun cl hcl=>?_⟩
     have s3:=qO s02 (o:=.lst ((m::tf).map V.str)) hcl
     have s23:=qO (Sr J) (o:=.lst ((m::tf).map V.str)) hcl
     have ecl:upd J cl (.lst ((m::tf).map V.str)) cl=some (.lst ((m::tf).map V.str)):=qb
     generalize upd J cl (.lst ((m::tf).map V.str))=H3 at s3 s23 ecl
     ext
     refine .inl (qah ecl (v:=.str m) (qz (j:=0) rfl) ?_)
     have h3:=h.same s3
     have eo13:=s23 _ _ eo12
     have eo23:=s23 _ _ eo2
     ext
     refine ⟨a.x,dx,fs,rfl,s3 _ _ hx1,hx2 _ (by decide +kernel),?_⟩
     ext
     refine ⟨.inl ⟨rfl,_,.of eo13⟩,?_⟩
     ext
     refine ⟨o1,l,m,rfl,rfl,.of eo13,by rw [el];simp,_,rfl,?_⟩
     rw [show l.idxOf m=l1.length by rw [el] at hln ⊢;exact qcw hln]
     ext
     refine .inl ⟨o1,_,rfl,.of eo13,fun c1 hc1=>?_⟩
     have ecut:qcD (l.map V.str) none (some ((l1.length:Nat):Int))=l1.map V.str:=by rw [qb5,el,List.map_append,List.take_left' (by simp)]
     rw [ecut]
     have s4:=qO s3 (o:=.lst (l1.map V.str)) hc1
     have s34:=qO (Sr H3) (o:=.lst (l1.map V.str)) hc1
     have ec1:upd H3 c1 (.lst (l1.map V.str)) c1=some (.lst (l1.map V.str)):=qb
     have n1:=h3.new hc1
     generalize upd H3 c1 (.lst (l1.map V.str))=H4 at s4 s34 ec1
     have h4:=h.same s4
     have side:∀ {x y:Str} {rx k k1:List Str},S.rows x=some rx→(∀ u∈rx,u∈ss)→Ch (pt qs) S (S.bas x) k→k=k1++m::l2→∀ c∈k1,∃ q rz t,pt qs c=some q∧S.rows q=none∧q∈ss∧rx=rz++q::t:=fun {x y rx k k1} hx hs hk ek c hc=>by
      obtain ⟨a',b',ea⟩:=List.append_of_mem hc
      have ek2:k=a'++c::(b'++m::l2):=by rw [ek,ea];simp
      obtain ⟨_,_,_,_,g3,_⟩:=hk.up I hx rfl ek2
      rcases g3.cases' with ⟨_,z⟩ | ⟨q,_,hq,_⟩
      ·simp at z
      ·obtain ⟨rz,t,k1,_,k3,_⟩:=hk.suf I hx ek2 hq
       exact ⟨q,rz,_,hq,k3,hs q (by rw [k1];simp),k1⟩
     ext
     refine ⟨H0,a,ss,ns,qs,S,dn,wt,.non,v,w,c1,l1,rv,rw',rfl,h4,hWb.few,ec1,n1,hv,hw,rl14,rl14',(I.alt v rv hv).nd,?_,?_,hWb.qn,side (y:=v) hv rvs hl el,fun t1 sd1 mo1 H5 S1 h5 bx5 ht1 et1 hsd1 hsl1 hml1 R1 hg1=>?_⟩
     ·rw [el] at hln;exact (List.nodup_append.mp hln).1
     ·rw [el,List.length_append] at hl14;omega
     have no16:o1∉a.six:=fun z=>no1 (Fo.sub _ z)
     have no26:o2∉a.six:=fun z=>no2 (Fo.sub _ z)
     have eo25:=bx5 _ _ no26 (s34 _ _ eo23)
     ext
     refine ⟨.inl ⟨rfl,_,.of et1⟩,?_⟩
     ext
     obtain ⟨dx5,fs5,hx15,_,_,_,hx25⟩:=id h5.obj
     refine ⟨a.x,dx5,fs5,rfl,hx15,hx25 _ (by decide +kernel),?_⟩
     ext
     refine ⟨.inl ⟨rfl,_,.of eo25⟩,?_⟩
     ext
     refine ⟨o2,l',m,rfl,rfl,.of eo25,hml',_,rfl,?_⟩
     rw [show l'.idxOf m=m1.length by rw [em] at hln' ⊢;exact qcw hln']
     ext
     refine .inl ⟨o2,_,rfl,.of eo25,fun c2 hc2=>?_⟩
     have ecut2:qcD (l'.map V.str) none (some ((m1.length:Nat):Int))=m1.map V.str:=by rw [qb5,em,List.map_append,List.take_left' (by simp)]
     rw [ecut2]
     have s6:=qO (Sr H5) (o:=.lst (m1.map V.str)) hc2
     have ec2:upd H5 c2 (.lst (m1.map V.str)) c2=some (.lst (m1.map V.str)):=qb
     have n2:=h5.new hc2
     generalize upd H5 c2 (.lst (m1.map V.str))=H6 at s6 ec2
     have h6:=h5.same s6
     have no1':∀ c∈m1,∀ q,pt qs c=some q→S.rows q=none→S1.rows q=none:=fun c hc q hq hn=>by
      cases e:S1.rows q with
      | none=>rfl
      | some r =>
       exfalso
       rcases R1.new q r e with z | ⟨c',hc',z,_⟩
       ·rw [hn] at z;cases z
       ·have e1:=hWb.gr.fs z
        rw [hWb.gr.fs hq] at e1
        rw [← ym e1] at hc'
        exact hd1 c hc' (by rw [em];exact List.mem_append_left _ hc)
     ext
     refine ⟨H0,a.add t1,ss,ns,qs,S1,dn,wt++mo1,.non,w,v,c2,m1,rw',rv,rfl,h6,hWb.few,ec2,n2,R1.old _ _ hw,R1.old _ _ hv,rl14',rl14,(I.alt w rw' hw).nd,?_,?_,hWb.qn,fun c hc=>?_,fun t2 sd2 mo2 H7 S2 h7 bx7 ht2 et2 hsd2 hsl2 hml2 R2 hg2=>?_⟩
     ·rw [em] at hln';exact (List.nodup_append.mp hln').1
     ·rw [em,List.length_append] at hl14';omega
     ·obtain ⟨q,rz,t,k1,k2,k3,k4⟩:=side (y:=v) hw rws hl' em c hc
      exact ⟨q,rz,t,k1,no1' c hc q k1 k2,k3,k4⟩
     have t16:t1∉a.six:=h4.new ht1
     have et17:H7 t1=some (.lst (sd1.map V.str)):=bx7 _ _ t16 (s6 _ _ et1)
     ext
     refine ⟨t1,t2,_,_,rfl,rfl,et17,et2,by rw [ya,ya,sizeLine_eq];rw [el,List.length_append] at hl14;rw [em,List.length_append] at hl14';omega,?_⟩
     have h8:=h7.updE (c:=t1) (o:=.lst (sd1.map V.str++sd2.map V.str)) (by simp [Fo.add])
     obtain ⟨xs,hdg,hxl⟩:=h.rng
     have hdg7:=hg2 _ (s6 _ _ (hg1 _ (s4 _ _ hdg)))
     have ndg:a.dg≠t1:=fun z=>t16 (by rw [← z];simp [Fo.six])
     have et8:upd H7 t1 (.lst (sd1.map V.str++sd2.map V.str)) t1=some (.lst ((sd1++sd2).map V.str)):=by rw [qb,List.map_append]
     have hdg8:upd H7 t1 (.lst (sd1.map V.str++sd2.map V.str)) a.dg=some (.lst xs):=by rw [qg ndg];exact hdg7
     have bx8:Bx a.six H (upd H7 t1 (.lst (sd1.map V.str++sd2.map V.str))):=fun e o n k=>by
      have ne:e≠t1:=fun z=>by rw [z,s4.free ht1] at k;cases k
      rw [qg ne]
      exact bx7 _ _ n (s6 _ _ (bx5 _ _ n (s4 _ _ k)))
     generalize upd H7 t1 (.lst (sd1.map V.str++sd2.map V.str))=H8 at h8 et8 hdg8 bx8
     have hpos:0 < mo1.length + mo2.length:=by
      rw [hml1,hml2]
      rcases l1 with _ | ⟨x,r⟩
      ·rcases m1 with _ | ⟨x,r⟩
       ·rw [el] at et0;rw [em] at et0'
        exact absurd ((List.cons.inj et0).1.symm.trans (List.cons.inj et0').1) hbb
       ·simp
      ·simp;omega
     ext
     obtain ⟨dx8,fs8,hx18,_,_,_,hx28⟩:=id h8.obj
     refine ⟨a.x,dx8,fs8,rfl,hx18,hx28 _ (by decide +kernel),?_⟩
     ext
     refine ⟨H0,(a.add t1).add t2,ss,ns,qs,S2,dn,wt++mo1++mo2,.non,t1,sd1++sd2,m,xs,rfl,h8,hWb.few,et8,t16,?_,hdg8,?_,fun H9 h9 bx9=>?_⟩
     ·rw [List.length_append,hsl1,hsl2];rw [el,List.length_append] at hl14;rw [em,List.length_append] at hl14';omega
     ·rw [← List.append_assoc,← List.append_assoc,List.length_append,List.length_append (as:=dn++wt)];omega
     have hrg:∀ u,u∈sd1++sd2++[m]↔InR (pt qs) m (l1++m1) u:=fun u=>by
      rw [List.mem_append,List.mem_append,hsd1,hsd2,List.mem_singleton]
      unfold InR
      constructor
      ·rintro ((⟨c,hc,z⟩ | ⟨c,hc,z⟩) | z)
       ·exact .inr ⟨c,List.mem_append_left _ hc,z⟩
       ·exact .inr ⟨c,List.mem_append_right _ hc,z⟩
       ·exact .inl z
      ·rintro (z | ⟨c,hc,z⟩)
       ·exact .inr z
       ·rcases List.mem_append.mp hc with y | y
        ·exact .inl (.inl ⟨c,y,z⟩)
        ·exact .inl (.inr ⟨c,y,z⟩)
     have hb2:S2.bas=S.bas:=by rw [R2.bas,R1.bas]
     have hinS:∀ u,InR (pt qs) m (l1++m1) (S.bas u)→u∈ss:=fun u hu=>by
      cases e:S.rows u with
      | some r=>exact evS e
      | none =>
       rw [I.own e] at hu
       rcases hu with z | ⟨c,hc,z⟩
       ·obtain ⟨r,k,_⟩:=hl.bs0 I hv (c:=m) (by rw [el];simp)
        rw [z];exact evS k
       ·have hcs:∃ r,S.rows c=some r:=by
         rcases List.mem_append.mp hc with y | y
         ·exact (hl.bs0 I hv (by rw [el];exact List.mem_append_left _ y)).elim fun r k=>⟨r,k.1⟩
         ·exact (hl'.bs0 I hw (by rw [em];exact List.mem_append_left _ y)).elim fun r k=>⟨r,k.1⟩
        obtain ⟨r,k⟩:=hcs
        rcases z with z | z
        ·rw [z];exact evS k
        ·exact hWb.inn _ _ (hWb.gr.as (hWb.gr.fa z))
     have hM:Mg (pt qs) S (S2.setBas (wnL S2 ss (sd1++sd2) m) m) v w m l1 m1:=by
      have hwn:∀ u,u∈wnL S2 ss (sd1++sd2) m↔u∈ss∧InR (pt qs) m (l1++m1) (S.bas u):=fun u=>by
       unfold wnL
       rw [yp,decide_eq_true_iff,hrg,hb2]
      have nr:∀ {u:Str} {r:List Str},NewRow S1 w v u r→NewRow S w v u r:=fun ⟨a1,a2,a3,a4,k1,k2,k3⟩=>by
       rw [R1.old _ _ hw] at k1
       rw [R1.old _ _ hv] at k2
       cases k1
       cases k2
       exact ⟨_,_,a3,a4,hw,hv,k3⟩
      refine ⟨by show S2.par=S.par;rw [R2.par,R1.par],fun u r e=>R2.old _ _ (R1.old _ _ e),fun u r e=>?_,fun c hc q hq=>?_,fun u hu=>?_,fun u hu=>?_⟩
      ·rcases R2.new u r e with z | ⟨c,hc,k1,k2⟩
       ·rcases R1.new u r z with z | z
        ·exact .inl z
        ·exact .inr (.inl z)
       ·exact .inr (.inr ⟨c,hc,k1,nr k2⟩)
      ·rcases List.mem_append.mp hc with y | y
       ·obtain ⟨r,k⟩:=R1.all c y q hq
        exact ⟨r,R2.old _ _ k⟩
       ·exact R2.all c y q hq
      ·show (if u∈wnL S2 ss (sd1++sd2) m then m else S2.bas u)=m
       rw [if_pos ((hwn u).mpr ⟨hinS u hu,hu⟩)]
      ·show (if u∈wnL S2 ss (sd1++sd2) m then m else S2.bas u)=S.bas u
       rw [if_neg (fun z=>hu ((hwn u).mp z).2),hb2]
     have hI:=I.merge hWb.gr hv hw (el ▸ hl) (em ▸ hl') (em ▸ hd1) (el ▸ hd2) hvw hbb hM
     have hbv:InR (pt qs) m (l1++m1) (S.bas v):=by
      rcases l1 with _ | ⟨x,r⟩
      ·rw [el] at et0;cases et0;exact .inl rfl
      ·rw [el] at et0;cases et0;exact .inr ⟨_,by simp,.inl rfl⟩
     have hbw:InR (pt qs) m (l1++m1) (S.bas w):=by
      rcases m1 with _ | ⟨x,r⟩
      ·rw [em] at et0';cases et0';exact .inl rfl
      ·rw [em] at et0';cases et0';exact .inr ⟨_,by simp,.inl rfl⟩
     refine q1 H9 _ (mo1++mo2) ?_ (bx8.trans bx9) hI ((hM.inn v hbv).trans (hM.inn w hbw).symm) ⟨fun u z e=>?_,fun u e=>by rw [hM.par];exact e,hM.old⟩
     ·rw [← List.append_assoc]
      exact h9.drop (l:=a.ex) fun c hc=>by simp [Fo.add,hc]
     ·by_cases hin:InR (pt qs) m (l1++m1) (S.bas u)
      ·rw [hM.inn u hin,hM.inn z (by rw [← e];exact hin)]
      ·rw [hM.out u hin,hM.out z (by rw [← e];exact hin),e]
  ·rw [yl hcd]
   refine zv ?_
   ext
   refine .inl (h2.obj.rd T 2 rfl ?_)
   ext
   refine h2.rowAt hv fun tv etv=>?_
   ext
   refine qfK ?_
   ext
   refine .inl (h2.obj.rd T 2 rfl ?_)
   ext
   refine h2.rowAt hw fun tw etw=>?_
   ext
   refine ⟨1,rfl,?_⟩
   refine ⟨_,rfl,rfl,tw,_,rfl,.of etw,fun c1 hc1=>?_⟩
   have t1:=qO s02 (o:=.lst (rw'.map V.str).reverse) hc1
   have t21:=qO (Sr H2) (o:=.lst (rw'.map V.str).reverse) hc1
   have ec1:upd H2 c1 (.lst (rw'.map V.str).reverse) c1=some (.lst (rw'.reverse.map V.str)):=by rw [qb,List.map_reverse]
   generalize upd H2 c1 (.lst (rw'.map V.str).reverse)=H3 at t1 t21 ec1
   refine qdT (t21 _ _ etv) ec1 (by rw [ya,ya,List.length_reverse];omega) fun c2 hc2=>?_
   have n2:=(h.same t1).newA hc2
   have t2:=qO t1 (o:=.lst (rv.map V.str++rw'.reverse.map V.str)) hc2
   have ec2:upd H3 c2 (.lst (rv.map V.str++rw'.reverse.map V.str)) c2=some (.lst ((rv++rw'.reverse).map V.str)):=by rw [qb,List.map_append]
   generalize upd H3 c2 (.lst (rv.map V.str++rw'.reverse.map V.str))=H4 at t2 ec2
   obtain ⟨k1,k2⟩:=(h.same t2).setL (v:=.ref c2) (t2 _ _ hx1) (fun e=>by cases e)
   ext
   refine .inl ⟨a.x,cc 9,dx,fs,rfl,t2 _ _ hx1,T.fcl,T.fa _ (by decide +kernel),k1,?_⟩
   have n2x:c2≠a.x:=fun z=>n2 (Fo.sub _ (by rw [z];simp [Fo.six]))
   exact q2 _ c2 _ k2 ((Bx.of t2).upd (by simp [Fo.six])) (by rw [qg n2x];exact ec2) n2 (I.aug hWb.gr hv hw hl hl' (by rw [elc,eld];simpa using hcd) hvw) (by rw [List.length_append,List.length_reverse];omega)
theorem sc_Forest_look_around:FnScope ["self", "place", "other", "partner"] ["self", "place"] (qd qM):=fS
def FS.setPar (S:FS) (u p:Str):FS:=⟨S.rows,fun s=>if s=u then some p else S.par s,S.bas⟩
inductive spLa (cc:Nat→Addr) (cw:Addr) (vs:List V) (H:Hp) (Q:VK) (E:XK):Prop|mk (H0:Hp) (a:Fo) (ss:List Str) (ns:List Nat) (qs:List (Str×Str)) (S:FS) (dn wt:List Str) (v:Str) (A:Str→Str→Prop) (_:vs=[.ref a.x,.str v]) (_:FoA (cc 9) cw H0 H a ss ns qs S ss (dn++[v]) wt .non) (_:Wb A ss qs) (_:(∀ s∈ss,zF s=true)) (_:(∀ (j:Nat) z u,ss[j]?=some z→(u∈inB ss 0 (ns.getD j 0)↔A z u))) (_:(∀ z∈ss,pt qs z=none→S.rows z≠none)) (_:FI A (pt qs) S) (_:CI A S (fun u=>u∈dn)) (_:(∀ (H':Hp) (S':FS) (more:List Str),FoA (cc 9) cw H0 H' a ss ns qs S' ss (dn++[v]) (wt++more) .non→Bx a.six H H'→FI A (pt qs) S'→CI A S' (fun u=>u∈dn++[v])→Mono S S'→Q .non H')) (_:∀ (H':Hp) (S':FS) (more:List Str) (t:Addr) (r:List Str),FoA (cc 9) cw H0 H' a ss ns qs S' ss (dn++[v]) (wt++more) (.ref t)→Bx a.six H H'→H' t=some (.lst (r.map V.str))→t∉a.all→Aug A (pt qs) r→r.length≤28→Q .non H')
theorem CI.on {A:Str→Str→Prop} {S S':FS} {Pd:Str→Prop} (h:CI A S Pd) (m:Mono S S'):CI A S' Pd:=h.mono m.ba m.pa fun u hu=>by
 cases e:S.rows u with
 | none=>exact absurd e hu
 | some r=>rw [m.ro u r e];exact fun z=>by cases z
theorem FoA.setP {H0 H:Hp} {a:Fo} {ss:List Str} {ns:List Nat} {qs:List (Str×Str)} {S:FS} {bs dn wt:List Str} {lo:V} {ka:List (Key×V)} {u p:Str} (h:FoA (cc 9) cw H0 H a ss ns qs S bs dn wt lo) (hk:H a.da=some (.dK ka)) (hus:u∈ss) (hun:S.par u=none):FoA (cc 9) cw H0 (upd H a.da (.dK (zJ ka (Sum.inr u) (.str p)))) a ss ns qs (S.setPar u p) bs dn wt lo∧ka.length≤ss.length:=by
 obtain ⟨kr,r1,r2,r3⟩:=h.row
 obtain ⟨k',p1,p2,p3⟩:=h.par
 obtain ⟨k,b1,b2,b3⟩:=h.bas
 obtain ⟨xs,g1,g2⟩:=h.rng
 rw [hk] at p1
 cases p1
 obtain ⟨⟨n1,n2,n3,n4,n5⟩,⟨n6,n7,n8,n9⟩,⟨n10,n11,n12⟩,⟨n13,n14⟩,n15⟩:=(by simpa [Fo.six] using h.sep:(¬a.x=a.dr∧¬a.x=a.da∧¬a.x=a.ds∧¬a.x=a.dg∧¬a.x=a.dw)∧(¬a.dr=a.da∧¬a.dr=a.ds∧¬a.dr=a.dg∧¬a.dr=a.dw)∧(¬a.da=a.ds∧¬a.da=a.dg∧¬a.da=a.dw)∧(¬a.ds=a.dg∧¬a.ds=a.dw)∧¬a.dg=a.dw)
 have bx:Bx a.six H (upd H a.da (.dK (zJ ka (Sum.inr u) (.str p)))):=(Bx.of (Sr H)).upd (by simp [Fo.six])
 obtain ⟨po,o1,o2,o3⟩:=p2
 refine ⟨⟨qaH h.sm (h.fr _ (by simp [Fo.six])),h.web,h.prt,h.fr,h.nd,fun c hc=>⟨(h.exf c hc).1,(h.exf c hc).2.1,(h.exf c hc).2.2.elim fun o e=>⟨o,bx _ _ (h.exf c hc).2.1 e⟩⟩,h.obj.eq (qg n2),⟨kr,by rw [qg n6];exact r1,r2,fun y=>(r3 y).mono bx Fo.sub⟩,⟨_,qb,⟨po++[u],by have:=jT ka (Sum.inr u:Key) (.str p);rw [List.length_append];show _≤_ + 1;omega,List.nodup_append.mpr ⟨o2,List.pairwise_singleton _ _,fun x hx y hy e=>(o3 u (by rw [← List.mem_singleton.mp hy,← e];exact hx)).2 hun⟩,fun x hx=>?_⟩,fun s=>?_⟩,⟨k,by rw [qg (Ne.symm n10)];exact b1,b2,b3⟩,⟨xs,by rw [qg (Ne.symm n11)];exact g1,g2⟩,by rw [qg (Ne.symm n12)];exact h.wai,h.evn,h.evi,h.evs⟩,yi o1 (zI o2 fun x hx=>(o3 x hx).1)⟩
 ·show x∈ss∧(if x=u then some p else S.par x)≠none
  by_cases e:x=u
  ·rw [if_pos e,e];exact ⟨hus,fun z=>by cases z⟩
  ·rw [if_neg e]
   exact o3 x ((List.mem_append.mp hx).resolve_right fun z=>e (List.mem_singleton.mp z))
 ·rw [qaM,p3]
  show _=(if s=u then some p else S.par s).map V.str
  by_cases e:s=u
  ·subst e;rw [if_pos rfl,if_pos rfl];rfl
  ·rw [if_neg (fun x=>e (Sum.inr.inj x)),if_neg e]
theorem ok_la (F:Fun K "look_around" "Forest.look_around" qM f fd) (T:Txt K mg cc cw) (D_Web_beside:MethOk P w K mg base CX0 6 cw "beside" ["self", "place"] (spBs cw)) (D_Forest_bring_together:MethOk P w K mg base CX0 3 (cc 9) "bring_together" ["self", "one", "other"] (spBt cc cw)) (D_Forest_reach:MethOk P w K mg base CX0 1 (cc 9) "reach" ["self", "place", "row"] (spRe cc cw)):FnOk P w K mg base CX0 7 f fd ["self", "place"] (spLa cc cw):=by
 refine F.ok sc_Forest_look_around fun _ _ _ s H vs Q E hr h=>?_
 ·obtain ⟨H0,a,ss,ns,qs,S,dn,wt,v,B,rfl,h,hWb,hnm,hbs,hsg,I,hC,q1,q2⟩:=h
  have hu:=j8 hr
  refine ⟨_,(qf (jL PassesOwn.never rfl (qT (K:=K) rfl (qH D_Web_beside (hmR hr) (qD (K:=K) rfl (pv 0) rfl) (qa (pv 1) qe))) (qq (i:=2) sc_Forest_look_around.nd rfl (Or.inl rfl))
 (qc (qV (qo (zQ (K:=K) rfl hu) (pv 2) (qD (K:=K) rfl (pv 0) rfl) (by with_unfolding_all rfl)) (qf (jr (qH D_Forest_bring_together (hmR hr) (pv 0) (qa (pv 1) (qa (pv 2) qe))))) (qf (qV (qo (qax (K:=K) rfl hu) (pv 2) (qD (K:=K) rfl (pv 0) rfl) (by with_unfolding_all rfl)) (qc (qr (i:=3) sc_Forest_look_around.nd rfl (Or.inl rfl) (qx (qy (K:=K) rfl hu) (qD (K:=K) rfl (pv 0) rfl) (pv 2) (fun _ _=>rfl)))
 (qc (j7 (pv 1) (zi (qD (K:=K) rfl (pv 0) rfl) (pv 2) (zn hu)))
 (qf (jr (qH D_Forest_reach (hmR hr) (pv 0) (qa (pv 3) (qa (qP (zC (K:=K) rfl) (qx (qy (K:=K) rfl hu) (qD (K:=K) rfl (pv 0) rfl) (pv 1) (fun _ _=>rfl)) (je (qa (pv 2) (qa (pv 3) qe)))) qe))))))) qu)))
 (qf (qV (qo qcj (qD (K:=K) rfl (pv 0) rfl) zD (qB _)) (qf ps_retN) qu))))),?_⟩
  have hvs:v∈ss:=h.evs v (by simp)
  obtain ⟨rv,hrv⟩:∃ r,S.rows v=some r:=by
   cases e:S.rows v with
   | none=>exact absurd e ((h.evi v).mp (by simp))
   | some r=>exact ⟨r,rfl⟩
  obtain ⟨j,hj⟩:=yf hvs
  have hWt:=h.web.same h.sm
  obtain ⟨wx,dd,ol,nn,hb,_⟩:=id hWt
  ext
  refine .inl (h.obj.rd T 0 rfl ?_)
  refine ⟨a.b,wx,_,rfl,hb,zq (by decide +kernel),?_⟩
  ext
  refine ⟨a.b,ss,ns,v,j,rfl,hWt,hj,fun H1 s1 bl hbl=>?_⟩
  have hbes:=fun u=>hbs j v u hj
  have hbl14:(inB ss 0 (ns.getD j 0)).length≤14:=yi (qa7 _ _ _) hWb.few
  generalize inB ss 0 (ns.getD j 0)=bes at hbes hbl14 ⊢
  have nbl:=(h.same s1).new hbl
  have s2:=qO s1 (o:=.lst (bes.map V.str)) hbl
  have eb:upd H1 bl (.lst (bes.map V.str)) bl=some (.lst (bes.map V.str)):=qb
  generalize upd H1 bl (.lst (bes.map V.str))=H2 at s2 eb
  have h2:=h.same s2
  refine .inl ⟨⟨_,.of eb⟩,jf (xs:=bes.map V.str) (fun i σ J=>∃ (S':FS) (more:List Str) (y2 y3:Option V),σ=[some (.ref a.x),some (.str v),y2,y3]∧FoA (cc 9) cw H0 J a ss ns qs S' ss (dn++[v]) (wt++more) .non∧Bx a.six H2 J∧FI B (pt qs) S'∧Mono S S'∧∀ u∈bes.take i,S'.bas u=S'.bas v∨(S'.par u≠none∧u∉dn++[v])) ⟨S,[],_,_,rfl,by rw [List.append_nil];exact h2,fun _ _ _ e=>e,I,Mono.refl S,(fun u hu=>by simp at hu)⟩ (fun i σ J _ hp=>?_) (fun i y σ J hy hp=>?_) fun σ J hp=>?_⟩
  ·obtain ⟨S',more,y2,y3,rfl,_,bx,_⟩:=hp
   exact .of (bx _ _ nbl eb)
  ·obtain ⟨S',more,y2,y3,rfl,hJ,bx,I',hM,hP⟩:=hp
   rw [yd] at hy
   obtain ⟨u,hu9,rfl⟩:=yn.mp hy
   have hvu:B v u:=(hbes u).mp (ye hu9)
   have hus:u∈ss:=hWb.inn _ _ (hWb.gr.as hvu)
   have hrv':=hM.ro v rv hrv
   have htk:bes.take (i + 1)=bes.take i++[u]:=by rw [List.take_add_one,hu9];rfl
   obtain ⟨kr,r1,r2,r3⟩:=hJ.row
   have hru:=r3 u
   ext
   refine .inl (hJ.obj.rd T 2 rfl ?_)
   refine .inr (.inl ⟨a.dr,_,rfl,DGet.k (k:=Sum.inr u) r1,?_⟩)
   cases eu:S'.rows u with
   | some ru =>
    rw [eu] at hru
    obtain ⟨tu,k1,k2,_⟩:=hru
    rw [k1]
    refine ⟨_,rfl,zv ?_⟩
    ext
    obtain ⟨dx,fs,hx1,_,_,_,hx2⟩:=id hJ.obj
    refine ⟨a.x,dx,fs,rfl,hx1,hx2 _ (by decide +kernel),?_⟩
    ext
    refine ⟨H0,a,ss,ns,qs,S',dn++[v],wt++more,v,u,rv,ru,B,rfl,hJ,hWb,I',hrv',eu,hvu,fun H5 S5 mo5 h5 bx5 I5 hb5 m5=>?_,fun H5 t5 r5 h5 bx5 e5 n5 hA5 hl5=>?_⟩
    ·ext
     refine .inl (h5.obj.rd T 7 rfl ?_)
     ext
     refine ⟨rfl,_,rfl,qU (fun h=>by simp at h) fun _=>?_⟩
     refine ⟨S5,more++mo5,_,_,rfl,by rw [← List.append_assoc wt];exact h5,bx.trans bx5,I5,hM.trans m5,fun z hz=>?_⟩
     rw [htk] at hz
     rcases List.mem_append.mp hz with hz | hz
     ·exact (hP z hz).imp (m5.ba z v) fun y=>⟨m5.pa z y.1,y.2⟩
     ·rw [List.mem_singleton.mp hz];exact .inl hb5.symm
    ·ext
     refine .inl (h5.obj.rd T 7 rfl ?_)
     ext
     refine ⟨rfl,_,rfl,zv ?_⟩
     exact q2 H5 S' more t5 r5 h5 (((Bx.of s2).trans bx).trans bx5) e5 n5 hA5 hl5
   | none =>
    rw [eu] at hru
    have hru':j9 kr (.inr u:Key)=none:=hru
    rw [hru']
    have hud:u∉dn++[v]:=fun z=>(hJ.evi u).mp (List.mem_append_left _ z) eu
    refine ⟨_,rfl,qU (fun h=>by cases h) fun _=>?_⟩
    obtain ⟨ka,p1,p2,p3⟩:=hJ.par
    ext
    refine .inl (hJ.obj.rd T 3 rfl ?_)
    refine .inr (.inl ⟨a.da,_,rfl,DGet.k (k:=Sum.inr u) p1,?_⟩)
    rw [p3]
    cases ep:S'.par u with
    | some z =>
     refine ⟨_,rfl,qU (fun h=>by cases h) fun _=>?_⟩
     ext
     refine .inl (hJ.obj.rd T 7 rfl ?_)
     ext
     refine ⟨rfl,_,rfl,qU (fun h=>by simp at h) fun _=>?_⟩
     refine ⟨S',more,_,_,rfl,hJ,bx,I',hM,fun z hz=>?_⟩
     rw [htk] at hz
     rcases List.mem_append.mp hz with hz | hz
     ·exact hP z hz
     ·rw [List.mem_singleton.mp hz];exact .inr ⟨by rw [ep];exact (fun y=>by cases y),hud⟩
    | none =>
     refine ⟨_,rfl,zv ?_⟩
     obtain ⟨y,hy9⟩:∃ y,pt qs u=some y:=by
      cases e:pt qs u with
      | some y=>exact ⟨y,rfl⟩
      | none =>
       exfalso
       have k:=hsg u hus e
       cases e2:S.rows u with
       | none=>exact k e2
       | some r=>rw [hM.ro u r e2] at eu;cases eu
     have hys:y∈ss:=hWb.inn _ _ (hWb.gr.as (hWb.gr.fa hy9))
     have hyn:=I'.fresh hWb.gr eu ep hy9
     have hpJ:=hJ.sm _ _ h.prt
     obtain ⟨h3,hkl⟩:=hJ.setP (p:=v) p1 hus ep
     have hss:=hWb.few
     ext
     refine .inl (hJ.obj.rd T 1 rfl ?_)
     ext
     refine qdK hpJ (by rw [jW,hy9];rfl) ?_
     ext
     refine .inl (hJ.obj.rd T 3 rfl ?_)
     ext
     refine .inr ⟨a.da,_,rfl,DPut.k (k:=Sum.inr u) p1 (by rw [sizeLine_eq];omega),?_⟩
     have bx3:Bx a.six H2 (upd J a.da (.dK (zJ ka (Sum.inr u) (.str v)))):=bx.upd (by simp [Fo.six])
     generalize upd J a.da (.dK (zJ ka (Sum.inr u) (.str v)))=J3 at h3 bx3
     ext
     obtain ⟨dx,fs,hx1,_,_,_,hx2⟩:=id h3.obj
     refine ⟨a.x,dx,fs,rfl,hx1,hx2 _ (by decide +kernel),?_⟩
     ext
     refine .inl (h3.obj.rd T 2 rfl ?_)
     ext
     refine h3.rowAt (S:=S'.setPar u v) hrv' fun tv etv=>?_
     ext
     refine ⟨by show 2≤sizeLine;decide,fun c1 hc1=>?_⟩
     have t1:=qO (Sr J3) (o:=.lst [.str u,.str y]) hc1
     have ec1:upd J3 c1 (.lst [.str u,.str y]) c1=some (.lst [.str u,.str y]):=qb
     generalize upd J3 c1 (.lst [.str u,.str y])=J4 at t1 ec1
     have hrl:=((I'.alt v rv hrv').inn hWb hvs).1
     refine qdT (t1 _ _ etv) ec1 (by rw [ya];show _ + 2≤_;omega) fun c2 hc2=>?_
     have n2:=(h3.same t1).newA hc2
     have t2:=qO t1 (o:=.lst (rv.map V.str++[.str u,.str y])) hc2
     have ec2:upd J4 c2 (.lst (rv.map V.str++[.str u,.str y])) c2=some (.lst ((rv++[u,y]).map V.str)):=by rw [qb,List.map_append];rfl
     generalize upd J4 c2 (.lst (rv.map V.str++[.str u,.str y]))=J5 at t2 ec2
     ext
     refine ⟨H0,a,ss,ns,qs,S'.setPar u v,ss,dn++[v],wt++more,.non,y,c2,rv++[u,y],rfl,h3.same t2,hWb.few,ec2,n2,hys,hyn,fun H6 h6 bx6 _=>?_⟩
     have W:Gw S' ((S'.setPar u v).setRow y (rv++[u,y])) v u y rv:=⟨if_pos rfl,fun s hs=>if_neg hs,if_pos rfl,fun s hs=>if_neg hs,rfl⟩
     have I6:=I'.grow hWb.gr hrv' hvu eu ep hy9 W
     have m6:Mono S' ((S'.setPar u v).setRow y (rv++[u,y])):=⟨fun _ _ e=>e,fun z hz=>by
      show (if z=u then some v else S'.par z)≠none
      split
      ·exact fun x=>by cases x
      ·exact hz,fun z r e=>by rw [W.ro z (fun x=>by rw [x,hyn] at e;cases e)];exact e⟩
     ext
     refine .inl (h6.obj.rd T 7 rfl ?_)
     ext
     refine ⟨rfl,_,rfl,qU (fun h=>by simp at h) fun _=>?_⟩
     refine ⟨_,more++[y],_,_,rfl,by rw [← List.append_assoc wt];exact h6,(bx3.trans (Bx.of t2)).trans bx6,I6,hM.trans m6,fun z hz=>?_⟩
     rw [htk] at hz
     rcases List.mem_append.mp hz with hz | hz
     ·exact (hP z hz).imp (m6.ba z v) fun y=>⟨m6.pa z y.1,y.2⟩
     ·rw [List.mem_singleton.mp hz];exact .inr ⟨by rw [W.pu];exact (fun x=>by cases x),hud⟩
  ·obtain ⟨S',more,y2,y3,rfl,hJ,bx,I',hM,hP⟩:=hp
   rw [ya,List.take_length] at hP
   refine q1 J S' more hJ ((Bx.of s2).trans bx) I' ?_ hM
   have hC':=hC.on hM
   refine ⟨fun z u hz hzu=>?_,fun z hz=>?_⟩
   ·rcases List.mem_append.mp hz with hz1 | hz1
    ·by_cases huv:u=v
     ·rw [huv] at hzu ⊢
      rcases hP z ((hbes z).mpr (hWb.gr.as hzu)) with y | y
      ·exact .inl y.symm
      ·exact absurd (List.mem_append_left _ hz1) y.2
     ·rcases hC'.cl z u hz1 hzu with y | ⟨y1,y2⟩
      ·exact .inl y
      ·exact .inr ⟨y1,fun x=>(List.mem_append.mp x).elim y2 fun x=>huv (List.mem_singleton.mp x)⟩
    ·rw [List.mem_singleton.mp hz1] at hzu ⊢
     exact hP u ((hbes u).mpr hzu)
   ·exact (hJ.evi z).mp (List.mem_append_left _ hz)
theorem sc_Forest_grow:FnScope ["self", "place"] ["self"] (qd jC):=fS
structure FoD (cf cw:Addr) (H0 H:Hp) (a:Fo) (ss:List Str) (ns:List Nat) (qs:List (Str×Str)) (S:FS) (dn wt:List Str) (lo:V) (A:Str→Str→Prop):Prop where
 fo:FoA cf cw H0 H a ss ns qs S ss dn wt lo
 en:(lo=.non∧wt=[]∧FI A (pt qs) S∧CI A S (fun u=>u∈dn)∧∀ z∈ss,pt qs z=none→S.rows z≠none)∨∃ t r,lo=.ref t∧H t=some (.lst (r.map V.str))∧t∉a.all∧Aug A (pt qs) r∧r.length≤28
def S0:FS:=⟨fun _=>none,fun _=>none,fun s=>s⟩
def SI (qs:List (Str×Str)) (l:List Str):FS:=⟨fun s=>if s∈l∧pt qs s=none then some [s] else none,fun _=>none,fun s=>s⟩
theorem SI_nil (qs:List (Str×Str)):SI qs []=S0:=by unfold SI S0;simp
theorem SI_on {qs:List (Str×Str)} {l:List Str} {z:Str} (h:pt qs z=none):SI qs (l++[z])=(SI qs l).setRow z [z]:=by
 unfold SI FS.setRow
 congr 1
 funext s
 dsimp only
 by_cases e:s=z
 ·subst e;rw [if_pos ⟨by simp,h⟩,if_pos rfl]
 ·rw [if_neg e]
  have:s∈l++[z]↔s∈l:=by simp [e]
  simp only [this]
theorem SI_off {qs:List (Str×Str)} {l:List Str} {z:Str} (h:pt qs z≠none):SI qs (l++[z])=SI qs l:=by
 unfold SI
 congr 1
 funext s
 by_cases e:s=z
 ·subst e;rw [if_neg (fun k=>h k.2),if_neg (fun k=>h k.2)]
 ·have:s∈l++[z]↔s∈l:=by simp [e]
  simp only [this]
inductive spGw (cc:Nat→Addr) (cw:Addr) (vs:List V) (H:Hp) (Q:VK) (E:XK):Prop|mk (H0:Hp) (a:Fo) (ss:List Str) (ns:List Nat) (qs:List (Str×Str)) (A:Str→Str→Prop) (_:vs=[.ref a.x]) (_:FoA (cc 9) cw H0 H a ss ns qs S0 [] [] [] .non) (_:Wb A ss qs) (_:(∀ s∈ss,zF s=true)) (_:(∀ (j:Nat) z u,ss[j]?=some z→(u∈inB ss 0 (ns.getD j 0)↔A z u))) (_:∀ (H':Hp) (S:FS) (dn wt:List Str) (lo:V),FoD (cc 9) cw H0 H' a ss ns qs S dn wt lo A→Bx a.six H H'→Q .non H')
theorem ix_natF {k n:Nat} (h:k < n):seqIndex? (k:Int) n=some k:=by
 unfold seqIndex?
 simp
 omega
theorem nin_prF {H:Hp} {d:Addr} {qs:List (Str×Str)} {s:Str} {Q:VK} (hd:H d=some (.dK (prK qs))) (q:Q (.bl (!(pt qs s).isSome)) H):qdQ K true (.str s) (.ref d) H Q:=by
 refine .inr (.inl ⟨d,_,rfl,DGet.k (k:=Sum.inr s) hd,?_⟩)
 rw [jW,if_pos rfl,Option.isSome_map]
 exact q
theorem FoA.ne {H0 H:Hp} {a:Fo} {ss:List Str} {ns:List Nat} {qs:List (Str×Str)} {S:FS} {bs dn wt:List Str} {lo:V} (h:FoA (cc 9) cw H0 H a ss ns qs S bs dn wt lo):(¬a.x=a.dr∧¬a.x=a.da∧¬a.x=a.ds∧¬a.x=a.dg∧¬a.x=a.dw)∧(¬a.dr=a.da∧¬a.dr=a.ds∧¬a.dr=a.dg∧¬a.dr=a.dw)∧(¬a.da=a.ds∧¬a.da=a.dg∧¬a.da=a.dw)∧(¬a.ds=a.dg∧¬a.ds=a.dw)∧¬a.dg=a.dw:=by simpa [Fo.six] using h.sep
theorem FoA.setN {H0 H:Hp} {a:Fo} {ss:List Str} {ns:List Nat} {qs:List (Str×Str)} {S:FS} {bs dn wt:List Str} {lo:V} {ks:List (Key×V)} {z:Str} (h:FoA (cc 9) cw H0 H a ss ns qs S bs dn wt lo) (hk:H a.ds=some (.dK ks)) (hz:S.bas z=z):FoA (cc 9) cw H0 (upd H a.ds (.dK (zJ ks (Sum.inr z) (.str z)))) a ss ns qs S (bs++[z]) dn wt lo∧ks.length≤bs.length:=by
 obtain ⟨kr,r1,r2,r3⟩:=h.row
 obtain ⟨ka,p1,p2,p3⟩:=h.par
 obtain ⟨k,b1,b2,b3⟩:=h.bas
 obtain ⟨xs,g1,g2⟩:=h.rng
 rw [hk] at b1
 cases b1
 obtain ⟨⟨n1,n2,n3,n4,n5⟩,⟨n6,n7,n8,n9⟩,⟨n10,n11,n12⟩,⟨n13,n14⟩,n15⟩:=h.ne
 have bx:Bx a.six H (upd H a.ds (.dK (zJ ks (Sum.inr z) (.str z)))):=(Bx.of (Sr H)).upd (by simp [Fo.six])
 refine ⟨⟨qaH h.sm (h.fr _ (by simp [Fo.six])),h.web,h.prt,h.fr,h.nd,fun c hc=>⟨(h.exf c hc).1,(h.exf c hc).2.1,(h.exf c hc).2.2.elim fun o e=>⟨o,bx _ _ (h.exf c hc).2.1 e⟩⟩,h.obj.eq (qg n3),⟨kr,by rw [qg n7];exact r1,r2,fun y=>(r3 y).mono bx Fo.sub⟩,⟨ka,by rw [qg n10];exact p1,p2,p3⟩,⟨_,qb,by have:=jT ks (Sum.inr z:Key) (.str z);rw [List.length_append];show _≤_ + 1;omega,fun u hu=>?_⟩,⟨xs,by rw [qg (Ne.symm n13)];exact g1,g2⟩,by rw [qg (Ne.symm n14)];exact h.wai,h.evn,h.evi,h.evs⟩,b2⟩
 rw [qaM]
 by_cases e:u=z
 ·subst e;rw [if_pos rfl,hz]
 ·rw [if_neg (fun x=>e (Sum.inr.inj x))]
  exact b3 u ((List.mem_append.mp hu).resolve_right fun y=>e (List.mem_singleton.mp y))
theorem FoA.pop {H0 H:Hp} {a:Fo} {ss:List Str} {ns:List Nat} {qs:List (Str×Str)} {S:FS} {bs dn wt:List Str} {lo:V} {v:Str} (h:FoA (cc 9) cw H0 H a ss ns qs S bs dn (v::wt) lo):FoA (cc 9) cw H0 (upd H a.dw (.lst (wt.map V.str))) a ss ns qs S bs (dn++[v]) wt lo:=by
 obtain ⟨kr,r1,r2,r3⟩:=h.row
 obtain ⟨ka,p1,p2,p3⟩:=h.par
 obtain ⟨k,b1,b2,b3⟩:=h.bas
 obtain ⟨xs,g1,g2⟩:=h.rng
 obtain ⟨⟨n1,n2,n3,n4,n5⟩,⟨n6,n7,n8,n9⟩,⟨n10,n11,n12⟩,⟨n13,n14⟩,n15⟩:=h.ne
 have el:dn++[v]++wt=dn++v::wt:=by simp
 have bx:Bx a.six H (upd H a.dw (.lst (wt.map V.str))):=(Bx.of (Sr H)).upd (by simp [Fo.six])
 exact ⟨qaH h.sm (h.fr _ (by simp [Fo.six])),h.web,h.prt,h.fr,h.nd,fun c hc=>⟨(h.exf c hc).1,(h.exf c hc).2.1,(h.exf c hc).2.2.elim fun o e=>⟨o,bx _ _ (h.exf c hc).2.1 e⟩⟩,h.obj.eq (qg n5),⟨kr,by rw [qg n9];exact r1,by rw [el];exact r2,fun y=>(r3 y).mono bx Fo.sub⟩,⟨ka,by rw [qg n12];exact p1,p2,p3⟩,⟨k,by rw [qg n14];exact b1,b2,b3⟩,⟨xs,by rw [qg n15];exact g1,by rw [el];exact g2⟩,qb,by rw [el];exact h.evn,by rw [el];exact h.evi,by rw [el];exact h.evs⟩
theorem ok_gw (F:Fun K "grow" "Forest.grow" jC f fd) (T:Txt K mg cc cw) (D_Web_places:MethOk P w K mg base CX0 1 cw "places" ["self"] (spPls cw)) (D_Forest_reach:MethOk P w K mg base CX0 1 (cc 9) "reach" ["self", "place", "row"] (spRe cc cw)) (D_Forest_look_around:MethOk P w K mg base CX0 7 (cc 9) "look_around" ["self", "place"] (spLa cc cw)):FnOk P w K mg base CX0 8 f fd ["self"] (spGw cc cw):=by
 refine F.ok sc_Forest_grow fun _ _ _ _ H vs Q E hr h=>?_
 ·obtain ⟨H0,a,ss,ns,qs,B,rfl,h,hWb,hnm,hbs,q⟩:=h
  have hu:=j8 hr
  have hss:=hWb.few
  refine ⟨_,(qc (jL PassesOwn.never rfl (qT (K:=K) rfl (jm D_Web_places (hmR hr) (qD (K:=K) rfl (pv 0) rfl))) (qq (i:=1) sc_Forest_grow.nd rfl (Or.inl rfl))
 (qc (j7 (pv 1) (zi (qD (K:=K) rfl (pv 0) rfl) (pv 1) (zn hu)))
 (qf (qV (qo (qax (K:=K) rfl hu) (pv 1) (qD (K:=K) rfl (pv 0) rfl) (by with_unfolding_all rfl)) (qf (jr (qH D_Forest_reach (hmR hr) (pv 0) (qa (pv 1) (qa (je (qa (pv 1) qe)) qe))))) qu))))
 (qf (qaL PassesOwn.never (PW.pt (qbG (qo qc9 (qw (zw (K:=K) rfl) rfl T.b_len boot_len (qa (qD (K:=K) rfl (pv 0) rfl) qe)) qi (qB _)) (qaS (qo qe5 (qD (K:=K) rfl (pv 0) rfl) zD (qB _)))))
 (qf (jr (qH D_Forest_look_around (hmR hr) (pv 0) (qa (qbu (K:=K) rfl PySem.F.plainAttrs_list PySem.F.slot_list_pop PySem.F.type_list_pop qb3 (qD (K:=K) rfl (pv 0) rfl) (qa qi qe)) qe))))))),?_⟩
  have hWt:=h.web.same h.sm
  obtain ⟨wx,dd,ol,nn,hb,_⟩:=id hWt
  ext
  refine .inl (h.obj.rd T 0 rfl ?_)
  refine ⟨a.b,wx,_,rfl,hb,zq (by decide +kernel),?_⟩
  ext
  refine ⟨a.b,ss,ns,rfl,hWt,fun pl hpl=>?_⟩
  have npl:=h.new hpl
  have s1:=qO (Sr H) (o:=.lst (ss.map V.str)) hpl
  have e1:upd H pl (.lst (ss.map V.str)) pl=some (.lst (ss.map V.str)):=qb
  generalize upd H pl (.lst (ss.map V.str))=H1 at s1 e1
  refine .inl ⟨⟨_,.of e1⟩,jf (xs:=ss.map V.str) (fun i σ J=>∃ (wl:List Str) (y1:Option V),σ=[some (.ref a.x),y1]∧FoA (cc 9) cw H0 J a ss ns qs (SI qs (ss.take i)) (ss.take i) [] wl .non∧Bx a.six H1 J) ⟨[],_,rfl,by rw [List.take_zero,SI_nil];exact h.same s1,fun _ _ _ e=>e⟩ (fun i σ J _ hp=>?_) (fun i y σ J hy hp=>?_) fun σ J hp=>?_⟩
  ·obtain ⟨wl,y1,rfl,_,bx⟩:=hp
   exact .of (bx _ _ npl e1)
  ·obtain ⟨wl,y1,rfl,hJ,bx⟩:=hp
   rw [yd] at hy
   obtain ⟨z,hz,rfl⟩:=yn.mp hy
   have hil:=(yc.mp hz).1
   have hzs:=ye hz
   have htk:ss.take (i + 1)=ss.take i++[z]:=by rw [List.take_add_one,hz];rfl
   obtain ⟨ks,b1,b2,b3⟩:=hJ.bas
   rw [List.length_take] at b2
   obtain ⟨h2,_⟩:=hJ.setN (z:=z) b1 rfl
   ext
   refine .inl (hJ.obj.rd T 4 rfl ?_)
   ext
   refine .inr ⟨a.ds,_,rfl,DPut.k (k:=Sum.inr z) b1 (by rw [sizeLine_eq];omega),?_⟩
   have bx2:Bx a.six H1 (upd J a.ds (.dK (zJ ks (Sum.inr z) (.str z)))):=bx.upd (by simp [Fo.six])
   generalize upd J a.ds (.dK (zJ ks (Sum.inr z) (.str z)))=J2 at h2 bx2
   have hp2:=h2.sm _ _ h.prt
   ext
   refine .inl (h2.obj.rd T 1 rfl ?_)
   refine nin_prF hp2 ⟨_,rfl,?_⟩
   cases ez:pt qs z with
   | some y =>
    refine yq ?_
    exact ⟨wl,_,rfl,by rw [htk,SI_off (by rw [ez];exact fun k=>nomatch k)];exact h2,bx2⟩
   | none =>
    refine zv ?_
    ext
    obtain ⟨dx,fs,hx1,_,_,_,hx2⟩:=id h2.obj
    refine ⟨a.x,dx,fs,rfl,hx1,hx2 _ (by decide +kernel),?_⟩
    ext
    refine ⟨by show 1≤sizeLine;decide,fun c1 hc1=>?_⟩
    have n1:=h2.newA hc1
    have t1:=qO (Sr J2) (o:=.lst [.str z]) hc1
    have ec1:upd J2 c1 (.lst [.str z]) c1=some (.lst ([z].map V.str)):=qb
    generalize upd J2 c1 (.lst [.str z])=J3 at t1 ec1
    have hzn:z∉ss.take i:=fun y=>by
     obtain ⟨j,hj⟩:=yf y
     have hjl:=(yc.mp hj).1
     rw [List.length_take] at hjl
     rw [List.getElem?_take,if_pos (by omega)] at hj
     have:=qv hWb.nd hj hz
     omega
    ext
    refine ⟨H0,a,ss,ns,qs,SI qs (ss.take i),ss.take i++[z],[],wl,.non,z,c1,[z],rfl,h2.same t1,hss,ec1,n1,hzs,if_neg (fun k=>hzn k.1),fun H6 h6 bx6 _=>?_⟩
    exact ⟨wl++[z],_,rfl,by rw [htk,SI_on ez];exact h6,(bx2.trans (Bx.of t1)).trans bx6⟩
  ·obtain ⟨wl,y1,rfl,hJ,bx⟩:=hp
   rw [ya,List.take_length] at hJ
   have bx0:Bx a.six H J:=(Bx.of s1).trans bx
   have IJ:FI B (pt qs) (SI qs ss):=FI.start (fun v r e=>by
    have e':(if v∈ss∧pt qs v=none then some [v] else none)=some r:=e
    split at e'
    ·rename_i k;exact ⟨k.2,(ym e').symm⟩
    ·cases e') (fun _=>rfl) fun _=>rfl
   ext
   obtain ⟨W,hW0⟩:∃ W:Nat→L2.St→Hp→Prop,W=fun m σ J=>∃ (S:FS) (dn wt:List Str) (lo:V) (y1:Option V),σ=[some (.ref a.x),y1]∧Bx a.six H J∧((lo=.non∧m=15 - dn.length∧FoA (cc 9) cw H0 J a ss ns qs S ss dn wt .non∧FI B (pt qs) S∧CI B S (fun u=>u∈dn)∧∀ z∈ss,pt qs z=none→S.rows z≠none)∨(lo≠.non∧m=0∧FoD (cc 9) cw H0 J a ss ns qs S dn wt lo B)):=⟨_,rfl⟩
   refine ⟨W,⟨15,by rw [hW0];exact ⟨SI qs ss,[],wl,.non,_,rfl,bx0,.inl ⟨rfl,rfl,hJ,IJ,⟨(fun v u k=>by cases k),(fun v k=>by cases k)⟩,fun z hz e=>by show (if _ then _ else _)≠none;rw [if_pos ⟨hz,e⟩];exact fun k=>by cases k⟩⟩⟩,fun m σ J hW=>?_⟩
   rw [hW0] at hW
   obtain ⟨S,dn,wt,lo,y1',rfl,bxJ,hcase⟩:=hW
   rcases hcase with ⟨rfl,hm,hF,I,hC,hsg⟩ | ⟨hlo,hm,hD⟩
   ·have hwai:=hF.wai
    ext
    refine .inl (hF.obj.rd T 6 rfl ?_)
    ext
    refine qai hwai ?_
    rw [ya]
    ext
    cases wt with
    | nil =>
     refine qU (fun h=>by simp at h) fun _=>qU (fun h=>by cases h) fun _=>?_
     exact q J S dn [] .non ⟨hF,.inl ⟨rfl,rfl,I,hC,hsg⟩⟩ bxJ
    | cons v wt =>
     refine qU (fun _=>?_) fun h=>absurd (decide_eq_true (by simp)) h
     ext
     refine .inl (hF.obj.rd T 7 rfl ?_)
     ext
     refine ⟨_,rfl,zv ⟨fun σ' H'=>∃ m',m' < m∧W m' σ' H',fun _ _ z=>z,?_⟩⟩
     have hdl:dn.length + 1≤14:=by have:=hF.few;rw [List.length_append,List.length_cons] at this;omega
     ext
     obtain ⟨dx,fs,hx1,_,_,_,hx2⟩:=id hF.obj
     refine ⟨a.x,dx,fs,rfl,hx1,hx2 _ (by decide +kernel),?_⟩
     ext
     refine .inl (hF.obj.rd T 6 rfl ?_)
     refine ⟨.inl ⟨rfl,_,.of hwai⟩,?_⟩
     ext
     refine ⟨a.dw,_,0,0,.str v,rfl,rfl,hwai,by decide,by decide,by rw [ya];exact ix_natF (by simp),rfl,?_⟩
     have hp:=hF.pop
     have bxp:Bx a.six H (upd J a.dw (.lst (wt.map V.str))):=bxJ.upd (by simp [Fo.six])
     ext
     show spLa cc cw _ (upd J a.dw (.lst (wt.map V.str))) _ _
     generalize upd J a.dw (.lst (wt.map V.str))=J2 at hp bxp
     refine ⟨H0,a,ss,ns,qs,S,dn,wt,v,B,rfl,hp,hWb,hnm,hbs,hsg,I,hC,fun H5 S5 mo h5 bx5 I5 C5 m5=>?_,fun H5 S5 mo t5 r5 h5 bx5 e5 n5 hA5 hl5=>?_⟩
     ·refine ⟨15 - (dn++[v]).length,by rw [hm,List.length_append];show _ - (_ + 1) < _;omega,?_⟩
      rw [hW0]
      exact ⟨S5,dn++[v],wt++mo,.non,_,rfl,bxp.trans bx5,.inl ⟨rfl,rfl,h5,I5,C5,fun z hz e=>(by
       have k:=hsg z hz e
       cases e2:S.rows z with
       | none=>exact absurd e2 k
       | some r=>rw [m5.ro z r e2];exact fun x=>by cases x)⟩⟩
     ·refine ⟨0,by omega,?_⟩
      rw [hW0]
      exact ⟨S5,dn++[v],wt++mo,.ref t5,_,rfl,bxp.trans bx5,.inr ⟨(fun e=>by cases e),rfl,⟨h5,.inr ⟨t5,r5,rfl,e5,n5,hA5,hl5⟩⟩⟩⟩
   ·have hwai:=hD.fo.wai
    rcases hD.en with k | ⟨t,r,rfl,_⟩
    ·exact absurd k.1 hlo
    ext
    refine .inl (hD.fo.obj.rd T 6 rfl ?_)
    ext
    refine qai hwai ?_
    ext
    refine qU (fun _=>?_) (fun _=>qU (fun h=>by cases h) fun _=>q J S dn wt _ hD bxJ)
    ext
    refine .inl (hD.fo.obj.rd T 7 rfl ?_)
    ext
    refine ⟨_,rfl,qU (fun h=>by cases h) fun _=>?_⟩
    exact q J S dn wt _ hD bxJ
theorem sc_Forest_init:FnScope ["self", "web", "pairs"] ["self", "web", "pairs"] (qd jD):=fS
theorem sc_Forest_row:FnScope ["self"] ["self"] (qd jP):=fS
theorem sc_Forest_reached:FnScope ["self"] ["self"] (qd qS):=fS
def qet (p:Addr) (H:Hp):Hp:=fun b=>if b=p then none else H b
theorem zN {p b:Addr} {H:Hp} (h:b≠p):qet p H b=H b:=if_neg h
theorem lkn {f g:Str} {v:V} {fs:List (Str×V)} (h:f≠g) (k:fs.lookup f=none):(qI g v fs).lookup f=none:=by rw [qG,if_neg h];exact k
inductive spFi (cc:Nat→Addr) (cw:Addr) (vs:List V) (H:Hp) (Q:VK) (E:XK):Prop|mk (x dx b r:Addr) (ss:List Str) (ns:List Nat) (us:List Addr) (tps qs:List (Str×Str)) (A:Str→Str→Prop) (_:vs=[.ref x,.ref b,.ref r]) (_:H x=some (.ins (cc 9) dx [])) (_:WebAt cw H b ss ns) (_:Adj ss ns tps) (_:Wb A ss qs) (_:(∀ s∈ss,zF s=true)) (_:(∀ (j:Nat) z u,ss[j]?=some z→(u∈inB ss 0 (ns.getD j 0)↔A z u))) (_:PL H r us qs) (_:qs.length≤30) (_:(∀ q∈qs,(q∈tps∨(q.2,q.1)∈tps)∧q.1∈ss∧q.2∈ss∧q.1≠q.2)) (_:∀ (H0 H':Hp) (a:Fo) (S:FS) (dn wt:List Str) (lo:V),a.x=x→a.ex=[]→FoD (cc 9) cw H0 H' a ss ns qs S dn wt lo A→L2.Same (qet x H) H0→Q .non H')
theorem WebAt.out {x b dx:Addr} {H:Hp} {ss:List Str} {ns:List Nat} {fs:List (Str×V)} (h:WebAt cw H b ss ns) (hx:H x=some (.ins (cc 9) dx fs)) (hb:b≠x):WebAt cw (qet x H) b ss ns:=by
 obtain ⟨wx,d,ol,n,h1,h2,h3,h4,h5⟩:=h
 refine ⟨wx,d,ol,n,(zN hb).trans h1,(zN ?_).trans h2,(zN ?_).trans h3,(zN ?_).trans h4,h5⟩
 ·exact qal h2 hx (fun z=>by cases z)
 ·exact qal h3 hx (fun z=>by cases z)
 ·exact qal h4 hx (fun z=>by cases z)
theorem ok_fi (F:Fun K "__init__" "Forest.__init__" jD f fd) (T:Txt K mg cc cw) (D_partners_in:DefOk P w K mg base CX0 9 "partners_in" ["web", "pairs"] (spPn cw)) (D_Forest_grow:MethOk P w K mg base CX0 8 (cc 9) "grow" ["self"] (spGw cc cw)):FnOk P w K mg base CX0 10 f fd ["self", "web", "pairs"] (spFi cc cw):=by
 refine F.ok sc_Forest_init fun _ _ _ s H vs Q E hr h=>?_
 ·obtain ⟨x,dx,b,r,ss,ns,us,tps,qs,B,rfl,hx,hW,hA,hWb,hnm,hbs,hP,hql,hqs,q⟩:=h
  have hu:=j8 hr
  refine ⟨_,(qc (j6 (K:=K) rfl (pv 0) (pv 1) rfl)
 (qc (j6 (K:=K) rfl (pv 0) (qp D_partners_in (hmR hr) qC (qa (pv 1) (qa (pv 2) qe))) rfl)
 (qc (j6 (K:=K) rfl (pv 0) zx rfl)
 (qc (j6 (K:=K) rfl (pv 0) zx rfl)
 (qc (j6 (K:=K) rfl (pv 0) zx rfl)
 (qc (j6 (K:=K) rfl (pv 0) (je qe) rfl)
 (qc (j6 (K:=K) rfl (pv 0) (je qe) rfl)
 (qc (j6 (K:=K) rfl (pv 0) zD rfl)
 (qf (jr (jm D_Forest_grow (hmR hr) (pv 0)))))))))))),?_⟩
  have nbx:b≠x:=fun e=>by
   obtain ⟨wx,d,ol,n,hb,_⟩:=id hW
   subst e;rw [hx] at hb;injection hb with hb;injection hb with _ _ hb;cases hb
  have nrx:r≠x:=qal hP.1 hx (fun z=>by cases z)
  have nux:∀ u∈us,u≠x:=fun u hu=>by
   obtain ⟨q,_,eu⟩:=hP.2.mem hu
   exact qal eu hx (fun z=>by cases z)
  have fa:∀ i,(h:i < 8)→NoAttr K (cc 9) (fAtt.getD i ""):=fun i h=>T.fa _ (by have:i < fAtt.length:=h;rw [List.getD_eq_getElem?_getD,yb this];exact List.getElem_mem this)
  ext
  refine .inl ⟨x,cc 9,dx,[],rfl,hx,T.fcl,fa 0 (by decide),by decide,?_⟩
  have b1:=(But.refl x H).put (o:=.ins (cc 9) dx (qI "board" (.ref b) []))
  have hx1:upd H x (.ins (cc 9) dx (qI "board" (.ref b) [])) x=some (.ins (cc 9) dx (qI "board" (.ref b) [])):=qb
  generalize upd H x (.ins (cc 9) dx (qI "board" (.ref b) []))=H1 at b1 hx1 ⊢
  have keepW:∀ {J:Hp},But x H J→WebAt cw J b ss ns:=fun k=>by
   obtain ⟨wx,d,ol,n,h1,h2,h3,h4,h5⟩:=hW
   exact ⟨wx,d,ol,n,k _ _ nbx h1,k _ _ (qal h2 hx (fun z=>by cases z)) h2,k _ _ (qal h3 hx (fun z=>by cases z)) h3,k _ _ (qal h4 hx (fun z=>by cases z)) h4,h5⟩
  have hP1:PL H1 r us qs:=⟨b1 _ _ nrx hP.1,hP.2.len,fun k t ab ht hab=>b1 _ _ (nux t (ye ht)) (hP.2.at_ k t ab ht hab)⟩
  ext
  refine ⟨b,r,ss,ns,us,tps,qs,rfl,keepW b1,hA,hP1,⟨hqs,hWb.qn,hql⟩,fun dp H2 s2 hdp0 hdp=>?_⟩
  have hx2:=s2 _ _ hx1
  have b2:=b1.same s2
  have ndp:dp≠x:=fun e=>by rw [e,hx1] at hdp0;cases hdp0
  have hl:∀ {f:Str} {v:V} {fs:List (Str×V)} {n:Nat},fs.length≤n→(qI f v fs).length≤n + 1:=fun h=>yi (jH _ _ _) (by omega)
  ext
  refine .inl ⟨x,cc 9,dx,_,rfl,hx2,T.fcl,fa 1 (by decide),Nat.lt_of_le_of_lt (hl (n:=0) (yh _)) (by decide),?_⟩
  have c3:L2.Same (qet x H2) (upd H2 x (.ins (cc 9) dx (qI "partners" (.ref dp) (qI "board" (.ref b) [])))):=fun c o e=>by
   have hc:c≠x:=fun z=>by rw [z] at e;unfold qet at e;rw [if_pos rfl] at e;cases e
   rw [zN hc] at e;rw [qg hc];exact e
  have hx3:upd H2 x (.ins (cc 9) dx (qI "partners" (.ref dp) (qI "board" (.ref b) []))) x=some (.ins (cc 9) dx (qI "partners" (.ref dp) (qI "board" (.ref b) []))):=qb
  obtain ⟨H0,hH0⟩:∃ H0,H0=qet x H2:=⟨_,rfl⟩
  rw [← hH0] at c3
  have h0x:H0 x=none:=by rw [hH0];exact if_pos rfl
  have l3:(qI "partners" (.ref dp) (qI "board" (.ref b) [])).length≤2:=hl (hl (n:=0) (yh _))
  generalize upd H2 x (.ins (cc 9) dx (qI "partners" (.ref dp) (qI "board" (.ref b) [])))=H3 at c3 hx3 ⊢
  obtain ⟨f3,hf3⟩:∃ f3,f3=qI "partners" (.ref dp) (qI "board" (.ref b) []):=⟨_,rfl⟩
  rw [← hf3] at hx3 l3
  ext
  intro dr hdr
  have ndr:dr≠x:=fun e=>by rw [e,hx3] at hdr;cases hdr
  have zdr:H0 dr=none:=c3.free hdr
  have hy3:upd H3 dr (.dK []) x=some (.ins (cc 9) dx f3):=by rw [qg ndr.symm];exact hx3
  ext
  refine .inl ⟨x,cc 9,dx,_,rfl,hy3,T.fcl,fa 2 (by decide),Nat.lt_of_le_of_lt l3 (by decide),?_⟩
  have c4:L2.Same H0 (upd (upd H3 dr (.dK [])) x (.ins (cc 9) dx (qI "rows" (.ref dr) f3))):=qaH (qO c3 hdr) h0x
  have hx4:(upd (upd H3 dr (.dK [])) x (.ins (cc 9) dx (qI "rows" (.ref dr) f3))) x=some (.ins (cc 9) dx (qI "rows" (.ref dr) f3)):=qb
  have l4:(qI "rows" (.ref dr) f3).length≤3:=hl l3
  have edr4:(upd (upd H3 dr (.dK [])) x (.ins (cc 9) dx (qI "rows" (.ref dr) f3))) dr=some (.dK []):=by rw [qg ndr,qb]
  generalize upd (upd H3 dr (.dK [])) x (.ins (cc 9) dx (qI "rows" (.ref dr) f3))=H4 at c4 hx4 edr4 ⊢
  obtain ⟨f4,hf4⟩:∃ f,f=qI "rows" (.ref dr) f3:=⟨_,rfl⟩
  rw [← hf4] at hx4 l4
  ext
  intro da hda
  have nda:da≠x:=fun e=>by rw [e,hx4] at hda;cases hda
  have zda:H0 da=none:=c4.free hda
  have ndadr:da≠dr:=fun e=>by rw [e,edr4] at hda;cases hda
  have hy4:upd H4 da (.dK []) x=some (.ins (cc 9) dx f4):=by rw [qg nda.symm];exact hx4
  ext
  refine .inl ⟨x,cc 9,dx,_,rfl,hy4,T.fcl,fa 3 (by decide),Nat.lt_of_le_of_lt l4 (by decide),?_⟩
  have c5:L2.Same H0 (upd (upd H4 da (.dK [])) x (.ins (cc 9) dx (qI "parents" (.ref da) f4))):=qaH (qO c4 hda) h0x
  have hx5:(upd (upd H4 da (.dK [])) x (.ins (cc 9) dx (qI "parents" (.ref da) f4))) x=some (.ins (cc 9) dx (qI "parents" (.ref da) f4)):=qb
  have l5:(qI "parents" (.ref da) f4).length≤4:=hl l4
  have eda5:(upd (upd H4 da (.dK [])) x (.ins (cc 9) dx (qI "parents" (.ref da) f4))) da=some (.dK []):=by rw [qg nda,qb]
  have edr5:(upd (upd H4 da (.dK [])) x (.ins (cc 9) dx (qI "parents" (.ref da) f4))) dr=some (.dK []):=by rw [qg ndr,qg (Ne.symm ndadr)];exact edr4
  generalize upd (upd H4 da (.dK [])) x (.ins (cc 9) dx (qI "parents" (.ref da) f4))=H5 at c5 hx5 edr5 eda5 ⊢
  obtain ⟨f5,hf5⟩:∃ f,f=qI "parents" (.ref da) f4:=⟨_,rfl⟩
  rw [← hf5] at hx5 l5
  ext
  intro ds hds
  have nds:ds≠x:=fun e=>by rw [e,hx5] at hds;cases hds
  have zds:H0 ds=none:=c5.free hds
  have ndsdr:ds≠dr:=fun e=>by rw [e,edr5] at hds;cases hds
  have ndsda:ds≠da:=fun e=>by rw [e,eda5] at hds;cases hds
  have hy5:upd H5 ds (.dK []) x=some (.ins (cc 9) dx f5):=by rw [qg nds.symm];exact hx5
  ext
  refine .inl ⟨x,cc 9,dx,_,rfl,hy5,T.fcl,fa 4 (by decide),Nat.lt_of_le_of_lt l5 (by decide),?_⟩
  have c6:L2.Same H0 (upd (upd H5 ds (.dK [])) x (.ins (cc 9) dx (qI "bases" (.ref ds) f5))):=qaH (qO c5 hds) h0x
  have hx6:(upd (upd H5 ds (.dK [])) x (.ins (cc 9) dx (qI "bases" (.ref ds) f5))) x=some (.ins (cc 9) dx (qI "bases" (.ref ds) f5)):=qb
  have l6:(qI "bases" (.ref ds) f5).length≤5:=hl l5
  have eds6:(upd (upd H5 ds (.dK [])) x (.ins (cc 9) dx (qI "bases" (.ref ds) f5))) ds=some (.dK []):=by rw [qg nds,qb]
  have edr6:(upd (upd H5 ds (.dK [])) x (.ins (cc 9) dx (qI "bases" (.ref ds) f5))) dr=some (.dK []):=by rw [qg ndr,qg (Ne.symm ndsdr)];exact edr5
  have eda6:(upd (upd H5 ds (.dK [])) x (.ins (cc 9) dx (qI "bases" (.ref ds) f5))) da=some (.dK []):=by rw [qg nda,qg (Ne.symm ndsda)];exact eda5
  generalize upd (upd H5 ds (.dK [])) x (.ins (cc 9) dx (qI "bases" (.ref ds) f5))=H6 at c6 hx6 edr6 eda6 eds6 ⊢
  obtain ⟨f6,hf6⟩:∃ f,f=qI "bases" (.ref ds) f5:=⟨_,rfl⟩
  rw [← hf6] at hx6 l6
  ext
  refine ⟨by show 0≤sizeLine;decide,fun dg hdg=>?_⟩
  have ndg:dg≠x:=fun e=>by rw [e,hx6] at hdg;cases hdg
  have zdg:H0 dg=none:=c6.free hdg
  have ndgdr:dg≠dr:=fun e=>by rw [e,edr6] at hdg;cases hdg
  have ndgda:dg≠da:=fun e=>by rw [e,eda6] at hdg;cases hdg
  have ndgds:dg≠ds:=fun e=>by rw [e,eds6] at hdg;cases hdg
  have hy6:upd H6 dg (.lst []) x=some (.ins (cc 9) dx f6):=by rw [qg ndg.symm];exact hx6
  ext
  refine .inl ⟨x,cc 9,dx,_,rfl,hy6,T.fcl,fa 5 (by decide),Nat.lt_of_le_of_lt l6 (by decide),?_⟩
  have c7:L2.Same H0 (upd (upd H6 dg (.lst [])) x (.ins (cc 9) dx (qI "rings" (.ref dg) f6))):=qaH (qO c6 hdg) h0x
  have hx7:(upd (upd H6 dg (.lst [])) x (.ins (cc 9) dx (qI "rings" (.ref dg) f6))) x=some (.ins (cc 9) dx (qI "rings" (.ref dg) f6)):=qb
  have l7:(qI "rings" (.ref dg) f6).length≤6:=hl l6
  have edg7:(upd (upd H6 dg (.lst [])) x (.ins (cc 9) dx (qI "rings" (.ref dg) f6))) dg=some (.lst []):=by rw [qg ndg,qb]
  have edr7:(upd (upd H6 dg (.lst [])) x (.ins (cc 9) dx (qI "rings" (.ref dg) f6))) dr=some (.dK []):=by rw [qg ndr,qg (Ne.symm ndgdr)];exact edr6
  have eda7:(upd (upd H6 dg (.lst [])) x (.ins (cc 9) dx (qI "rings" (.ref dg) f6))) da=some (.dK []):=by rw [qg nda,qg (Ne.symm ndgda)];exact eda6
  have eds7:(upd (upd H6 dg (.lst [])) x (.ins (cc 9) dx (qI "rings" (.ref dg) f6))) ds=some (.dK []):=by rw [qg nds,qg (Ne.symm ndgds)];exact eds6
  generalize upd (upd H6 dg (.lst [])) x (.ins (cc 9) dx (qI "rings" (.ref dg) f6))=H7 at c7 hx7 edr7 eda7 eds7 edg7 ⊢
  obtain ⟨f7,hf7⟩:∃ f,f=qI "rings" (.ref dg) f6:=⟨_,rfl⟩
  rw [← hf7] at hx7 l7
  ext
  refine ⟨by show 0≤sizeLine;decide,fun dw hdw=>?_⟩
  have ndw:dw≠x:=fun e=>by rw [e,hx7] at hdw;cases hdw
  have zdw:H0 dw=none:=c7.free hdw
  have ndwdr:dw≠dr:=fun e=>by rw [e,edr7] at hdw;cases hdw
  have ndwda:dw≠da:=fun e=>by rw [e,eda7] at hdw;cases hdw
  have ndwds:dw≠ds:=fun e=>by rw [e,eds7] at hdw;cases hdw
  have ndwdg:dw≠dg:=fun e=>by rw [e,edg7] at hdw;cases hdw
  have hy7:upd H7 dw (.lst []) x=some (.ins (cc 9) dx f7):=by rw [qg ndw.symm];exact hx7
  ext
  refine .inl ⟨x,cc 9,dx,_,rfl,hy7,T.fcl,fa 6 (by decide),Nat.lt_of_le_of_lt l7 (by decide),?_⟩
  have c8:L2.Same H0 (upd (upd H7 dw (.lst [])) x (.ins (cc 9) dx (qI "waiting" (.ref dw) f7))):=qaH (qO c7 hdw) h0x
  have hx8:(upd (upd H7 dw (.lst [])) x (.ins (cc 9) dx (qI "waiting" (.ref dw) f7))) x=some (.ins (cc 9) dx (qI "waiting" (.ref dw) f7)):=qb
  have l8:(qI "waiting" (.ref dw) f7).length≤7:=hl l7
  have edw8:(upd (upd H7 dw (.lst [])) x (.ins (cc 9) dx (qI "waiting" (.ref dw) f7))) dw=some (.lst []):=by rw [qg ndw,qb]
  have edr8:(upd (upd H7 dw (.lst [])) x (.ins (cc 9) dx (qI "waiting" (.ref dw) f7))) dr=some (.dK []):=by rw [qg ndr,qg (Ne.symm ndwdr)];exact edr7
  have eda8:(upd (upd H7 dw (.lst [])) x (.ins (cc 9) dx (qI "waiting" (.ref dw) f7))) da=some (.dK []):=by rw [qg nda,qg (Ne.symm ndwda)];exact eda7
  have eds8:(upd (upd H7 dw (.lst [])) x (.ins (cc 9) dx (qI "waiting" (.ref dw) f7))) ds=some (.dK []):=by rw [qg nds,qg (Ne.symm ndwds)];exact eds7
  have edg8:(upd (upd H7 dw (.lst [])) x (.ins (cc 9) dx (qI "waiting" (.ref dw) f7))) dg=some (.lst []):=by rw [qg ndg,qg (Ne.symm ndwdg)];exact edg7
  generalize upd (upd H7 dw (.lst [])) x (.ins (cc 9) dx (qI "waiting" (.ref dw) f7))=H8 at c8 hx8 edr8 eda8 eds8 edg8 edw8 ⊢
  obtain ⟨f8,hf8⟩:∃ f,f=qI "waiting" (.ref dw) f7:=⟨_,rfl⟩
  rw [← hf8] at hx8 l8
  ext
  refine .inl ⟨x,cc 9,dx,_,rfl,hx8,T.fcl,fa 7 (by decide),Nat.lt_of_le_of_lt l8 (by decide),?_⟩
  have c9:L2.Same H0 (upd H8 x (.ins (cc 9) dx (qI "longer" .non f8))):=qaH c8 h0x
  have hx9:(upd H8 x (.ins (cc 9) dx (qI "longer" .non f8))) x=some (.ins (cc 9) dx (qI "longer" .non f8)):=qb
  have l9:(qI "longer" .non f8).length≤8:=hl l8
  have edr9:(upd H8 x (.ins (cc 9) dx (qI "longer" .non f8))) dr=some (.dK []):=by rw [qg ndr];exact edr8
  have eda9:(upd H8 x (.ins (cc 9) dx (qI "longer" .non f8))) da=some (.dK []):=by rw [qg nda];exact eda8
  have eds9:(upd H8 x (.ins (cc 9) dx (qI "longer" .non f8))) ds=some (.dK []):=by rw [qg nds];exact eds8
  have edg9:(upd H8 x (.ins (cc 9) dx (qI "longer" .non f8))) dg=some (.lst []):=by rw [qg ndg];exact edg8
  have edw9:(upd H8 x (.ins (cc 9) dx (qI "longer" .non f8))) dw=some (.lst []):=by rw [qg ndw];exact edw8
  generalize upd H8 x (.ins (cc 9) dx (qI "longer" .non f8))=H9 at c9 hx9 edr9 eda9 eds9 edg9 edw9 ⊢
  have hF:FoA (cc 9) cw H0 H9 ⟨x,b,dp,dr,da,ds,dg,dw,[]⟩ ss ns qs S0 [] [] [] .non:=by
   refine ⟨c9,?_,?_,fun c hc=>?_,?_,(fun c hc=>by cases hc),⟨dx,_,hx9,Nat.le_succ_of_le l9,fun _=>l9,fun f v hf=>?_,fun f hf=>?_⟩,⟨[],edr9,yh _,fun _=>rfl⟩,⟨[],eda9,⟨[],yh _,.nil,(fun u hu=>by cases hu)⟩,fun _=>rfl⟩,⟨[],eds9,yh _,(fun s hs=>by cases hs)⟩,⟨[],edg9,yh _⟩,edw9,.nil,fun v=>⟨(fun k=>by cases k),fun k=>absurd rfl k⟩,(fun v hv=>by cases hv)⟩
   ·rw [hH0];exact (keepW b2).out hx2 nbx
   ·rw [hH0];exact (zN ndp).trans hdp
   ·simp only [Fo.six,List.mem_cons,List.not_mem_nil,or_false] at hc
    rcases hc with rfl | rfl | rfl | rfl | rfl | rfl<;>assumption
   ·simp [ndadr.symm,ndsdr.symm,ndgdr.symm,ndwdr.symm,ndsda.symm,ndgda.symm,ndwda.symm,ndgds.symm,ndwds.symm,ndwdg.symm]
   ·simp only [Fo.tab,List.mem_cons,Prod.mk.injEq,List.not_mem_nil,or_false] at hf
    rw [hf8,hf7,hf6,hf5,hf4,hf3]
    rcases hf with ⟨rfl,rfl⟩ | ⟨rfl,rfl⟩ | ⟨rfl,rfl⟩ | ⟨rfl,rfl⟩ | ⟨rfl,rfl⟩ | ⟨rfl,rfl⟩ | ⟨rfl,rfl⟩ | ⟨rfl,rfl⟩<;>rfl
   ·rw [hf8,hf7,hf6,hf5,hf4,hf3]
    have no:∀ i,i < 8→f≠fAtt.getD i "":=fun i hi e=>hf (by rw [e,List.getD_eq_getElem?_getD,yb (show i < fAtt.length from hi)];exact List.getElem_mem _)
    exact lkn (no 7 (by decide)) (lkn (no 6 (by decide)) (lkn (no 5 (by decide)) (lkn (no 4 (by decide)) (lkn (no 3 (by decide)) (lkn (no 2 (by decide)) (lkn (no 1 (by decide)) (lkn (no 0 (by decide)) rfl)))))))
  ext
  obtain ⟨dx',fs,hx1',_,_,_,hx2'⟩:=id hF.obj
  refine ⟨x,dx',fs,rfl,hx1',hx2' _ (by decide +kernel),?_⟩
  ext
  refine ⟨H0,_,ss,ns,qs,B,rfl,hF,hWb,hnm,hbs,fun HA S dn wt lo hD bxA=>?_⟩
  refine q H0 HA _ S dn wt lo rfl rfl hD fun c o e=>?_
  have hc:c≠x:=fun z=>by rw [z] at e;unfold qet at e;rw [if_pos rfl] at e;cases e
  rw [zN hc] at e
  rw [hH0,zN hc]
  exact b2 _ _ hc e
inductive spFr (cc:Nat→Addr) (cw:Addr) (vs:List V) (H:Hp) (Q:VK) (E:XK):Prop|mk (H0:Hp) (a:Fo) (ss:List Str) (ns:List Nat) (qs:List (Str×Str)) (S:FS) (dn wt:List Str) (lo:V) (A:Str→Str→Prop) (_:vs=[.ref a.x]) (_:FoD (cc 9) cw H0 H a ss ns qs S dn wt lo A) (_:(lo=.non→Q .non H)) (_:∀ (t:Addr) (r:List Str),lo=.ref t→H t=some (.lst (r.map V.str))→Aug A (pt qs) r→∀ l,H l=none→Q (.ref l) (upd H l (.lst (r.map V.str))))
inductive spFd2 (cc:Nat→Addr) (cw:Addr) (vs:List V) (H:Hp) (Q:VK) (E:XK):Prop|mk (H0:Hp) (a:Fo) (ss:List Str) (ns:List Nat) (qs:List (Str×Str)) (S:FS) (dn wt:List Str) (lo:V) (A:Str→Str→Prop) (_:vs=[.ref a.x]) (_:FoD (cc 9) cw H0 H a ss ns qs S dn wt lo A) (_:ss.length≤14) (_:(lo≠.non→Q .non H)) (_:(lo=.non→∀ (l:Addr) (H':Hp),L2.Same H H'→H l=none→H' l=some (.lst ((ss.filter fun s=>(S.rows s).isSome).map V.str))→Q (.ref l) H'))
theorem ok_fr (F:Fun K "row" "Forest.row" jP f fd) (T:Txt K mg cc cw):FnOk P w K mg base CX0 1 f fd ["self"] (spFr cc cw):=by
 refine F.ok sc_Forest_row fun _ _ _ _ H vs Q E hr h=>?_
 ·obtain ⟨H0,a,ss,ns,qs,S,dn,wt,lo,B,rfl,hD,q1,q2⟩:=h
  refine ⟨_,(qf (qm (pe_ifExp (qo qe5 (qD (K:=K) rfl (pv 0) rfl) zD (qB _)) zD (zl (qa2 (K:=K) rfl rfl) rfl T.b_list boot_list (qa (qD (K:=K) rfl (pv 0) rfl) qe))))),?_⟩
  ext
  refine .inl (hD.fo.obj.rd T 7 rfl ?_)
  ext
  rcases hD.en with ⟨rfl,_⟩ | ⟨t,r,rfl,et,nt,hA,_⟩
  ·refine ⟨_,rfl,zv ?_⟩
   ext
   exact q1 rfl
  ·refine ⟨_,rfl,qU (fun h=>by cases h) fun _=>?_⟩
   ext
   refine .inl (hD.fo.obj.rd T 7 rfl ?_)
   ext
   exact .inl ⟨t,_,rfl,.inl (.of et),q2 t r rfl et hA⟩
theorem ok_fd2 (F:Fun K "reached" "Forest.reached" qS f fd) (T:Txt K mg cc cw) (D_Web_places:MethOk P w K mg base CX0 1 cw "places" ["self"] (spPls cw)):FnOk P w K mg base CX0 2 f fd ["self"] (spFd2 cc cw):=by
 refine F.ok sc_Forest_reached fun _ _ _ s H vs Q E hr h=>?_
 ·obtain ⟨H0,a,ss,ns,qs,S,dn,wt,lo,B,rfl,hD,h14,q1,q2⟩:=h
  have hu:=j8 hr
  refine ⟨_,(qc (qV (qo qcj (qD (K:=K) rfl (pv 0) rfl) zD (qB _)) (qf (qm zD)) qu)
 (qf (qm (ju (sc:=qd qS) (XN:=["self"]) ["place", "self"] 1 [0] rfl rfl rfl (by decide +kernel) rfl (by decide +kernel)
  (qT (K:=K) rfl (jm D_Web_places (hmR hr) (qD (K:=K) rfl (pv 0) rfl))) (fun _ _ _ _=>(qq (i:=0) (show (["place", "self"]:List Str).Nodup by decide +kernel) rfl (Or.inl rfl))) qY
  (fun _ _ _ _=>(jy (qo (zQ (K:=K) rfl hu) (pv 0) (qD (K:=K) rfl (pv 1) rfl) (by with_unfolding_all rfl))))
  (fun _ _ _ _=>(pv 0)))))),?_⟩
  have h:=hD.fo
  ext
  refine .inl (h.obj.rd T 7 rfl ?_)
  ext
  rcases hD.en with ⟨rfl,_⟩ | ⟨t,r,rfl,_⟩
  ·refine ⟨rfl,_,rfl,qU (fun h=>by simp at h) fun _=>?_⟩
   have hWt:=h.web.same h.sm
   obtain ⟨wx,dd,ol,nn,hb,_⟩:=id hWt
   ext
   refine .inl (h.obj.rd T 0 rfl ?_)
   refine ⟨a.b,wx,_,rfl,hb,zq (by decide +kernel),?_⟩
   ext
   refine ⟨a.b,ss,ns,rfl,hWt,fun pl hpl=>?_⟩
   have s1:=qO (Sr H) (o:=.lst (ss.map V.str)) hpl
   have e1:upd H pl (.lst (ss.map V.str)) pl=some (.lst (ss.map V.str)):=qb
   generalize upd H pl (.lst (ss.map V.str))=H1 at s1 e1
   have h1:=h.same s1
   obtain ⟨kr,r1,r2,r3⟩:=h1.row
   refine .inl ⟨⟨_,.of e1⟩,qJ (xs:=ss.map V.str) (fun i ys J=>J=H1∧ys=((ss.take i).filter fun s=>(S.rows s).isSome).map V.str) ⟨rfl,rfl⟩ (fun i ys J _ hp=>by rw [hp.1];exact .of e1) (fun i y ys J hy hp=>?_) fun ys J hp=>?_⟩
   ·obtain ⟨rfl,rfl⟩:=hp
    rw [yd] at hy
    obtain ⟨z,hz,rfl⟩:=yn.mp hy
    have hil:=(yc.mp hz).1
    have hfl:=List.length_filter_le (fun s=>(S.rows s).isSome) (ss.take i)
    rw [List.length_take] at hfl
    have estep:(ss.take (i + 1)).filter (fun s=>(S.rows s).isSome)=(ss.take i).filter (fun s=>(S.rows s).isSome)++(if (S.rows z).isSome=true then [z] else []):=by
     rw [List.take_add_one,hz,List.filter_append]
     show _++[z].filter _=_
     rw [List.filter_cons,List.filter_nil]
    ext
    refine .inl (h1.obj.rd T 2 rfl ?_)
    refine .inr (.inl ⟨a.dr,_,rfl,DGet.k (k:=Sum.inr z) r1,?_⟩)
    have hrz:=r3 z
    have esm:(j9 kr (.inr z:Key)).isSome=(S.rows z).isSome:=by
     cases e:S.rows z with
     | none=>rw [e] at hrz;rw [show j9 kr (.inr z:Key)=none from hrz];rfl
     | some r=>rw [e] at hrz;obtain ⟨t,k,_⟩:=hrz;rw [k];rfl
    rw [if_neg (by decide),esm,estep]
    refine ⟨_,rfl,?_⟩
    cases (S.rows z).isSome with
    | true =>
     refine zv ?_
     rw [if_pos rfl]
     ext
     exact ⟨by rw [ya];exact qh (by omega),rfl,by rw [List.map_append];rfl⟩
    | false =>
     refine yq ?_
     rw [if_neg (by decide),List.append_nil]
     exact ⟨rfl,rfl⟩
   ·obtain ⟨rfl,rfl⟩:=hp
    rw [show (ss.map V.str).length=ss.length from ya _,List.take_length]
    have hfl:=List.length_filter_le (fun s=>(S.rows s).isSome) ss
    refine ⟨by rw [ya];exact Nat.le_of_lt (qh (by omega)),fun l hl=>?_⟩
    exact q2 rfl l _ (qO s1 hl) (s1.free hl) qb
  ·refine ⟨rfl,_,rfl,zv ?_⟩
   ext
   exact q1 (fun e=>by cases e)
theorem sc_told_pairs:FnScope ["web", "pairs", "partners"] ["web", "pairs"] (qd jw):=fS
theorem sc_are_unlike_places:FnScope ["web", "thing", "seen", "place"] ["web", "thing"] (qd qN):=fS
theorem qbB (a b:Str):eqV (.str a) (.str b)=decide (a=b):=by
 unfold eqV
 by_cases h:a=b<;>simp [h]
theorem qeU {K:W.Frag} {H:Hp} {i j:Str} {Q:VK} (q:Q (.bl (decide (i=j))) H):qe7 K (.str i) (.str j) H Q:=.inl (.inl (.inl ⟨rfl,rfl,by rw [if_neg (by decide),qbB];exact q⟩))
theorem qfL {K:W.Frag} {H:Hp} {i j:Str} {Q:VK} (q:Q (.bl (!decide (i=j))) H):qep K true (.str i) (.str j) H Q:=.inl ⟨rfl,rfl,by rw [if_pos rfl,qbB];exact q⟩
def qa9 (dps qs:List (Str×Str)):List (Str×Str):=dps.filter fun q=>decide (pt qs q.1=some q.2)
inductive spTp (cw:Addr) (vs:List V) (H:Hp) (Q:VK) (E:XK):Prop|mk (x l:Addr) (ss:List Str) (ns:List Nat) (us:List Addr) (tps qs:List (Str×Str)) (_:vs=[.ref x,.ref l]) (_:WebAt cw H x ss ns) (_:Adj ss ns tps) (_:PL H l us qs) (_:PGo ss tps qs) (_:∀ (l:Addr) (ls:List Addr) (H':Hp),L2.Same H H'→H l=none→H' l=some (.lst (ls.map V.ref))→ls.length≤196→All2 (PrAt H H' l) ls (qa9 (qR ss ns ss.length) qs)→Q (.ref l) H')
def stp (rs:List Str):List (Str×Str):=rs.zip rs.tail
def prB (qs:List (Str×Str)) (ab:Str×Str):Bool:=decide (pt qs ab.1=some ab.2)
theorem stp_at {rs:List Str} {j:Nat} {ab:Str×Str}:(stp rs)[j]?=some ab↔rs[j]?=some ab.1∧rs[j + 1]?=some ab.2:=by
 unfold stp
 rw [List.getElem?_zip_eq_some,List.getElem?_tail]
theorem qap (rs:List Str):(stp rs).length=rs.length - 1:=by unfold stp;rw [List.length_zip,List.length_tail];omega
structure RowG (ss:List Str) (tps qs:List (Str×Str)) (rs:List Str):Prop where
 nd:rs.Nodup
 two:2≤rs.length
 few:rs.length≤1000
 inn:∀ r∈rs,r∈ss
 tie:∀ (j:Nat) ab,(stp rs)[j]?=some ab→(ab∈tps∨(ab.2,ab.1)∈tps)∧prB qs ab=decide (j % 2=1)
 hd:∀ s,rs[0]?=some s→pt qs s=none
 tl:∀ s,rs[rs.length - 1]?=some s→pt qs s=none
structure Rw (cw:Addr) (H:Hp) (x l a:Addr) (ss:List Str) (ns:List Nat) (us:List Addr) (tps qs:List (Str×Str)) (rs:List Str):Prop where
 web:WebAt cw H x ss ns
 adj:Adj ss ns tps
 prs:PL H l us qs
 pgo:PGo ss tps qs
 row:H a=some (.lst (rs.map V.str))
 rok:RowG ss tps qs rs
theorem Rw.same {cw:Addr} {H H':Hp} {x l a:Addr} {ss:List Str} {ns:List Nat} {us:List Addr} {tps qs:List (Str×Str)} {rs:List Str} (h:Rw cw H x l a ss ns us tps qs rs) (s:L2.Same H H'):Rw cw H' x l a ss ns us tps qs rs:=
 ⟨h.web.same s,h.adj,h.prs.same s,h.pgo,s _ _ h.row,h.rok⟩
inductive spUl (cw:Addr) (vs:List V) (H:Hp) (Q:VK) (E:XK):Prop|mk (x a:Addr) (ss:List Str) (ns:List Nat) (rs:List Str) (_:vs=[.ref x,.ref a]) (_:WebAt cw H x ss ns) (_:H a=some (.lst (rs.map V.str))) (_:rs.Nodup) (_:rs.length≤1000) (_:(∀ r∈rs,r∈ss)) (_:∀ H',L2.Same H H'→Q (.bl true) H')
inductive spGt (cw:Addr) (vs:List V) (H:Hp) (Q:VK) (E:XK):Prop|mk (x l d a:Addr) (ss:List Str) (ns:List Nat) (us:List Addr) (tps qs:List (Str×Str)) (rs:List Str) (_:vs=[.ref x,.ref d,.ref a]) (_:Rw cw H x l a ss ns us tps qs rs) (_:H d=some (.dK (prK qs))) (_:∀ H',L2.Same H H'→Q (.bl true) H')
inductive spIr (cw:Addr) (vs:List V) (H:Hp) (Q:VK) (E:XK):Prop|mk (x l a:Addr) (ss:List Str) (ns:List Nat) (us:List Addr) (tps qs:List (Str×Str)) (rs:List Str) (_:vs=[.ref x,.ref l,.ref a]) (_:Rw cw H x l a ss ns us tps qs rs) (_:∀ H',L2.Same H H'→Q (.bl true) H')
theorem qeu {H:Hp} {qs:List (Str×Str)} {s t:Str} {Q:VK} (q:Q (.bl (decide (pt qs s=some t))) H):qe7 K (((pt qs s).map V.str).getD .non) (.str t) H Q:=by
 cases e:pt qs s with
 | none=>rw [e] at q;exact .inl (.inl (.inl ⟨rfl,rfl,q⟩))
 | some u =>
  refine qeU ?_
  rw [e] at q
  rwa [show decide (u=t)=decide (some u=some t) from decide_eq_decide.mpr ⟨congrArg some,ym⟩]
theorem ok_tp (F:Fun K "told_pairs" "told_pairs" jw f fd) (T:Txt K mg cc cw) (D_partners_in:DefOk P w K mg base CX0 9 "partners_in" ["web", "pairs"] (spPn cw)) (D_Web_ties:MethOk P w K mg base CX0 7 cw "ties" ["self"] (spTs cw)):FnOk P w K mg base CX0 10 f fd ["web", "pairs"] (spTp cw):=by
 refine F.ok sc_told_pairs fun _ _ _ _ H vs Q E hr h=>?_
 ·obtain ⟨x,pl,ss,ns,ps,tps,qs,rfl,hW,hA,hP,hG,q⟩:=h
  have hu:=j8 hr
  obtain ⟨wx,dd,ol,nn,hb,_⟩:=id hW
  refine ⟨_,(qc (qr (i:=2) sc_told_pairs.nd rfl (Or.inr rfl) (qp D_partners_in (hmR hr) qC (qa (pv 0) (qa (pv 1) qe))))
 (qf (qm (ju (sc:=qd jw) (XN:=["web", "pairs", "partners"]) ["tie", "partners"] 1 [2] rfl rfl rfl (by decide +kernel) rfl (by decide +kernel)
  (qT (K:=K) rfl (jm D_Web_ties (hmR hr) (pv 0))) (fun _ _ _ _=>(qq (i:=0) (show (["tie", "partners"]:List Str).Nodup by decide +kernel) rfl (Or.inl rfl))) qY
  (fun _ _ _ _=>(jy (qo (qaj (K:=K) rfl hu) (qat (qeQ hu) (pv 1) (qx (qy (K:=K) rfl hu) (pv 0) qi (fun _ _=>rfl)) ⟨rfl,rfl,rfl,rfl⟩) (qx (qy (K:=K) rfl hu) (pv 0) qi (fun _ _=>rfl)) (qB _))))
  (fun _ _ _ _=>(pv 0)))))),?_⟩
  ext
  refine ⟨x,pl,ss,ns,ps,tps,qs,rfl,hW,hA,hP,hG,fun d H1 s1 hd0 hd=>?_⟩
  ext
  refine ⟨x,wx,_,rfl,s1 _ _ hb,zq (by decide +kernel),?_⟩
  ext
  refine ⟨x,ss,ns,rfl,hW.same s1,fun l ts H2 s2 hl0 hl hl196 hAl=>?_⟩
  have hd2:=s2 _ _ hd
  have s02:=s1.trans s2
  refine .inl ⟨⟨_,.of hl⟩,qJ (xs:=ts.map V.ref) (fun i ys G=>G=H2∧∃ us:List Addr,ys=us.map V.ref∧us.length≤i∧All2 (fun t ab=>H1 t=none∧H2 t=some (.tup [.str ab.1,.str ab.2])) us (qa9 ((qR ss ns ss.length).take i) qs)) ⟨rfl,[],rfl,yh _,.nil⟩ (fun i ys G _ hp'=>by rw [hp'.1];exact .of hl) (fun i y ys G hy hp'=>?_) fun ys G hp'=>?_⟩
  ·obtain ⟨rfl,us,rfl,hul,hU⟩:=hp'
   rw [yd] at hy
   obtain ⟨t,ht,rfl⟩:=yn.mp hy
   have hi:i < ts.length:=(yc.mp ht).1
   obtain ⟨ab,hab⟩:∃ ab,(qR ss ns ss.length)[i]?=some ab:=⟨_,yb (by rw [← hAl.len];exact hi)⟩
   obtain ⟨z1,z2,z3⟩:=hAl.at_ i t ab ht hab
   have hstep:qa9 ((qR ss ns ss.length).take (i + 1)) qs=qa9 ((qR ss ns ss.length).take i) qs++(if pt qs ab.1=some ab.2 then [ab] else []):=by
    unfold qa9
    rw [List.take_add_one,hab,List.filter_append]
    show _++[ab].filter _=_
    rw [List.filter_cons]
    simp only [decide_eq_true_eq,List.filter_nil]
   ext
   refine qb7 ?_
   ext
   refine ⟨d,rfl,.inl ⟨_,.inl hd2⟩,?_⟩
   ext
   refine .inl (qaK z3 (v:=.str ab.1) (qz (j:=0) rfl) ?_)
   refine ⟨_,DGet.k (k:=Sum.inr ab.1) hd2,?_⟩
   rw [jW]
   ext
   refine .inl (qaK z3 (v:=.str ab.2) (qz (j:=1) rfl) ?_)
   refine qeu ?_
   ext
   rw [hstep]
   refine qU (fun ho=>?_) (fun ho=>?_)
   ·rw [if_pos (yk ho)]
    ext
    exact ⟨by rw [ya];exact qh (by omega),rfl,us++[t],by rw [List.map_append];rfl,by rw [List.length_append];simp;omega,hU.snoc ⟨z1,z3⟩⟩
   ·rw [if_neg (fun e=>ho (decide_eq_true e)),List.append_nil]
    exact ⟨rfl,us,rfl,by omega,hU⟩
  ·obtain ⟨rfl,us,rfl,hul,hU⟩:=hp'
   have e:(ts.map V.ref).length=(qR ss ns ss.length).length:=by rw [ya,hAl.len]
   rw [e,List.take_length] at hU
   rw [ya] at hul
   refine ⟨by rw [ya];exact Nat.le_of_lt (qh (by omega)),fun g hg=>?_⟩
   have s3:=qO s02 (o:=.lst (us.map V.ref)) hg
   exact q g us _ s3 (s02.free hg) qb (by omega) (hU.mono fun t ab z=>⟨s1.free z.1,(fun e=>by rw [e,hg] at z;cases z.2),by rw [qg (fun e=>by rw [e,hg] at z;cases z.2)];exact z.2⟩)
theorem ok_ul (F:Fun K "are_unlike_places" "are_unlike_places" qN f fd) (T:Txt K mg cc cw) (D_Web_has_place:MethOk P w K mg base CX0 3 cw "has_place" ["self", "thing"] (spHas cw)):FnOk P w K mg base CX0 4 f fd ["web", "thing"] (spUl cw):=by
 refine F.ok sc_are_unlike_places fun _ _ _ _ H vs Q E hr h=>?_
 ·obtain ⟨x,a,ss,ns,rs,rfl,hW,ha,hnd,hl,hin,q⟩:=h
  have hu:=j8 hr
  refine ⟨_,(qc (qV (js (jg (qw (qcL (K:=K) rfl) rfl T.b_isinstance boot_isinstance (qa (pv 1) (qa (zB (v:=.ty "list") rfl T.b_list boot_list rfl) qe))))) (qf (qm j5)) qu)
 (qc (qr (i:=2) sc_are_unlike_places.nd rfl (Or.inl rfl) zx)
 (qc (jL PassesOwn.never rfl (qT (K:=K) rfl (pv 1)) (qq (i:=3) sc_are_unlike_places.nd rfl (Or.inl rfl))
 (qc (qV (PW.pt (qaT (js (jg (qH D_Web_has_place (hmR hr) (pv 0) (qa (pv 3) qe)))) (qaq (qo (zQ (K:=K) rfl hu) (pv 3) (pv 2) (by with_unfolding_all rfl))))) (qf (qm j5)) qu)
 (qf (j7 j5 (zi (pv 2) (pv 3) (zn hu))))))
 (qf (qm j5))))),?_⟩
  ext
  refine qdR (.inl (.lst ha)) rfl (qbw K "list" (by simp) "list" (by simp)) ?_
  ext
  refine yq ?_
  ext
  intro d hd
  have s1:=qO (Sr H) (o:=.dK []) hd
  have ed:upd H d (.dK []) d=some (.dK (qbz [])):=qb
  generalize upd H d (.dK [])=H1 at s1 ed
  obtain ⟨wx,dd,ol,nn,hb,_⟩:=id hW
  ext
  refine .inl ⟨⟨_,.of (s1 _ _ ha)⟩,jf (xs:=rs.map V.str) (fun i σ J=>L2.Same H J∧∃ y3,σ=[some (.ref x),some (.ref a),some (.ref d),y3]∧J d=some (.dK (qbz (rs.take i)))) ⟨s1,_,rfl,ed⟩ (fun i σ J _ hp=>.of (hp.1 _ _ ha)) (fun i y σ J hy hp=>?_) fun σ J hp=>?_⟩
  ·obtain ⟨sJ,y3,rfl,edJ⟩:=hp
   rw [yd] at hy
   obtain ⟨z,hz,rfl⟩:=yn.mp hy
   have hil:i < rs.length:=(yc.mp hz).1
   have htk:rs.take (i + 1)=rs.take i++[z]:=by rw [List.take_add_one,hz];rfl
   have hm:z∉rs.take i:=fun y=>by
    have h3:(rs.take (i + 1)).Nodup:=hnd.sublist (List.take_sublist _ _)
    rw [htk] at h3
    exact (List.nodup_append.mp h3).2.2 _ y z (by simp) rfl
   ext
   refine ⟨x,wx,_,rfl,sJ _ _ hb,zq (by decide +kernel),?_⟩
   ext
   refine ⟨x,ss,ns,z,rfl,hW.same sJ,hin z (ye hz),fun J2 s2=>?_⟩
   ext
   refine yq ?_
   ext
   refine .inr (.inl ⟨d,_,rfl,DGet.k (k:=Sum.inr z) (s2 _ _ edJ),?_⟩)
   rw [if_neg (by decide),zR,yl hm]
   ext
   refine yq ?_
   ext
   refine .inr ⟨d,_,rfl,DPut.k (k:=Sum.inr z) (s2 _ _ edJ) (qh (by unfold qbz;rw [ya,List.length_take];omega)),?_⟩
   refine ⟨qaH (sJ.trans s2) hd,_,rfl,?_⟩
   rw [qb,qbA hm,htk]
  ·obtain ⟨sJ,y3,rfl,edJ⟩:=hp
   ext
   exact q J sJ
theorem sc_is_row:FnScope ["web", "pairs", "thing", "partners"] ["web", "pairs", "thing"] (qd qac):=fS
theorem sc_goes_by_turns:FnScope ["web", "partners", "names", "steps", "paired"] ["web", "partners", "names"] (qd qK):=fS
theorem sc_can_turn:FnScope ["web", "pairs", "thing", "partners", "first", "last"] ["web", "pairs", "thing"] (qd zf):=fS
theorem qaA (rs:List V):qcD rs (some 1) none=rs.tail:=by
 have:=qb6 rs 1
 rwa [List.drop_one] at this
theorem qeV:∀ {bs:List Bool},(∀ b∈bs,b=true)→bs.all id=true:=fun h=>List.all_eq_true.mpr h
theorem qdz {H H':Hp} {l:Addr} {ts:List Addr} {xs ys:List Str} {qs:List (Str×Str)} (Z:Zl H H' l ts (xs.map V.str) (ys.map V.str)) (hl:qs.length=min xs.length ys.length) (h:∀ (j:Nat) q,qs[j]?=some q→xs[j]?=some q.1∧ys[j]?=some q.2):All2 (fun t ab=>H' t=some (.tup [.str ab.1,.str ab.2])) ts qs:=by
 refine ⟨by rw [Z.len,ya,ya,hl],fun j t ab ht hab=>?_⟩
 obtain ⟨e1,e2⟩:=h j ab hab
 obtain ⟨_,u,v,hu',hv',e⟩:=Z.tp j t ht
 rw [yd,e1] at hu'
 rw [yd,e2] at hv'
 cases hu'
 cases hv'
 exact e
theorem atI_back {α:Type} {xs:List α} {j:Nat} {v:α} (h0:1≤j) (h1:j≤xs.length) (h:xs[xs.length - j]?=some v):atI xs (-(j:Int))=some v:=by
 have e:ixN xs.length (-(j:Int))=some (xs.length - j):=by
  unfold ixN
  rw [if_neg (by omega),if_pos (by omega)]
  congr 1
  omega
 unfold atI
 rw [e]
 exact h
theorem ok_gt (F:Fun K "goes_by_turns" "goes_by_turns" qK f fd) (T:Txt K mg cc cw) (D_Web_has_tie:MethOk P w K mg base CX0 7 cw "has_tie" ["self", "thing"] (spHt cw)):FnOk P w K mg base CX0 8 f fd ["web", "partners", "names"] (spGt cw):=by
 refine F.ok sc_goes_by_turns fun _ _ _ _ H vs Q E hr h=>?_
 ·obtain ⟨x,l,d,a,ss,ns,us,tps,qs,rs,rfl,R,hd,q⟩:=h
  have hu:=j8 hr
  obtain ⟨wx,dd,ol,nn,hb,_⟩:=id R.web
  have ha:=R.row
  have RG:=R.rok
  have hl:=RG.few
  refine ⟨_,(qc (qr (i:=3) sc_goes_by_turns.nd rfl (Or.inl rfl) (qcq (K:=K) rfl rfl rfl rfl T.b_list T.b_zip (qa (pv 2) (qa (jR (qdp (K:=K) rfl) (pv 2) (jQ qi) zm) qe))))
 (qc (qV (js (jg (qw (qeo (K:=K) rfl rfl) rfl T.b_all boot_all (qa (ju (sc:=qd qK) (XN:=["web", "partners", "names", "steps", "paired"]) ["step", "web"] 1 [0] rfl rfl rfl (by decide +kernel) rfl (by decide +kernel)
  (qT (K:=K) rfl (pv 3)) (fun _ _ _ _=>(qq (i:=0) (show (["step", "web"]:List Str).Nodup by decide +kernel) rfl (Or.inl rfl))) qY
  (fun _ _ _ _=>jS)
  (fun _ _ _ _=>(qH D_Web_has_tie (hmR hr) (pv 1) (qa (pv 0) qe)))) qe)))) (qf (qm j5)) qu)
 (qc (qam (sc:=qd qK) (XN:=["web", "partners", "names", "steps", "paired"]) ["step", "partners"] 1 [1] rfl rfl rfl (by decide +kernel) rfl (by decide +kernel) (i:=4) sc_goes_by_turns.nd rfl rfl
  (qT (K:=K) rfl (pv 3)) (fun _ _ _ _=>(qq (i:=0) (show (["step", "partners"]:List Str).Nodup by decide +kernel) rfl (Or.inl rfl))) qY
  (fun _ _ _ _=>jS)
  (fun _ _ _ _=>(jt (qaj (K:=K) rfl hu) (qat (qeQ hu) (pv 1) (qx (qy (K:=K) rfl hu) (pv 0) qi (fun _ _=>rfl)) ⟨rfl,rfl,rfl,rfl⟩) (qx (qy (K:=K) rfl hu) (pv 0) qi (fun _ _=>rfl)) (qB _))))
 (qf (qm (qw (qeo (K:=K) rfl rfl) rfl T.b_all boot_all (qa (ju (sc:=qd qK) (XN:=["web", "partners", "names", "steps", "paired"]) ["one", "other"] 2 [] rfl rfl rfl (by decide +kernel) rfl (by decide +kernel)
  (pi_zip (K:=K) rfl rfl T.b_zip (qa (pv 4) (qa (jR (qdp (K:=K) rfl) (pv 4) (jQ qi) zm) qe))) (fun _ _ _ _=>(qbI (n:=2) rfl (jZ (qq (i:=0) (show (["one", "other"]:List Str).Nodup by decide +kernel) rfl (Or.inl rfl)) (jZ (qq (i:=1) (show (["one", "other"]:List Str).Nodup by decide +kernel) rfl (Or.inl rfl)) qaU)))) qd8
  (fun _ _ _ _=>jS)
  (fun _ _ _ _=>(jt (qan (K:=K) rfl hu) (pv 0) (pv 1) (qB _)))) qe))))))),?_⟩
  ext
  refine vLZ ?_
  ext
  refine .inl ⟨a,_,rfl,SqL.of ha,fun c hc=>?_⟩
  rw [qaA,← List.map_tail]
  have s1:=qO (Sr H) (o:=.lst (rs.tail.map V.str)) hc
  have hc1:upd H c (.lst (rs.tail.map V.str)) c=some (.lst (rs.tail.map V.str)):=qb
  generalize upd H c (.lst (rs.tail.map V.str))=H1 at s1 hc1
  ext
  refine ⟨a,c,_,_,rfl,SqL.of (s1 _ _ ha),SqL.of hc1,by rw [ya];exact hl,fun l ts H2 Z=>?_⟩
  have s02:=s1.trans Z.sm
  have hll:(stp rs).length≤1000:=by rw [qap];omega
  have hAl:=qdz (qs:=stp rs) Z (by rw [qap,List.length_tail];omega) fun j q e=>by
   obtain ⟨z1,z2⟩:=stp_at.mp e
   exact ⟨z1,by rw [List.getElem?_tail];exact z2⟩
  have tl:=hAl.len
  have hls:=Z.ls
  have stn:∀ {i:Nat} {y:V},(ts.map V.ref)[i]?=some y→∃ t ab,y=.ref t∧(stp rs)[i]?=some ab∧H2 t=some (.tup [.str ab.1,.str ab.2]):=fun {i y} hy=>by
   rw [yd] at hy
   obtain ⟨t,ht,rfl⟩:=yn.mp hy
   obtain ⟨ab,hab⟩:∃ ab,(stp rs)[i]?=some ab:=⟨_,yb (by rw [← tl];exact (yc.mp ht).1)⟩
   exact ⟨t,ab,rfl,hab,hAl.at_ i t ab ht hab⟩
  ext
  refine .inl ⟨⟨_,.of hls⟩,qJ (xs:=ts.map V.ref) (fun i ys G=>L2.Same H2 G∧ys=(((stp rs).take i).map fun _=>true).map V.bl) ⟨L2.Same.refl H2,rfl⟩ (fun i ys G _ hp'=>.of (hp'.1 _ _ hls)) (fun i y ys G hy hp'=>?_) fun ys G hp'=>?_⟩
  ·obtain ⟨sG,rfl⟩:=hp'
   obtain ⟨t,ab,rfl,hab,et⟩:=stn hy
   obtain ⟨e1,e2⟩:=stp_at.mp hab
   ext
   refine zv ?_
   ext
   refine ⟨x,wx,_,rfl,(s02.trans sG) _ _ hb,zq (by decide +kernel),?_⟩
   ext
   refine ⟨x,t,ss,ns,tps,ab,rfl,R.web.same (s02.trans sG),R.adj,sG _ _ et,(RG.tie i ab hab).1,RG.inn _ (ye e1),RG.inn _ (ye e2),fun z=>?_,fun G2 sG2=>?_⟩
   ·rw [← z] at e2;exact absurd (qv RG.nd e1 e2) (by omega)
   ·refine ⟨by rw [ya,ya,List.length_take];exact qh (by omega),sG.trans sG2,?_⟩
    rw [List.take_add_one,hab,List.map_append,List.map_append]
    rfl
  ·obtain ⟨sG,rfl⟩:=hp'
   rw [show (ts.map V.ref).length=(stp rs).length by rw [ya,tl],List.take_length]
   refine ⟨by rw [ya,ya];exact Nat.le_of_lt (qh (by omega)),fun g hg=>?_⟩
   have s3:=qO sG (o:=.lst (((stp rs).map fun _=>true).map V.bl)) hg
   have eg:upd G g (.lst (((stp rs).map fun _=>true).map V.bl)) g=some (.lst (((stp rs).map fun _=>true).map V.bl)):=qb
   generalize upd G g (.lst (((stp rs).map fun _=>true).map V.bl))=G3 at s3 eg
   ext
   refine ⟨g,_,rfl,SqL.of eg,_,rfl,?_⟩
   rw [qeV (fun b hb=>by obtain ⟨_,_,rfl⟩:=List.mem_map.mp hb;rfl)]
   have s03:=s02.trans s3
   refine yq ?_
   have hls3:=s3 _ _ hls
   have hd3:=s03 _ _ hd
   ext
   refine .inl ⟨⟨_,.of hls3⟩,qJ (xs:=ts.map V.ref) (fun i ys G=>G=G3∧ys=(((stp rs).take i).map (prB qs)).map V.bl) ⟨rfl,rfl⟩ (fun i ys G _ hp'=>by rw [hp'.1];exact .of hls3) (fun i y ys G hy hp'=>?_) fun ys G hp'=>?_⟩
   ·obtain ⟨rfl,rfl⟩:=hp'
    obtain ⟨t,ab,rfl,hab,et⟩:=stn hy
    have et:=s3 _ _ et
    ext
    refine zv ?_
    ext
    refine qb7 ?_
    ext
    refine ⟨d,rfl,.inl ⟨_,.inl hd3⟩,?_⟩
    ext
    refine .inl (qaK et (v:=.str ab.1) (qz (j:=0) rfl) ?_)
    refine ⟨_,DGet.k (k:=Sum.inr ab.1) hd3,?_⟩
    rw [jW]
    ext
    refine .inl (qaK et (v:=.str ab.2) (qz (j:=1) rfl) ?_)
    refine qeu ?_
    refine ⟨by rw [ya,ya,List.length_take];exact qh (by omega),rfl,?_⟩
    rw [List.take_add_one,hab,List.map_append,List.map_append]
    rfl
   ·obtain ⟨rfl,rfl⟩:=hp'
    rw [show (ts.map V.ref).length=(stp rs).length by rw [ya,tl],List.take_length]
    refine ⟨by rw [ya,ya];exact Nat.le_of_lt (qh (by omega)),fun b hb9=>?_⟩
    obtain ⟨bs,hbs⟩:∃ bs,bs=(stp rs).map (prB qs):=⟨_,rfl⟩
    rw [← hbs]
    have hbl:bs.length≤1000:=by rw [hbs,ya];exact hll
    have hbd:∀ (i:Nat) b,bs[i]?=some b→b=decide (i % 2=1):=fun i b e=>by
     rw [hbs,yd] at e
     obtain ⟨ab,hab,rfl⟩:=yn.mp e
     exact (RG.tie i ab hab).2
    have s4:=qO s03 (o:=.lst (bs.map V.bl)) hb9
    have eb:upd G b (.lst (bs.map V.bl)) b=some (.lst (bs.map V.bl)):=qb
    generalize upd G b (.lst (bs.map V.bl))=G4 at s4 eb
    ext
    refine vZip ?_
    ext
    refine .inl ⟨b,_,rfl,SqL.of eb,fun c2 hc2=>?_⟩
    rw [qaA,← List.map_tail]
    have s5:=qO s4 (o:=.lst (bs.tail.map V.bl)) hc2
    have eb5:=qO (Sr G4) (o:=.lst (bs.tail.map V.bl)) hc2 _ _ eb
    have ec5:upd G4 c2 (.lst (bs.tail.map V.bl)) c2=some (.lst (bs.tail.map V.bl)):=qb
    generalize upd G4 c2 (.lst (bs.tail.map V.bl))=G5 at s5 eb5 ec5
    ext
    refine ⟨b,c2,_,_,rfl,SqL.of eb5,SqL.of ec5,comp_zip (xs:=bs.map V.bl) (ys:=bs.tail.map V.bl) (by simp) (fun i zs J=>L2.Same G5 J∧zs=(List.replicate i true).map V.bl) ⟨L2.Same.refl G5,rfl⟩ (fun i zs J _ hp'=>⟨SqL.of (hp'.1 _ _ eb5),SqL.of (hp'.1 _ _ ec5)⟩) (fun i u v t zs J hu1 hv1 ht hp'=>?_) fun zs J hp'=>?_⟩
    ·obtain ⟨sJ,rfl⟩:=hp'
     rw [yd] at hu1 hv1
     obtain ⟨u,hu2,rfl⟩:=yn.mp hu1
     obtain ⟨v,hv2,rfl⟩:=yn.mp hv1
     clear hu1 hv1
     have hil:=(yc.mp hu2).1
     rw [List.getElem?_tail] at hv2
     have e1:=hbd _ _ hu2
     have e2:=hbd _ _ hv2
     have sJ3:=qO sJ (o:=.tup [.bl u,.bl v]) ht
     refine ⟨t,_,rfl,.of qb,rfl,_,_,rfl,_,_,rfl,rfl,?_⟩
     generalize upd J t (.tup [.bl u,.bl v])=J3 at sJ3
     ext
     refine zv ?_
     ext
     refine .inl ⟨rfl,rfl,?_⟩
     refine ⟨by rw [ya,List.length_replicate];exact qh (by omega),sJ3,?_⟩
     have hne:v=!u:=by
      rw [e1,e2]
      rcases Nat.mod_two_eq_zero_or_one i with z | z
      ·rw [z,decide_eq_true (by omega)];rfl
      ·rw [z,yl (by omega)];rfl
     rw [List.replicate_succ',List.map_append,hne]
     cases u<;>rfl
    ·obtain ⟨sJ,rfl⟩:=hp'
     rw [show (bs.tail.map V.bl).length=bs.length - 1 by rw [ya,List.length_tail]]
     refine ⟨by rw [ya,List.length_replicate];exact Nat.le_of_lt (qh (by omega)),fun e he=>?_⟩
     have s6:=qO (s5.trans sJ) (o:=.lst ((List.replicate (bs.length - 1) true).map V.bl)) he
     have ee:upd J e (.lst ((List.replicate (bs.length - 1) true).map V.bl)) e=some (.lst ((List.replicate (bs.length - 1) true).map V.bl)):=qb
     generalize upd J e (.lst ((List.replicate (bs.length - 1) true).map V.bl))=J6 at s6 ee
     ext
     refine ⟨e,_,rfl,SqL.of ee,?_⟩
     rw [qeV (fun b hb=>(List.mem_replicate.mp hb).2)]
     exact q J6 s6
theorem ok_ir (F:Fun K "is_row" "is_row" qac f fd) (T:Txt K mg cc cw) (D_partners_in:DefOk P w K mg base CX0 9 "partners_in" ["web", "pairs"] (spPn cw)) (D_are_unlike_places:DefOk P w K mg base CX0 4 "are_unlike_places" ["web", "thing"] (spUl cw)) (D_goes_by_turns:DefOk P w K mg base CX0 8 "goes_by_turns" ["web", "partners", "names"] (spGt cw)):FnOk P w K mg base CX0 10 f fd ["web", "pairs", "thing"] (spIr cw):=by
 refine F.ok sc_is_row fun _ _ _ _ H vs Q E hr h=>?_
 ·obtain ⟨x,l,a,ss,ns,us,tps,qs,rs,rfl,R,q⟩:=h
  have hu:=j8 hr
  have G:=R.rok
  have h2:=G.two
  refine ⟨_,(qc (qr (i:=3) sc_is_row.nd rfl (Or.inl rfl) (qp D_partners_in (hmR hr) qC (qa (pv 0) (qa (pv 1) qe))))
 (qc (qV (PW.pt (qaT (js (jg (qp D_are_unlike_places (hmR hr) qC (qa (pv 0) (qa (pv 2) qe))))) (qaq (qo qc8 (qw (zw (K:=K) rfl) rfl T.b_len boot_len (qa (pv 2) qe)) qi (qB _))))) (qf (qm j5)) qu)
 (qf (qm (qp D_goes_by_turns (hmR hr) qC (qa (pv 0) (qa (pv 3) (qa (pv 2) qe)))))))),?_⟩
  ext
  refine ⟨x,l,ss,ns,us,tps,qs,rfl,R.web,R.adj,R.prs,R.pgo,fun d H1 s1 hd0 hd=>?_⟩
  ext
  refine ⟨x,a,ss,ns,rs,rfl,R.web.same s1,s1 _ _ R.row,G.nd,G.few,G.inn,fun H2 s2=>?_⟩
  have s02:=s1.trans s2
  ext
  refine yq ?_
  ext
  refine .inl ⟨_,.inl (SqL.of (s02 _ _ R.row)),?_⟩
  rw [ya]
  ext
  refine qU (fun h=>absurd (yk h) (by omega)) fun _=>?_
  ext
  exact ⟨x,l,d,a,ss,ns,us,tps,qs,rs,rfl,R.same s02,s2 _ _ hd,fun H3 s3=>q H3 (s02.trans s3)⟩
theorem qee {H:Hp} {t:Addr} {n:Str} {Q:VK} (e:H t=some (.tup [.non,.str n])) (q:Q (.bl true) H):qdQ K false .non (.ref t) H Q:=
 .inl ⟨t,_,rfl,.inr (SqT.of e),rfl,rfl,q⟩
theorem ok_ct (F:Fun K "can_turn" "can_turn" zf f fd) (T:Txt K mg cc cw) (D_partners_in:DefOk P w K mg base CX0 9 "partners_in" ["web", "pairs"] (spPn cw)) (D_is_row:DefOk P w K mg base CX0 10 "is_row" ["web", "pairs", "thing"] (spIr cw)):FnOk P w K mg base CX0 11 f fd ["web", "pairs", "thing"] (spIr cw):=by
 refine F.ok sc_can_turn fun _ _ _ _ H vs Q E hr h=>?_
 ·obtain ⟨x,l,a,ss,ns,us,tps,qs,rs,rfl,R,q⟩:=h
  have hu:=j8 hr
  have G:=R.rok
  have h2:=G.two
  refine ⟨_,(qc (qV (js (jg (qp D_is_row (hmR hr) qC (qa (pv 0) (qa (pv 1) (qa (pv 2) qe)))))) (qf (qm j5)) qu)
 (qc (qr (i:=3) sc_can_turn.nd rfl (Or.inl rfl) (qp D_partners_in (hmR hr) qC (qa (pv 0) (qa (pv 1) qe))))
 (qc (qr (i:=4) sc_can_turn.nd rfl (Or.inl rfl) (qat (qeQ hu) (pv 3) (qx (qy (K:=K) rfl hu) (pv 2) qi (fun _ _=>rfl)) ⟨rfl,rfl,rfl,rfl⟩))
 (qc (qr (i:=5) sc_can_turn.nd rfl (Or.inl rfl) (qat (qeQ hu) (pv 3) (qx (qy (K:=K) rfl hu) (pv 2) (qbq qas qi) (fun _ _=>rfl)) ⟨rfl,rfl,rfl,rfl⟩))
 (qf (qm (qbH (jt (zQ (K:=K) rfl hu) (pv 4) (zk (qa zD (qa (qx (qy (K:=K) rfl hu) (pv 2) qi (fun _ _=>rfl)) qe))) (by with_unfolding_all rfl)) (qbe (jt (zQ (K:=K) rfl hu) (pv 5) (zk (qa zD (qa (qx (qy (K:=K) rfl hu) (pv 2) (qbq qas qi) (fun _ _=>rfl)) qe))) (by with_unfolding_all rfl)))))))))),?_⟩
  ext
  refine ⟨x,l,a,ss,ns,us,tps,qs,rs,rfl,R,fun H1 s1=>?_⟩
  refine ⟨_,rfl,qU (fun h=>by cases h) fun _=>?_⟩
  ext
  refine ⟨x,l,ss,ns,us,tps,qs,rfl,R.web.same s1,R.adj,R.prs.same s1,R.pgo,fun d H2 s2 hd0 hd=>?_⟩
  obtain ⟨n0,g0⟩:∃ n0,rs[0]?=some n0:=⟨_,yb (by omega)⟩
  obtain ⟨n1,g1⟩:∃ n1,rs[1]?=some n1:=⟨_,yb (by omega)⟩
  obtain ⟨m0,k0⟩:∃ m0,rs[rs.length - 1]?=some m0:=⟨_,yb (by omega)⟩
  obtain ⟨m1,k1⟩:∃ m1,rs[rs.length - 2]?=some m1:=⟨_,yb (by omega)⟩
  have s02:=s1.trans s2
  have ha:=R.row
  have ha2:=s02 _ _ ha
  have at_:∀ {j:Nat} {n:Str},rs[j]?=some n→(rs.map V.str)[j]?=some (.str n):=fun e=>by rw [yd,e];rfl
  have back:∀ {j:Nat} {n:Str},1≤j→j≤rs.length→rs[rs.length - j]?=some n→atI (rs.map V.str) (-(j:Int))=some (.str n):=fun l1 l2 e=>atI_back l1 (by rw [ya];exact l2) (by rw [ya];exact at_ e)
  ext
  refine qb7 ?_
  ext
  refine ⟨d,rfl,.inl ⟨_,.inl hd⟩,?_⟩
  ext
  refine .inl (qah ha2 (v:=.str n0) (qz (j:=0) (at_ g0)) ?_)
  refine ⟨_,DGet.k (k:=Sum.inr n0) hd,?_⟩
  rw [jW,G.hd _ g0]
  ext
  refine qb7 ?_
  ext
  refine ⟨d,rfl,.inl ⟨_,.inl hd⟩,?_⟩
  ext
  refine ⟨1,rfl,?_⟩
  refine .inl (qah ha2 (v:=.str m0) (back (j:=1) (by decide) (by omega) k0) ?_)
  refine ⟨_,DGet.k (k:=Sum.inr m0) hd,?_⟩
  rw [jW,G.tl _ k0]
  ext
  refine .inl (qah ha2 (v:=.str n1) (qz (j:=1) (at_ g1)) ?_)
  ext
  refine ⟨by show 2≤sizeLine;decide,fun t ht=>qee qb ?_⟩
  have s3:=qO s02 (o:=.tup [.non,.str n1]) ht
  generalize upd H2 t (.tup [.non,.str n1])=H3 at s3
  refine ⟨_,rfl,zv ?_⟩
  ext
  refine ⟨2,rfl,?_⟩
  refine .inl (qah (s3 _ _ ha) (v:=.str m1) (back (j:=2) (by decide) (by omega) k1) ?_)
  ext
  exact ⟨by show 2≤sizeLine;decide,fun t2 ht2=>qee qb (q _ (qO s3 ht2))⟩
theorem sc_turned:FnScope ["web", "pairs", "row", "partners", "steps"] ["web", "pairs", "row"] (qd zO):=fS
def qdA (rs:List Str):List (Str×Str):=stp rs++(stp rs).map fun q=>(q.2,q.1)
def flT (dps qs:List (Str×Str)) (rs:List Str):List (Str×Str):=dps.filter fun q=>decide (pt qs q.1=some q.2) != decide (q∈qdA rs)
inductive spTu (cw:Addr) (vs:List V) (H:Hp) (Q:VK) (E:XK):Prop|mk (x l a:Addr) (ss:List Str) (ns:List Nat) (us:List Addr) (tps qs:List (Str×Str)) (rs:List Str) (_:vs=[.ref x,.ref l,.ref a]) (_:Rw cw H x l a ss ns us tps qs rs) (_:∀ (l:Addr) (ls:List Addr) (H':Hp),L2.Same H H'→H l=none→H' l=some (.lst (ls.map V.ref))→ls.length≤196→All2 (PrAt H H' l) ls (flT (qR ss ns ss.length) qs rs)→Q (.ref l) H')
theorem All2.app9 {α β:Type} {R:α→β→Prop} {l1 l2:List α} {m1 m2:List β} (a:All2 R l1 m1) (b:All2 R l2 m2):All2 R (l1++l2) (m1++m2):=by
 refine ⟨by rw [List.length_append,List.length_append,a.len,b.len],fun k x y hx hy=>?_⟩
 by_cases hk:k < l1.length
 ·rw [List.getElem?_append_left hk] at hx
  rw [List.getElem?_append_left (by rw [← a.len];exact hk)] at hy
  exact a.at_ k x y hx hy
 ·rw [List.getElem?_append_right (by omega)] at hx
  rw [List.getElem?_append_right (by rw [← a.len];omega),← a.len] at hy
  exact b.at_ _ x y hx hy
theorem qeW {G:Hp} {a b:Addr} {xs ys:List V} {Q:VK} (ea:G a=some (.lst xs)) (eb:G b=some (.lst ys)) (hl:xs.length + ys.length≤2000) (q:∀ p,G p=none→Q (.ref p) (upd G p (.lst (xs++ys)))):qc3 K (.ref a) (.ref b) G Q:=.inl ⟨a,b,_,_,rfl,rfl,ea,eb,yi hl (by decide),q⟩
theorem ok_tu (F:Fun K "turned" "turned" zO f fd) (T:Txt K mg cc cw) (D_partners_in:DefOk P w K mg base CX0 9 "partners_in" ["web", "pairs"] (spPn cw)) (D_Web_ties:MethOk P w K mg base CX0 7 cw "ties" ["self"] (spTs cw)) (D_can_turn:DefOk P w K mg base CX0 11 "can_turn" ["web", "pairs", "thing"] (spIr cw)):FnOk P w K mg base CX0 12 f fd ["web", "pairs", "row"] (spTu cw):=by
 refine F.ok sc_turned fun _ _ _ _ H vs Q E hr h=>?_
 ·obtain ⟨x,pl,a,ss,ns,ps,tps,qs,rs,rfl,R,q⟩:=h
  have hu:=j8 hr
  obtain ⟨wx,dd,ol,nn,hb,_⟩:=id R.web
  have ha:=R.row
  have hxl:=R.rok.few
  have h2:=R.rok.two
  refine ⟨_,(qc (qV (js (jg (qp D_can_turn (hmR hr) qC (qa (pv 0) (qa (pv 1) (qa (pv 2) qe)))))) (qf jx) qu)
 (qc (qr (i:=3) sc_turned.nd rfl (Or.inr rfl) (qp D_partners_in (hmR hr) qC (qa (pv 0) (qa (pv 1) qe))))
 (qc (qr (i:=4) sc_turned.nd rfl (Or.inr rfl) (qP (zC (K:=K) rfl) (qcq (K:=K) rfl rfl rfl rfl T.b_list T.b_zip (qa (pv 2) (qa (jR (qdp (K:=K) rfl) (pv 2) (jQ qi) zm) qe))) (qcq (K:=K) rfl rfl rfl rfl T.b_list T.b_zip (qa (jR (qdp (K:=K) rfl) (pv 2) (jQ qi) zm) (qa (pv 2) qe)))))
 (qf (qm (ju (sc:=qd zO) (XN:=["web", "pairs", "row", "partners", "steps"]) ["tie", "steps", "partners"] 1 [4,3] rfl rfl rfl (by decide +kernel) rfl (by decide +kernel)
  (qT (K:=K) rfl (jm D_Web_ties (hmR hr) (pv 0))) (fun _ _ _ _=>(qq (i:=0) (show (["tie", "steps", "partners"]:List Str).Nodup by decide +kernel) rfl (Or.inl rfl))) qY
  (fun _ _ _ _=>(jy (qo (qan (K:=K) rfl hu) (jt (qaj (K:=K) rfl hu) (qat (qeQ hu) (pv 2) (qx (qy (K:=K) rfl hu) (pv 0) qi (fun _ _=>rfl)) ⟨rfl,rfl,rfl,rfl⟩) (qx (qy (K:=K) rfl hu) (pv 0) qi (fun _ _=>rfl)) (qB _)) (jt (zQ (K:=K) rfl hu) (pv 0) (pv 1) (by with_unfolding_all rfl)) (qB _))))
  (fun _ _ _ _=>(pv 0)))))))),?_⟩
  ext
  refine ⟨x,pl,a,ss,ns,ps,tps,qs,rs,rfl,R,fun H1 s1=>?_⟩
  refine ⟨_,rfl,qU (fun h=>by cases h) fun _=>?_⟩
  ext
  refine ⟨x,pl,ss,ns,ps,tps,qs,rfl,R.web.same s1,R.adj,R.prs.same s1,R.pgo,fun d H2 s2 hd0 hd=>?_⟩
  have s02:=s1.trans s2
  have ha2:=s02 _ _ ha
  ext
  refine vLZ ?_
  ext
  refine .inl ⟨a,_,rfl,SqL.of ha2,fun c1 hc1=>?_⟩
  rw [qaA,← List.map_tail]
  have t1:=qO (Sr H2) (o:=.lst (rs.tail.map V.str)) hc1
  have ec1:upd H2 c1 (.lst (rs.tail.map V.str)) c1=some (.lst (rs.tail.map V.str)):=qb
  generalize upd H2 c1 (.lst (rs.tail.map V.str))=G1 at t1 ec1
  ext
  refine ⟨a,c1,_,_,rfl,SqL.of (t1 _ _ ha2),SqL.of ec1,by rw [ya];exact hxl,fun l1 ts1 G2 Z1=>?_⟩
  have t2:=t1.trans Z1.sm
  ext
  refine vLZ ?_
  ext
  refine .inl ⟨a,_,rfl,SqL.of (t2 _ _ ha2),fun c2 hc2=>?_⟩
  rw [qaA,← List.map_tail]
  have t3:=qO (Sr G2) (o:=.lst (rs.tail.map V.str)) hc2
  have ec2:upd G2 c2 (.lst (rs.tail.map V.str)) c2=some (.lst (rs.tail.map V.str)):=qb
  generalize upd G2 c2 (.lst (rs.tail.map V.str))=G3 at t3 ec2
  have t23:=t2.trans t3
  ext
  refine ⟨c2,a,_,_,rfl,SqL.of ec2,SqL.of (t23 _ _ ha2),by rw [ya,List.length_tail];omega,fun l2 ts2 G4 Z2=>?_⟩
  have t4:=t23.trans Z2.sm
  have t24:=t3.trans Z2.sm
  have A1:=qdz (qs:=stp rs) Z1 (by rw [qap,List.length_tail];omega) fun j q e=>by
   obtain ⟨z1,z2⟩:=stp_at.mp e
   exact ⟨z1,by rw [List.getElem?_tail];exact z2⟩
  have A2:=qdz (qs:=(stp rs).map fun q=>(q.2,q.1)) Z2 (by rw [ya,qap,List.length_tail];omega) fun j q e=>by
   rw [yd] at e
   obtain ⟨q',e',rfl⟩:=yn.mp e
   obtain ⟨z1,z2⟩:=stp_at.mp e'
   exact ⟨by rw [List.getElem?_tail];exact z2,z1⟩
  have hl1:ts1.length≤1000:=by rw [A1.len,qap];omega
  have hl2:ts2.length≤1000:=by rw [A2.len,ya,qap];omega
  refine qeW (t24 _ _ Z1.ls) Z2.ls (by rw [ya,ya,A1.len,A2.len,ya,qap];omega) fun st hst=>?_
  have t5:=qO (Sr G4) (o:=.lst (ts1.map V.ref++ts2.map V.ref)) hst
  have est:upd G4 st (.lst (ts1.map V.ref++ts2.map V.ref)) st=some (.lst (ts1.map V.ref++ts2.map V.ref)):=qb
  generalize upd G4 st (.lst (ts1.map V.ref++ts2.map V.ref))=G5 at t5 est
  have t25:=t4.trans t5
  have hPS:PL G5 st (ts1++ts2) (qdA rs):=⟨by rw [List.map_append];exact est,All2.app9 (A1.mono fun _ _ z=>(t24.trans t5) _ _ z) (A2.mono fun _ _ z=>t5 _ _ z)⟩
  have s05:=s02.trans t25
  have hd5:=t25 _ _ hd
  ext
  refine ⟨x,wx,_,rfl,s05 _ _ hb,zq (by decide +kernel),?_⟩
  ext
  refine ⟨x,ss,ns,rfl,R.web.same s05,fun l ts G6 s6 hl0 hl hl196 hAl=>?_⟩
  have s06:=s05.trans s6
  have hd6:=s6 _ _ hd5
  have hPS6:=hPS.same s6
  refine .inl ⟨⟨_,.of hl⟩,qJ (xs:=ts.map V.ref) (fun i ys G=>G=G6∧∃ us:List Addr,ys=us.map V.ref∧us.length≤i∧All2 (fun t ab=>G5 t=none∧G6 t=some (.tup [.str ab.1,.str ab.2])) us (flT ((qR ss ns ss.length).take i) qs rs)) ⟨rfl,[],rfl,yh _,.nil⟩ (fun i ys G _ hp'=>by rw [hp'.1];exact .of hl) (fun i y ys G hy hp'=>?_) fun ys G hp'=>?_⟩
  ·obtain ⟨rfl,us,rfl,hul,hU⟩:=hp'
   rw [yd] at hy
   obtain ⟨t,ht,rfl⟩:=yn.mp hy
   have hi:i < ts.length:=(yc.mp ht).1
   obtain ⟨ab,hab⟩:∃ ab,(qR ss ns ss.length)[i]?=some ab:=⟨_,yb (by rw [← hAl.len];exact hi)⟩
   obtain ⟨z1,z2,z3⟩:=hAl.at_ i t ab ht hab
   have hstep:flT ((qR ss ns ss.length).take (i + 1)) qs rs=flT ((qR ss ns ss.length).take i) qs rs++(if (decide (pt qs ab.1=some ab.2) != decide (ab∈qdA rs))=true then [ab] else []):=by
    unfold flT
    rw [List.take_add_one,hab,List.filter_append]
    show _++[ab].filter _=_
    rw [List.filter_cons,List.filter_nil]
   ext
   refine qb7 ?_
   ext
   refine ⟨d,rfl,.inl ⟨_,.inl hd6⟩,?_⟩
   ext
   refine .inl (qaK z3 (v:=.str ab.1) (qz (j:=0) rfl) ?_)
   refine ⟨_,DGet.k (k:=Sum.inr ab.1) hd6,?_⟩
   rw [jW]
   ext
   refine .inl (qaK z3 (v:=.str ab.2) (qz (j:=1) rfl) ?_)
   refine qeu ?_
   ext
   refine qer hPS6 z3 ?_
   refine .inl ⟨rfl,rfl,?_⟩
   have eb:eqV (.bl (decide (pt qs ab.1=some ab.2))) (.bl (decide ((ab.1,ab.2)∈qdA rs)))=(decide (pt qs ab.1=some ab.2)==decide (ab∈qdA rs)):=rfl
   rw [if_pos rfl,eb,hstep]
   refine ⟨_,rfl,?_⟩
   show if (decide (pt qs ab.1=some ab.2) != decide (ab∈qdA rs))=true then _ else _
   cases hne:(decide (pt qs ab.1=some ab.2) != decide (ab∈qdA rs)) with
   | true =>
    refine zv ?_
    rw [if_pos rfl]
    ext
    exact ⟨by rw [ya];exact qh (by omega),rfl,us++[t],by rw [List.map_append];rfl,by rw [List.length_append];simp;omega,hU.snoc ⟨z1,z3⟩⟩
   | false =>
    refine yq ?_
    rw [if_neg (by decide),List.append_nil]
    exact ⟨rfl,us,rfl,by omega,hU⟩
  ·obtain ⟨rfl,us,rfl,hul,hU⟩:=hp'
   have e:(ts.map V.ref).length=(qR ss ns ss.length).length:=by rw [ya,hAl.len]
   rw [e,List.take_length] at hU
   rw [ya] at hul
   refine ⟨by rw [ya];exact Nat.le_of_lt (qh (by omega)),fun g hg=>?_⟩
   have s7:=qO s06 (o:=.lst (us.map V.ref)) hg
   exact q g us _ s7 (s06.free hg) qb (by omega) (hU.mono fun t ab z=>⟨s05.free z.1,(fun e=>by rw [e,hg] at z;cases z.2),by rw [qg (fun e=>by rw [e,hg] at z;cases z.2)];exact z.2⟩)
def adjR (rs:List Str) (a b:Str):Prop:=∃ j:Nat,(rs[j]?=some a∧rs[j + 1]?=some b)∨(rs[j]?=some b∧rs[j + 1]?=some a)
theorem adjR.symm {rs:List Str} {a b:Str} (h:adjR rs a b):adjR rs b a:=h.elim fun j z=>⟨j,z.symm⟩
theorem adjR.mem {rs:List Str} {a b:Str} (h:adjR rs a b):a∈rs∧b∈rs:=h.elim fun j z=>z.elim (fun y=>⟨ye y.1,ye y.2⟩) fun y=>⟨ye y.2,ye y.1⟩
structure TurnR (f:Str→Option Str) (rs:List Str):Prop where
 nd:rs.Nodup
 two:2≤rs.length
 sym:∀ a b,f a=some b→f b=some a
 alt:∀ (j:Nat) r s t,rs[j]?=some r→rs[j + 1]?=some s→rs[j + 2]?=some t→(f s=some r↔¬ f s=some t)
 fst:∀ s t,rs[0]?=some s→rs[1]?=some t→f s=none∨f s=some t
 lst:∀ s t,rs[rs.length - 1]?=some s→rs[rs.length - 2]?=some t→f s=none∨f s=some t
theorem TurnR.near {f:Str→Option Str} {rs:List Str} (h:TurnR f rs) {a b:Str} (ha:a∈rs) (hf:f a=some b):adjR rs a b:=by
 obtain ⟨i,hi⟩:=yf ha
 have hil:i < rs.length:=(yc.mp hi).1
 have h2:=h.two
 by_cases h0:i=0
 ·subst h0
  obtain ⟨t,ht⟩:∃ t,rs[1]?=some t:=⟨_,yb (by omega)⟩
  rcases h.fst a t hi ht with z | z
  ·rw [z] at hf;cases hf
  ·rw [hf] at z;cases z;exact ⟨0,.inl ⟨hi,ht⟩⟩
 ·by_cases hl:i=rs.length - 1
  ·obtain ⟨t,ht⟩:∃ t,rs[rs.length - 2]?=some t:=⟨_,yb (by omega)⟩
   rcases h.lst a t (by rw [← hl];exact hi) ht with z | z
   ·rw [z] at hf;cases hf
   ·rw [hf] at z;cases z;exact ⟨rs.length - 2,.inr ⟨ht,by rw [show rs.length - 2 + 1=i by omega];exact hi⟩⟩
  ·obtain ⟨r,hr⟩:∃ r,rs[i - 1]?=some r:=⟨_,yb (by omega)⟩
   obtain ⟨t,ht⟩:∃ t,rs[i + 1]?=some t:=⟨_,yb (by omega)⟩
   have hi1:i - 1 + 1=i:=by omega
   have hi2:i - 1 + 2=i + 1:=by omega
   have:=h.alt (i - 1) r a t hr (by rw [hi1];exact hi) (by rw [hi2];exact ht)
   by_cases z:f a=some t
   ·rw [hf] at z;cases z;exact ⟨i,.inl ⟨hi,ht⟩⟩
   ·have z:=this.mpr z
    rw [hf] at z;cases z;exact ⟨i - 1,.inr ⟨hr,by rw [hi1];exact hi⟩⟩
def flipR (f:Str→Option Str) (rs:List Str) (a b:Str):Prop:=(a∉rs∧f a=some b)∨(adjR rs a b∧f a≠some b)
theorem TurnR.xor {f:Str→Option Str} {rs:List Str} (h:TurnR f rs) {a b:Str}:flipR f rs a b↔¬ (f a=some b↔adjR rs a b):=by
 unfold flipR
 constructor
 ·rintro (⟨h1,h2⟩ | ⟨h1,h2⟩) e
  ·exact h1 (e.mp h2).mem.1
  ·exact h2 (e.mpr h1)
 ·intro e
  by_cases h1:f a=some b
  ·refine .inl ⟨fun hm=>e ⟨fun _=>h.near hm h1,fun _=>h1⟩,h1⟩
  ·by_cases h2:adjR rs a b
   ·exact .inr ⟨h2,h1⟩
   ·exact absurd ⟨fun z=>absurd z h1,fun z=>absurd z h2⟩ e
theorem flipR.symm {f:Str→Option Str} {rs:List Str} (h:TurnR f rs) {a b:Str} (e:flipR f rs a b):flipR f rs b a:=by
 rcases e with ⟨h1,h2⟩ | ⟨h1,h2⟩
 ·refine .inl ⟨fun hm=>?_,h.sym _ _ h2⟩
  exact h1 (h.near hm (h.sym _ _ h2)).mem.2
 ·exact .inr ⟨h1.symm,fun z=>h2 (h.sym _ _ z)⟩
theorem adjR.at_ {rs:List Str} (nd:rs.Nodup) {i:Nat} {a b:Str} (hi:rs[i]?=some a) (h:adjR rs a b):rs[i + 1]?=some b∨(1≤i∧rs[i - 1]?=some b):=by
 obtain ⟨j,⟨h1,h2⟩ | ⟨h1,h2⟩⟩:=h
 ·have:=qv nd hi h1
  subst this
  exact .inl h2
 ·have:=qv nd hi h2
  subst this
  exact .inr ⟨by omega,by simpa using h1⟩
theorem flipR.one {f:Str→Option Str} {rs:List Str} (h:TurnR f rs) {a b c:Str} (e1:flipR f rs a b) (e2:flipR f rs a c):b=c:=by
 rcases e1 with ⟨h1,h2⟩ | ⟨h1,h2⟩
 ·rcases e2 with ⟨h3,h4⟩ | ⟨h3,h4⟩
  ·rw [h2] at h4;exact ym h4
  ·exact absurd h3.mem.1 h1
 ·rcases e2 with ⟨h3,h4⟩ | ⟨h3,h4⟩
  ·exact absurd h1.mem.1 h3
  ·obtain ⟨i,hi⟩:=yf h1.mem.1
   have key:∀ {b c:Str},rs[i + 1]?=some b→1≤i→rs[i - 1]?=some c→f a≠some b→f a≠some c→False:=fun hb h1' hc n1 n2=>by
    have hi1:i - 1 + 1=i:=by omega
    have hi2:i - 1 + 2=i + 1:=by omega
    exact n2 ((h.alt (i - 1) _ a _ hc (by rw [hi1];exact hi) (by rw [hi2];exact hb)).mpr n1)
   rcases h1.at_ h.nd hi with z1 | ⟨l1,z1⟩<;>rcases h3.at_ h.nd hi with z2 | ⟨l2,z2⟩
   ·rw [z1] at z2;exact ym z2
   ·exact (key z1 l2 z2 h2 h4).elim
   ·exact (key z2 l1 z1 h4 h2).elim
   ·rw [z1] at z2;exact ym z2
theorem TurnR.again {f g:Str→Option Str} {rs:List Str} (h:TurnR f rs) (hg:∀ a b,g a=some b↔flipR f rs a b):TurnR g rs:=by
 have on:∀ {a b:Str},adjR rs a b→(g a=some b↔¬ f a=some b):=fun hab=>by
  rw [hg,h.xor]
  constructor
  ·exact fun e z=>e ⟨fun _=>hab,fun _=>z⟩
  ·exact fun e z=>e (z.mpr hab)
 have only:∀ {a b:Str},a∈rs→g a=some b→adjR rs a b:=fun ha e=>by
  rcases (hg _ _).mp e with ⟨h1,_⟩ | ⟨h1,_⟩
  ·exact absurd ha h1
  ·exact h1
 refine ⟨h.nd,h.two,fun a b e=>(hg _ _).mpr (((hg _ _).mp e).symm h),fun j r s t hr hs ht=>?_,fun s t hs ht=>?_,fun s t hs ht=>?_⟩
 ·have a1:adjR rs s r:=⟨j,.inr ⟨hr,hs⟩⟩
  have a2:adjR rs s t:=⟨j + 1,.inl ⟨hs,ht⟩⟩
  rw [on a1,on a2,h.alt j r s t hr hs ht]
 ·cases e:g s with
  | none=>exact .inl rfl
  | some b =>
   have:=(only (ye hs) e).at_ h.nd hs
   rcases this with z | ⟨z,_⟩
   ·rw [ht] at z;exact .inr (by rw [← e,e];exact z.symm ▸ rfl)
   ·omega
 ·cases e:g s with
  | none=>exact .inl rfl
  | some b =>
   have h2:=h.two
   have:=(only (ye hs) e).at_ h.nd hs
   rcases this with z | ⟨_,z⟩
   ·have:=(yc.mp z).1
    omega
   ·rw [show rs.length - 1 - 1=rs.length - 2 by omega,ht] at z
    exact .inr (by rw [← z])
theorem TurnR.inner {f:Str→Option Str} {rs:List Str} (h:TurnR f rs) {i:Nat} {s:Str} (h0:0 < i) (h1:i + 1 < rs.length) (hs:rs[i]?=some s):(f s).isSome=true:=by
 obtain ⟨r,hr⟩:∃ r,rs[i - 1]?=some r:=⟨_,yb (by omega)⟩
 obtain ⟨t,ht⟩:∃ t,rs[i + 1]?=some t:=⟨_,yb h1⟩
 have:=h.alt (i - 1) r s t hr (by rw [show i - 1 + 1=i by omega];exact hs) (by rw [show i - 1 + 2=i + 1 by omega];exact ht)
 cases e:f s with
 | some _=>rfl
 | none =>
  rw [e] at this
  have:=this.mpr (fun z=>by cases z)
  cases this
theorem qcW {f g:Str→Option Str} {rs:List Str} (h:TurnR f rs) (hg:∀ a b,g a=some b↔flipR f rs a b) {a t:Str} (hadj:adjR rs a t) (hf:f a=none∨f a=some t) (hg2:g a=none∨g a=some t):(g a).isSome=!(f a).isSome:=by
 rcases hf with z | z
 ·rw [(hg a t).mpr (.inr ⟨hadj,by rw [z];exact fun y=>by cases y⟩),z];rfl
 ·rcases hg2 with y | y
  ·rw [y,z];rfl
  ·exact absurd ⟨fun _=>hadj,fun _=>z⟩ (h.xor.mp ((hg a t).mp y))
theorem qdB {f:Str→Option Str} {rs:List Str} (h:TurnR f rs) {a b:Str} (ha:rs[0]?=some a) (hb:rs[rs.length - 1]?=some b):(rs.filter fun s=>(f s).isSome).length + 2=rs.length + (if (f a).isSome then 1 else 0) + (if (f b).isSome then 1 else 0):=by
 have h2:=h.two
 obtain ⟨m,hm⟩:∃ m,rs=a::(m++[b]):=by
  match rs,ha,hb,h2 with
  | x::r,ha,hb,h2 =>
   have hx:x=a:=ym ha
   have hr:r≠[]:=fun z=>by rw [z] at h2;simp at h2
   refine ⟨r.dropLast,?_⟩
   have e:r.getLast hr=b:=by
    have hl:0 < r.length:=List.length_pos_iff.mpr hr
    rw [show (x::r).length - 1=r.length - 1 + 1 by simp;omega,List.getElem?_cons_succ] at hb
    rw [List.getLast_eq_getElem]
    exact (yc.mp hb).2
   rw [hx,← e,List.dropLast_concat_getLast]
 have hml:rs.length=m.length + 2:=by rw [hm];simp
 have hmid:(m.filter fun s=>(f s).isSome)=m:=List.filter_eq_self.mpr fun s hs=>by
  obtain ⟨i,hi⟩:=yf hs
  have hil:=(yc.mp hi).1
  refine h.inner (i:=i + 1) (by omega) (by omega) ?_
  rw [hm,List.getElem?_cons_succ,List.getElem?_append_left hil]
  exact hi
 rw [hml,hm,List.filter_cons,List.filter_append,hmid,List.filter_cons,List.filter_nil]
 cases (f a).isSome<;>cases (f b).isSome<;>simp<;>omega
theorem qcc {ss rs:List Str} (hn:ss.Nodup) (hr:rs.Nodup) (hin:∀ s∈rs,s∈ss) (p:Str→Bool):(ss.filter p).length=(rs.filter p).length + (ss.filter fun s=>p s&&!decide (s∈rs)).length:=by
 have e1:(rs.filter p).length=(ss.filter fun s=>p s&&decide (s∈rs)).length:=Nat.le_antisymm
  (qcT (hr.filter _) fun s hs=>by
   obtain ⟨a,b⟩:=yp.mp hs
   exact yp.mpr ⟨hin s a,by rw [b,decide_eq_true a];rfl⟩)
  (qcT (hn.filter _) fun s hs=>by
   obtain ⟨a,b⟩:=yp.mp hs
   obtain ⟨b1,b2⟩:=(Bool.and_eq_true _ _).mp b
   exact yp.mpr ⟨yk b2,b1⟩)
 rw [e1]
 clear e1 hn hin
 induction ss with
 | nil=>rfl
 | cons x r ih =>
  rw [List.filter_cons,List.filter_cons,List.filter_cons]
  cases p x<;>cases decide (x∈rs)<;>simp<;>omega
theorem qbn:∀ {qs:List (Str×Str)},(∀ q∈qs,q.1≠q.2)→qs.Pairwise (fun q r=>q.1≠r.1∧q.1≠r.2∧q.2≠r.1∧q.2≠r.2)→(qt qs).Nodup
 | [],_,_=>List.nodup_nil
 | q::r,h,hp=>by
  obtain ⟨p1,p2⟩:=List.pairwise_cons.mp hp
  have ih:=qbn (fun x hx=>h x (List.mem_cons_of_mem _ hx)) p2
  show (q.1::q.2::qt r).Nodup
  have out:∀ n∈qt r,q.1≠n∧q.2≠n:=fun n hn=>by
   obtain ⟨x,hx,hxn⟩:=List.mem_flatMap.mp hn
   obtain ⟨a,b,c,d⟩:=p1 x hx
   simp only [List.mem_cons,List.not_mem_nil,or_false] at hxn
   rcases hxn with rfl | rfl
   ·exact ⟨a,c⟩
   ·exact ⟨b,d⟩
  refine yo.mpr ⟨fun z=>?_,yo.mpr ⟨fun z=>(out _ z).2 rfl,ih⟩⟩
  rcases List.mem_cons.mp z with z | z
  ·exact h q List.mem_cons_self z
  ·exact (out _ z).1 rfl
theorem stpB_adj {rs:List Str} {a b:Str}:(a,b)∈qdA rs↔adjR rs a b:=by
 unfold qdA adjR
 rw [List.mem_append,List.mem_map]
 constructor
 ·rintro (h | ⟨q,h,e⟩)
  ·obtain ⟨j,hj⟩:=yf h
   exact ⟨j,.inl (stp_at.mp hj)⟩
  ·obtain ⟨j,hj⟩:=yf h
   cases e
   exact ⟨j,.inr (stp_at.mp hj)⟩
 ·rintro ⟨j,⟨h1,h2⟩ | ⟨h1,h2⟩⟩
  ·exact .inl (ye (stp_at.mpr ⟨h1,h2⟩))
  ·exact .inr ⟨(b,a),ye (stp_at.mpr ⟨h1,h2⟩),rfl⟩
theorem flT_flip {dps qs:List (Str×Str)} {rs:List Str} (h:TurnR (pt qs) rs) {a b:Str}:(a,b)∈flT dps qs rs↔(a,b)∈dps∧flipR (pt qs) rs a b:=by
 unfold flT
 rw [yp,h.xor]
 refine and_congr_right fun _=>?_
 show (decide (pt qs a=some b) != decide ((a,b)∈qdA rs))=true↔_
 by_cases h1:pt qs a=some b<;>by_cases h2:(a,b)∈qdA rs
 ·rw [decide_eq_true h1,decide_eq_true h2]
  exact ⟨(fun z=>by cases z),fun z=>absurd ⟨fun _=>stpB_adj.mp h2,fun _=>h1⟩ z⟩
 ·rw [decide_eq_true h1,yl h2]
  exact ⟨fun _ z=>h2 (stpB_adj.mpr (z.mp h1)),fun _=>rfl⟩
 ·rw [yl h1,decide_eq_true h2]
  exact ⟨fun _ z=>h1 (z.mpr (stpB_adj.mp h2)),fun _=>rfl⟩
 ·rw [yl h1,yl h2]
  exact ⟨(fun z=>by cases z),fun z=>absurd ⟨fun y=>absurd y h1,fun y=>absurd (stpB_adj.mpr y) h2⟩ z⟩
def tA (tps:List (Str×Str)) (a b:Str):Prop:=(a,b)∈tps∨(b,a)∈tps
theorem pt_some {qs:List (Str×Str)} {s:Str}:s∈qt qs↔(pt qs s).isSome=true:=by
 cases e:pt qs s with
 | none=>exact ⟨fun z=>absurd z (pt_none.mp e),(fun z=>by cases z)⟩
 | some b=>exact ⟨fun _=>rfl,fun _=>Classical.byContradiction fun z=>by rw [pt_none.mpr z] at e;cases e⟩
structure PFn (ss:List Str) (tps:List (Str×Str)) (f:Str→Option Str):Prop where
 sym:∀ a b,f a=some b→f b=some a
 tie:∀ a b,f a=some b→tA tps a b
def qaQ (f:Str→Option Str) (ss:List Str):Nat:=(ss.filter fun s=>(f s).isSome).length
section
variable {ss:List Str} {ns:List Nat} {tps qs:List (Str×Str)} {f g:Str→Option Str}
theorem PGo.fn (h:PGo ss tps qs):PFn ss tps (pt qs):=⟨fun a b e=>(qdw h.nd).mp e,fun a b e=>by
 rcases qcU e with z | z
 ·exact (h.inn _ z).1
 ·exact (h.inn _ z).1.symm⟩
theorem PGo.cnt (h:PGo ss tps qs) (hn:ss.Nodup):2 * qs.length=qaQ (pt qs) ss:=by
 rw [← qao]
 refine Nat.le_antisymm (qcT h.nd fun s hs=>yp.mpr ⟨?_,pt_some.mp hs⟩) (qcT (hn.filter _) fun s hs=>pt_some.mpr (yp.mp hs).2)
 obtain ⟨q,hq,hs⟩:=List.mem_flatMap.mp hs
 simp only [List.mem_cons,List.not_mem_nil,or_false] at hs
 rcases hs with rfl | rfl
 ·exact (h.inn q hq).2.1
 ·exact (h.inn q hq).2.2.1
theorem qcX:(snL f ss).length + qaQ f ss=ss.length:=by
 unfold snL qaQ
 induction ss with
 | nil=>rfl
 | cons x r ih =>
  rw [List.filter_cons,List.filter_cons]
  cases (f x).isSome
  ·rw [if_pos (show (!false)=true from rfl),if_neg Bool.false_ne_true,List.length_cons,List.length_cons];omega
  ·rw [if_neg (show ¬ (!true)=true by decide),if_pos (show true=true from rfl),List.length_cons,List.length_cons];omega
theorem jI (hw:WOk ss ns) (hA:Adj ss ns tps) {a b:Str}:(a,b)∈qR ss ns ss.length↔tA tps a b∧∃ i j:Nat,i < j∧ss[i]?=some a∧ss[j]?=some b:=by
 unfold qR
 rw [List.mem_flatMap]
 constructor
 ·rintro ⟨i,hi,h⟩
  have hi:=List.mem_range.mp hi
  obtain ⟨s,hs⟩:∃ s,ss[i]?=some s:=⟨_,yb hi⟩
  have hg:ss.getD i ""=s:=by rw [List.getD_eq_getElem?_getD,hs];rfl
  unfold qds at h
  rw [hg] at h
  obtain ⟨o,ho,e⟩:=List.mem_map.mp h
  cases e
  obtain ⟨h1,h2⟩:=yp.mp ho
  obtain ⟨h3,h4⟩:=qcu hw.nd h1
  have gb:ss[ss.idxOf b]?=some b:=by rw [yb (List.idxOf_lt_length_of_mem h3),List.getElem_idxOf]
  exact ⟨(hA i _ _ _ hs gb).mp h4,i,_,yk h2,hs,gb⟩
 ·rintro ⟨h,i,j,hij,h1,h2⟩
  refine ⟨i,List.mem_range.mpr (yc.mp h1).1,?_⟩
  have hg:ss.getD i ""=a:=by rw [List.getD_eq_getElem?_getD,h1];rfl
  have ej:ss.idxOf b=j:=by
   have hb:=ye h2
   exact qv hw.nd (by rw [yb (List.idxOf_lt_length_of_mem hb),List.getElem_idxOf]) h2
  unfold qds
  rw [hg]
  refine List.mem_map.mpr ⟨b,yp.mpr ⟨?_,decide_eq_true (by rw [ej];exact hij)⟩,rfl⟩
  rw [zH hw.nd]
  exact yp.mpr ⟨ye h2,by rw [ej];exact (hA i j a b h1 h2).mpr h⟩
theorem qdC (hw:WOk ss ns):(qR ss ns ss.length).Nodup:=by
 refine List.pairwise_flatMap.mpr ⟨fun i _=>?_,?_⟩
 ·unfold qds
  refine List.pairwise_map.mpr ?_
  have nd:((inB ss 0 (ns.getD i 0)).filter fun o=>decide (i < ss.idxOf o)).Nodup:=by rw [zH hw.nd];exact (hw.nd.filter _).filter _
  exact nd.imp fun hab e=>hab (Prod.mk.inj e).2
 ·refine List.Pairwise.imp_of_mem (fun {i j} hi hj hij q hq r hr e=>?_) (List.pairwise_lt_range (n:=ss.length))
  have hi:=List.mem_range.mp hi
  have hj:=List.mem_range.mp hj
  unfold qds at hq hr
  obtain ⟨_,_,rfl⟩:=List.mem_map.mp hq
  obtain ⟨_,_,rfl⟩:=List.mem_map.mp hr
  have e:=(Prod.mk.inj e).1
  rw [List.getD_eq_getElem?_getD,List.getD_eq_getElem?_getD,yb hi,yb hj] at e
  have:=qv hw.nd (yb hi) (by rw [yb hj];exact congrArg some e.symm)
  omega
theorem qef (hw:WOk ss ns) (hA:Adj ss ns tps) (hT:∀ ab∈tps,ab.1∈ss∧ab.2∈ss∧ab.1≠ab.2) (h:PFn ss tps g) {L:List (Str×Str)} (hL:∀ a b,(a,b)∈L↔(a,b)∈qR ss ns ss.length∧g a=some b) (hS:L.Sublist (qR ss ns ss.length)):PGo ss tps L∧pt L=g:=by
 have mem:∀ q∈L,g q.1=some q.2∧tA tps q.1 q.2∧∃ i j:Nat,i < j∧ss[i]?=some q.1∧ss[j]?=some q.2:=fun q hq=>by
  obtain ⟨h1,h2⟩:=(hL q.1 q.2).mp hq
  exact ⟨h2,(jI hw hA).mp h1⟩
 have inn:∀ {a b:Str},tA tps a b→a∈ss∧b∈ss∧a≠b:=fun z=>z.elim (fun y=>hT _ y) fun y=>⟨(hT _ y).2.1,(hT _ y).1,(hT _ y).2.2.symm⟩
 have nd:(qt L).Nodup:=by
  refine qbn (fun q hq=>(inn (mem q hq).2.1).2.2) (List.Pairwise.imp_of_mem (fun {q r} hq hr hne=>?_) (hS.nodup (qdC hw)))
  obtain ⟨g1,_,i,j,l1,a1,a2⟩:=mem q hq
  obtain ⟨g2,_,i',j',l2,b1,b2⟩:=mem r hr
  have s1:=h.sym _ _ g1
  have s2:=h.sym _ _ g2
  refine ⟨fun z=>?_,fun z=>?_,fun z=>?_,fun z=>?_⟩
  ·rw [z,g2] at g1;exact hne (Prod.ext z (ym g1).symm)
  ·rw [z,s2] at g1
   have e:=ym g1
   rw [z] at a1;rw [← e] at a2
   have:=qv hw.nd a1 b2;have:=qv hw.nd a2 b1;omega
  ·rw [z,g2] at s1
   have e:=ym s1
   rw [z] at a2;rw [← e] at a1
   have:=qv hw.nd a1 b2;have:=qv hw.nd a2 b1;omega
  ·rw [z,s2] at s1;exact hne (Prod.ext (ym s1).symm z)
 have pg:∀ q∈L,(q∈tps∨(q.2,q.1)∈tps)∧q.1∈ss∧q.2∈ss∧q.1≠q.2:=fun q hq=>⟨(mem q hq).2.1,inn (mem q hq).2.1⟩
 have hl:L.length≤30:=by
  have:=qcT (l:=qt L) (m:=ss) nd fun s hs=>by
   obtain ⟨q,hq,hs⟩:=List.mem_flatMap.mp hs
   simp only [List.mem_cons,List.not_mem_nil,or_false] at hs
   rcases hs with rfl | rfl
   ·exact (pg q hq).2.1
   ·exact (pg q hq).2.2.1
  rw [qao] at this
  have:=hw.few
  omega
 refine ⟨⟨pg,nd,hl⟩,funext fun a=>qdx fun b=>?_⟩
 rw [qdv nd]
 constructor
 ·rintro (z | z)
  ·exact ((hL _ _).mp z).2
  ·exact h.sym _ _ ((hL _ _).mp z).2
 ·intro e
  obtain ⟨m1,m2,ne⟩:=inn (h.tie _ _ e)
  obtain ⟨i,hi⟩:=yf m1
  obtain ⟨j,hj⟩:=yf m2
  rcases Nat.lt_trichotomy i j with l | l | l
  ·exact .inl ((hL _ _).mpr ⟨(jI hw hA).mpr ⟨h.tie _ _ e,i,j,l,hi,hj⟩,e⟩)
  ·subst l;rw [hi] at hj;exact absurd (ym hj) ne
  ·exact .inr ((hL _ _).mpr ⟨(jI hw hA).mpr ⟨(h.tie _ _ e).symm,j,i,l,hj,hi⟩,h.sym _ _ e⟩)
theorem tps_ok (hw:WOk ss ns) (hA:Adj ss ns tps) (hT:∀ ab∈tps,ab.1∈ss∧ab.2∈ss∧ab.1≠ab.2) (h:PGo ss tps qs):PGo ss tps (qa9 (qR ss ns ss.length) qs)∧pt (qa9 (qR ss ns ss.length) qs)=pt qs:=
 qef hw hA hT h.fn (fun a b=>by unfold qa9;rw [yp,decide_eq_true_iff]) List.filter_sublist
end
theorem qdD {f:Str→Option Str} {rs:List Str} (h:TurnR f rs):∃ g:Str→Option Str,∀ a b,g a=some b↔flipR f rs a b:=
 ⟨fun a=>@dite _ (∃ b,flipR f rs a b) (Classical.propDecidable _) (fun z=>some z.choose) fun _=>none,fun a b=>by
  dsimp only
  split
  ·rename_i z
   exact ⟨fun e=>by rw [← ym e];exact z.choose_spec,fun e=>congrArg some (z.choose_spec.one h e)⟩
  ·rename_i z
   exact ⟨(fun e=>by cases e),fun e=>absurd ⟨b,e⟩ z⟩⟩
section
variable {ss:List Str} {tps qs:List (Str×Str)} {f g:Str→Option Str} {rs:List Str}
theorem qdE (h:TurnR f rs) (hf:PFn ss tps f) (ha:∀ a b,adjR rs a b→tA tps a b) (hg:∀ a b,g a=some b↔flipR f rs a b):PFn ss tps g:=
 ⟨fun a b e=>(hg _ _).mpr (((hg _ _).mp e).symm h),fun a b e=>((hg _ _).mp e).elim (fun z=>hf.tie _ _ z.2) fun z=>ha _ _ z.1⟩
theorem qcY (h:TurnR f rs) (hg:∀ a b,g a=some b↔flipR f rs a b) (hn:ss.Nodup) (hin:∀ s∈rs,s∈ss) {a b:Str} (ha:rs[0]?=some a) (hb:rs[rs.length - 1]?=some b):qaQ g ss + 2=qaQ f ss + (if (f a).isSome then 0 else 2) + (if (f b).isSome then 0 else 2):=by
 have h2:=h.two
 have ag:=h.again hg
 unfold qaQ
 rw [qcc hn h.nd hin,qcc (p:=fun s=>(f s).isSome) hn h.nd hin]
 have r1:=qdB h ha hb
 have r2:=qdB ag ha hb
 have eo:(ss.filter fun s=>(g s).isSome&&!decide (s∈rs))=ss.filter fun s=>(f s).isSome&&!decide (s∈rs):=List.filter_congr fun s _=>by
  by_cases z:s∈rs
  ·rw [decide_eq_true z];simp
  ·have:g s=f s:=qdx fun b=>by
    rw [hg]
    exact ⟨fun y=>y.elim (fun x=>x.2) fun x=>absurd x.1.mem.1 z,fun y=>.inl ⟨z,y⟩⟩
   rw [this]
 rw [eo]
 obtain ⟨t,ht⟩:∃ t,rs[1]?=some t:=⟨_,yb (by omega)⟩
 obtain ⟨u,hu⟩:∃ u,rs[rs.length - 2]?=some u:=⟨_,yb (by omega)⟩
 have e1:=qcW h hg ⟨0,.inl ⟨ha,ht⟩⟩ (h.fst a t ha ht) (ag.fst a t ha ht)
 have e2:=qcW h hg (a:=b) (t:=u) ⟨rs.length - 2,.inr ⟨hu,by rw [show rs.length - 2 + 1=rs.length - 1 by omega];exact hb⟩⟩ (h.lst b u hb hu) (ag.lst b u hb hu)
 rw [e1,e2] at r2
 generalize (rs.filter fun s=>(g s).isSome).length=x1 at r2 ⊢
 generalize (rs.filter fun s=>(f s).isSome).length=x2 at r1 ⊢
 cases e3:(f a).isSome<;>cases e4:(f b).isSome<;>rw [e3,e4] at r1 r2<;>simp at r1 r2 ⊢<;>omega
theorem qbo {A:Str→Str→Prop} (hs:∀ a b,f a=some b→f b=some a) (nd:rs.Nodup) (two:2≤rs.length) (st:Turns A f rs) (hd:∀ s,rs[0]?=some s→f s=none) (tl:∀ s t,rs[rs.length - 1]?=some s→rs[rs.length - 2]?=some t→f s=none∨f s=some t):TurnR f rs:=by
 refine ⟨nd,two,hs,fun j r s t hr h1 ht=>?_,fun s t h1 _=>.inl (hd s h1),tl⟩
 have a1:=(st j r s hr h1).2
 have a2:=(st (j + 1) s t h1 ht).2
 have:f s=some r↔f r=some s:=⟨fun z=>hs _ _ z,fun z=>hs _ _ z⟩
 rw [this,a1,a2]
 omega
theorem qcd (st:Turns (tA tps) f rs):∀ a b,adjR rs a b→tA tps a b:=fun a b h=>by
 obtain ⟨j,⟨h1,h2⟩ | ⟨h1,h2⟩⟩:=h
 ·exact (st j _ _ h1 h2).1
 ·exact (st j _ _ h1 h2).1.symm
theorem Aug.row (h:Aug (tA tps) (pt qs) rs) (hl:rs.length≤1000) (hT:∀ ab∈tps,ab.1∈ss∧ab.2∈ss∧ab.1≠ab.2):RowG ss tps qs rs:=by
 refine ⟨h.nd,h.two,hl,fun r hr=>?_,fun j ab e=>?_,h.hd,h.tl⟩
 ·obtain ⟨i,hi⟩:=yf hr
  have hil:=(yc.mp hi).1
  have h2:=h.two
  have inn:∀ {a b:Str},tA tps a b→a∈ss∧b∈ss:=fun z=>z.elim (fun y=>⟨(hT _ y).1,(hT _ y).2.1⟩) fun y=>⟨(hT _ y).2.1,(hT _ y).1⟩
  by_cases h0:i + 1 < rs.length
  ·exact (inn (h.st i r _ hi (yb h0)).1).1
  ·refine (inn (h.st (i - 1) _ r (yb (by omega)) (by rw [show i - 1 + 1=i by omega];exact hi)).1).2
 ·obtain ⟨e1,e2⟩:=stp_at.mp e
  obtain ⟨k1,k2⟩:=h.st j _ _ e1 e2
  exact ⟨k1,decide_eq_decide.mpr k2⟩
theorem Aug.turn (h:Aug (tA tps) (pt qs) rs) (hs:∀ a b,pt qs a=some b→pt qs b=some a):TurnR (pt qs) rs:=
 qbo hs h.nd h.two h.st h.hd fun s t e _=>.inl (h.tl s e)
theorem qdF {ns:List Nat} (hw:WOk ss ns) (hA:Adj ss ns tps) (hT:∀ ab∈tps,ab.1∈ss∧ab.2∈ss∧ab.1≠ab.2) (hq:PGo ss tps qs) (h:Aug (tA tps) (pt qs) rs) (hl:rs.length≤1000):PGo ss tps (flT (qR ss ns ss.length) qs rs)∧(flT (qR ss ns ss.length) qs rs).length=qs.length + 1:=by
 have ht:=h.turn hq.fn.sym
 obtain ⟨g,hg⟩:=qdD ht
 obtain ⟨k1,k2⟩:=qef hw hA hT (qdE ht hq.fn (qcd h.st) hg) (L:=flT (qR ss ns ss.length) qs rs) (fun a b=>by rw [flT_flip ht,hg]) List.filter_sublist
 refine ⟨k1,?_⟩
 have c1:=hq.cnt hw.nd
 have c2:=k1.cnt hw.nd
 rw [k2] at c2
 have h2:=h.two
 obtain ⟨a,ha⟩:∃ t,rs[0]?=some t:=⟨_,yb (by omega)⟩
 obtain ⟨b,hb⟩:∃ t,rs[rs.length - 1]?=some t:=⟨_,yb (by omega)⟩
 have:=qcY ht hg hw.nd (h.row hl hT).inn ha hb
 rw [h.hd a ha,h.tl b hb] at this
 simp at this
 omega
end
theorem sc_greatest_from:FnScope ["web", "pairs", "now", "rows", "row"] ["web", "pairs"] (qd jj):=fS
def MxF (ss:List Str) (tps qs:List (Str×Str)):Prop:=∃ S:FS,Fn (tA tps) (pt qs) S ss
structure Wt (cw:Addr) (H:Hp) (x:Addr) (ss:List Str) (ns:List Nat) (tps:List (Str×Str)):Prop where
 web:WebAt cw H x ss ns
 adj:Adj ss ns tps
 ok:∀ ab∈tps,ab.1∈ss∧ab.2∈ss∧ab.1≠ab.2
theorem Wt.same {cw:Addr} {H H':Hp} {x:Addr} {ss:List Str} {ns:List Nat} {tps:List (Str×Str)} (h:Wt cw H x ss ns tps) (s:L2.Same H H'):Wt cw H' x ss ns tps:=⟨h.web.same s,h.adj,h.ok⟩
theorem Wt.wok {cw:Addr} {H:Hp} {x:Addr} {ss:List Str} {ns:List Nat} {tps:List (Str×Str)} (h:Wt cw H x ss ns tps):WOk ss ns:=by obtain ⟨_,_,_,_,_,_,_,_,z⟩:=h.web;exact z
theorem Wt.wb {cw:Addr} {H:Hp} {x:Addr} {ss:List Str} {ns:List Nat} {tps qs:List (Str×Str)} (h:Wt cw H x ss ns tps) (g:PGo ss tps qs):Wb (tA tps) ss qs:=by
 refine ⟨⟨fun z=>Or.symm z,fun z e=>?_,fun {a b} e=>g.fn.sym a b e,fun {a b} e=>g.fn.tie a b e⟩,fun a b z=>z.elim (fun y=>(h.ok _ y).1) fun y=>(h.ok _ y).2.1,g.nd,h.wok.few,h.wok.nd⟩
 rcases z with z | z
 ·exact (h.ok _ z).2.2 e
 ·exact (h.ok _ z).2.2 e.symm
theorem Wt.bes {cw:Addr} {H:Hp} {x:Addr} {ss:List Str} {ns:List Nat} {tps:List (Str×Str)} (h:Wt cw H x ss ns tps):∀ (j:Nat) z u,ss[j]?=some z→(u∈inB ss 0 (ns.getD j 0)↔tA tps z u):=fun j z u e=>by
 rw [zH h.wok.nd,yp]
 constructor
 ·rintro ⟨h1,h2⟩
  exact (h.adj j _ z u e (by rw [yb (List.idxOf_lt_length_of_mem h1),List.getElem_idxOf])).mp h2
 ·intro t
  have hu:u∈ss:=t.elim (fun y=>(h.ok _ y).2.1) fun y=>(h.ok _ y).1
  exact ⟨hu,(h.adj j _ z u e (by rw [yb (List.idxOf_lt_length_of_mem hu),List.getElem_idxOf])).mpr t⟩
theorem qeX {cf cw:Addr} {H0 H:Hp} {a:Fo} {ss:List Str} {ns:List Nat} {tps qs:List (Str×Str)} {S:FS} {dn wt:List Str} (h:FoD cf cw H0 H a ss ns qs S dn wt .non (tA tps)) (W:Wb (tA tps) ss qs):Fn (tA tps) (pt qs) S ss:=by
 rcases h.en with ⟨_,rfl,I,C,sg⟩ | ⟨t,r,e,_⟩
 ·have ev:∀ v,v∈dn↔S.rows v≠none:=fun v=>by have:=h.fo.evi v;rwa [List.append_nil] at this
  refine ⟨I,W.gr,W.inn,W.nd,fun v u hv ha=>(C.cl v u ((ev v).mpr hv) ha).imp id fun z=>⟨z.1,Classical.byContradiction fun y=>z.2 ((ev u).mpr y)⟩,sg,fun v hv=>h.fo.evs v ((h.fo.evi v).mpr hv)⟩
 ·cases e
def FRow (ss:List Str) (tps qs:List (Str×Str)) (H:Hp) (v:V) (H':Hp):Prop:=L2.Same H H'∧((v=.non∧MxF ss tps qs)∨∃ (r:Addr) (rs:List Str),v=.ref r∧H r=none∧H' r=some (.lst (rs.map V.str))∧rs.length≤1000∧Aug (tA tps) (pt qs) rs)
inductive spGf (cw:Addr) (vs:List V) (H:Hp) (Q:VK) (E:XK):Prop|mk (x l:Addr) (ss:List Str) (ns:List Nat) (us:List Addr) (tps qs:List (Str×Str)) (_:vs=[.ref x,.ref l]) (_:Wt cw H x ss ns tps) (_:PL H l us qs) (_:PGo ss tps qs) (_:∀ (t l2 r2:Addr) (ls:List Addr) (ws:List V) (rs:List (Str×Str)) (H':Hp),L2.Same H H'→H' t=some (.tup [.ref l2,.ref r2])→PL H' l2 ls rs→H' r2=some (.lst ws)→rs.length=qs.length + ws.length→PGo ss tps rs→MxF ss tps rs→Q (.ref t) H')
theorem qdU {G:Hp} {x l y dx:Addr} {ss:List Str} {ns:List Nat} {us:List Addr} {tps qs:List (Str×Str)} {Q:VK} {E:XK} (W:Wt cw G x ss ns tps) (hP:PL G l us qs) (hG:PGo ss tps qs) (hy:G y=none) (hd:G dx=none) (hne:dx≠y)
  (h:∀ H0 H2 a S dn wt lo,a.x=y→FoD (cc 9) cw H0 H2 a ss ns qs S dn wt lo (tA tps)→L2.Same G H2→Q .non H2):spFi cc cw [.ref y,.ref x,.ref l] (upd (upd G dx (.own y)) y (.ins (cc 9) dx [])) Q E:=by
 have s2:=qO (qO (Sr G) (o:=.own y) hd) (o:=.ins (cc 9) dx []) (show upd G dx (.own y) y=none by rw [qg (Ne.symm hne)];exact hy)
 refine ⟨y,dx,x,l,ss,ns,us,tps,qs,tA tps,rfl,qb,W.web.same s2,W.adj,W.wb hG,W.wok.nm,W.bes,hP.same s2,hG.few,hG.inn,fun H0 H' a S dn wt lo ea _ hD so=>h H0 H' a S dn wt lo ea hD fun c o e=>?_⟩
 refine hD.fo.sm c o (so c o ?_)
 rw [zN (fun z=>by rw [z,hy] at e;cases e),qg (fun z=>by rw [z,hy] at e;cases e),qg (fun z=>by rw [z,hd] at e;cases e)]
 exact e
theorem qfk {H0 H2:Hp} {a:Fo} {ss:List Str} {ns:List Nat} {tps qs:List (Str×Str)} {S:FS} {dn wt:List Str} {lo:V} {Q:VK} {E:XK} (hD:FoD (cc 9) cw H0 H2 a ss ns qs S dn wt lo (tA tps)) (hW:Wb (tA tps) ss qs) (h:∀ v H',FRow ss tps qs H2 v H'→Q v H'):spFr cc cw [.ref a.x] H2 Q E:=by
 refine ⟨H0,a,ss,ns,qs,S,dn,wt,lo,_,rfl,hD,fun e=>?_,fun t r e et hA l hl=>?_⟩
 ·subst e
  exact h _ _ ⟨L2.Same.refl _,.inl ⟨rfl,S,qeX hD hW⟩⟩
 ·refine h _ _ ⟨qO (Sr _) hl,.inr ⟨l,r,rfl,hl,qb,?_,hA⟩⟩
  rcases hD.en with ⟨e',_⟩ | ⟨t',r',e',et',_,_,hl'⟩
  ·rw [e] at e';cases e'
  ·rw [e] at e';cases e'
   rw [et] at et'
   have:=congrArg List.length (show r.map V.str=r'.map V.str by injection (ym et'))
   rw [ya,ya] at this
   omega
theorem ok_gf (F:Fun K "greatest_from" "greatest_from" jj f fd) (T:Txt K mg cc cw) (D_told_pairs:DefOk P w K mg base CX0 10 "told_pairs" ["web", "pairs"] (spTp cw)) (D_Forest:MakeOk P w K mg base CX0 10 (cc 9) "Forest" ["self", "web", "pairs"] (spFi cc cw)) (D_Forest_row:MethOk P w K mg base CX0 1 (cc 9) "row" ["self"] (spFr cc cw)) (D_turned:DefOk P w K mg base CX0 12 "turned" ["web", "pairs", "row"] (spTu cw)):FnOk P w K mg base CX0 13 f fd ["web", "pairs"] (spGf cw):=by
 refine F.ok sc_greatest_from fun _ _ _ _ H vs Q E hr h=>?_
 ·obtain ⟨x,l,ss,ns,us,tps,qs,rfl,W,hP,hG,q⟩:=h
  have hu:=j8 hr
  refine ⟨_,(qc (qr (i:=2) sc_greatest_from.nd rfl (Or.inl rfl) (qp D_told_pairs (hmR hr) qC (qa (pv 0) (qa (pv 1) qe))))
 (qc (qr (i:=3) sc_greatest_from.nd rfl (Or.inl rfl) (je qe))
 (qc (qr (i:=4) sc_greatest_from.nd rfl (Or.inl rfl) (jm D_Forest_row (hmR hr) (zz D_Forest (hmR hr) (qa (pv 0) (qa (pv 2) qe)))))
 (qc (qaL PassesOwn.never (qo qcj (pv 4) zD (qB _))
 (qc (jr (qbu (K:=K) rfl PySem.F.plainAttrs_list PySem.F.slot_list_append PySem.F.type_list_append jz (pv 3) (qa (pv 4) qe)))
 (qc (qr (i:=2) sc_greatest_from.nd rfl (Or.inl rfl) (qp D_turned (hmR hr) qC (qa (pv 0) (qa (pv 2) (qa (pv 4) qe)))))
 (qf (qr (i:=4) sc_greatest_from.nd rfl (Or.inl rfl) (jm D_Forest_row (hmR hr) (zz D_Forest (hmR hr) (qa (pv 0) (qa (pv 2) qe)))))))))
 (qf (qm (zk (qa (pv 2) (qa (pv 3) qe))))))))),?_⟩
  ext
  refine ⟨x,l,ss,ns,us,tps,qs,rfl,W.web,W.adj,hP,hG,fun l1 ls1 H1 s1 hl0 hl1 _ hA1=>?_⟩
  ext
  refine ⟨by decide,fun r2 hr2=>?_⟩
  have s2:=qO (Sr H1) (o:=.lst []) hr2
  have er2:upd H1 r2 (.lst []) r2=some (.lst []):=qb
  have W2:=W.same (s1.trans s2)
  have t0:=tps_ok W.wok W.adj W.ok hG
  have hc0:(qa9 (qR ss ns ss.length) qs).length=qs.length + 0:=by
   have c1:=hG.cnt W.wok.nd
   have c2:=t0.1.cnt W.wok.nd
   rw [t0.2] at c2
   omega
  have hP2:PL (upd H1 r2 (.lst [])) l1 ls1 (qa9 (qR ss ns ss.length) qs):=⟨s2 _ _ hl1,hA1.mono fun _ _ z=>s2 _ _ z.2.2⟩
  have s02:=s1.trans s2
  generalize upd H1 r2 (.lst [])=G at s02 er2 W2 hP2
  generalize qa9 (qR ss ns ss.length) qs=ps at hP2 t0 hc0
  replace t0:=t0.1
  ext
  refine fun y dx hy hdx hne=>qdU W2 hP2 t0 hy hdx hne fun H0 H3 a S dn wt lo ea hD s3=>?_
  subst ea
  obtain ⟨fx,ff,fx1,_,_,_,fx2⟩:=id hD.fo.obj
  refine ⟨rfl,a.x,fx,ff,rfl,fx1,fx2 _ (by decide +kernel),?_⟩
  ext
  refine qfk hD (W2.wb t0) fun v H4 hv=>?_
  have s03:=s02.trans s3
  have hr20:H r2=none:=s1.free hr2
  have nl12:l1≠r2:=fun e=>by rw [e,hr2] at hl1;cases hl1
  ext
  obtain ⟨Wv,hW0⟩:∃ Wv:Nat→L2.St→Hp→Prop,Wv=fun m σ J=>∃ (ln:Addr) (us:List Addr) (ps:List (Str×Str)) (ws:List V) (v:V),σ=[some (.ref x),some (.ref l),some (.ref ln),some (.ref r2),some v]∧L2.Same H J∧PL J ln us ps∧ln≠r2∧PGo ss tps ps∧J r2=some (.lst ws)∧ps.length=qs.length + ws.length∧m=8 - ps.length ∧
   ((v=.non∧MxF ss tps ps)∨∃ (r:Addr) (rs:List Str),v=.ref r∧r≠r2∧J r=some (.lst (rs.map V.str))∧rs.length≤1000∧Aug (tA tps) (pt ps) rs):=⟨_,rfl⟩
  refine ⟨Wv,⟨_,by
   rw [hW0]
   refine ⟨l1,ls1,ps,[],v,rfl,s03.trans hv.1,hP2.same (s3.trans hv.1),nl12,t0,hv.1 _ _ (s3 _ _ er2),hc0,rfl,hv.2.imp id ?_⟩
   rintro ⟨r,rs,e1,e2,e3,e4,e5⟩
   exact ⟨r,rs,e1,(fun z=>by rw [z,s3 _ _ er2] at e2;cases e2),e3,e4,e5⟩⟩,fun m σ J hWv=>?_⟩
  rw [hW0] at hWv
  obtain ⟨ln,us,ps,ws,v,rfl,sJ,hPJ,nln,gJ,er2,hc,hm,hv⟩:=hWv
  ext
  have hfew:2 * ps.length≤14:=by
   have:=gJ.cnt W.wok.nd
   have h2:qaQ (pt ps) ss≤ss.length:=List.length_filter_le _ _
   have:=W.wok.few
   omega
  rcases hv with ⟨rfl,mx⟩ | ⟨r,rs,rfl,nr,er,hl,au⟩
  ·refine ⟨rfl,_,rfl,qU (fun h=>by simp at h) fun _=>?_⟩
   ext
   refine ⟨by show 2≤sizeLine;decide,fun t ht=>?_⟩
   have s9:=qO (Sr J) (o:=.tup [.ref ln,.ref r2]) ht
   exact q t ln r2 us ws ps _ (sJ.trans s9) qb (hPJ.same s9) (s9 _ _ er2) hc gJ mx
  ·refine ⟨rfl,_,rfl,zv ⟨fun σ' H'=>∃ m',m' < m∧Wv m' σ' H',fun _ _ z=>z,?_⟩⟩
   ext
   refine ⟨.inl ⟨rfl,_,SqL.of er2⟩,?_⟩
   ext
   refine ⟨r2,_,_,rfl,rfl,er2,qh (by omega),?_⟩
   have sU:=qaH sJ (o:=.lst (ws++[.ref r])) hr20
   have hPU:PL (upd J r2 (.lst (ws++[.ref r]))) ln us ps:=⟨by rw [qg nln];exact hPJ.1,hPJ.2.mono fun t ab z=>by rw [qg (qal z er2 (fun e=>by cases e))];exact z⟩
   have erU:upd J r2 (.lst (ws++[.ref r])) r=some (.lst (rs.map V.str)):=by rw [qg nr];exact er
   have e2U:upd J r2 (.lst (ws++[.ref r])) r2=some (.lst (ws++[.ref r])):=qb
   generalize upd J r2 (.lst (ws++[.ref r]))=G1 at sU hPU erU e2U ⊢
   have WU:=W.same sU
   ext
   refine ⟨x,ln,r,ss,ns,us,tps,ps,rs,rfl,⟨WU.web,WU.adj,hPU,gJ,erU,au.row hl W.ok⟩,fun l3 ls3 H5 s5 hl30 hl3 _ hA3=>?_⟩
   obtain ⟨g3,c3⟩:=qdF W.wok W.adj W.ok gJ au hl
   generalize flT (qR ss ns ss.length) ps rs=p3 at hA3 g3 c3
   have n3:l3≠r2:=fun e=>by rw [e,e2U] at hl30;cases hl30
   have hP3:PL H5 l3 ls3 p3:=⟨hl3,hA3.mono fun _ _ z=>z.2.2⟩
   have s05:=sU.trans s5
   have W5:=W.same s05
   have e25:=s5 _ _ e2U
   ext
   refine fun y dx hy hdx hne=>qdU W5 hP3 g3 hy hdx hne fun H6 H7 b S5 dn5 wt5 lo5 eb hD5 s7=>?_
   subst eb
   obtain ⟨fy,fg,fy1,_,_,_,fy2⟩:=id hD5.fo.obj
   refine ⟨rfl,b.x,fy,fg,rfl,fy1,fy2 _ (by decide +kernel),?_⟩
   ext
   refine qfk hD5 (W5.wb g3) fun v H8 hv=>?_
   ext
   refine ⟨8 - p3.length,by omega,?_⟩
   rw [hW0]
   refine ⟨l3,ls3,p3,ws++[.ref r],v,rfl,(s05.trans s7).trans hv.1,hP3.same (s7.trans hv.1),n3,g3,hv.1 _ _ (s7 _ _ e25),by rw [c3,hc,List.length_append];rfl,rfl,hv.2.imp id ?_⟩
   rintro ⟨r',rs',e1,e2,e3,e4,e5⟩
   exact ⟨r',rs',e1,(fun z=>by rw [z,s7 _ _ e25] at e2;cases e2),e3,e4,e5⟩
theorem sc_greatest:FnScope ["web"] ["web"] (qd zg):=fS
theorem sc_count_of:FnScope ["web"] ["web"] (qd zh):=fS
inductive spGr (cw:Addr) (vs:List V) (H:Hp) (Q:VK) (E:XK):Prop|mk (x:Addr) (ss:List Str) (ns:List Nat) (tps:List (Str×Str)) (_:vs=[.ref x]) (_:Wt cw H x ss ns tps) (_:∀ (l:Addr) (ls:List Addr) (rs:List (Str×Str)) (H':Hp),L2.Same H H'→PL H' l ls rs→PGo ss tps rs→MxF ss tps rs→Q (.ref l) H')
inductive spCo (cw:Addr) (vs:List V) (H:Hp) (Q:VK) (E:XK):Prop|mk (x:Addr) (ss:List Str) (ns:List Nat) (tps:List (Str×Str)) (_:vs=[.ref x]) (_:Wt cw H x ss ns tps) (_:∀ (rs:List (Str×Str)) (H':Hp),L2.Same H H'→PGo ss tps rs→MxF ss tps rs→Q (.int rs.length) H')
theorem ok_gr (F:Fun K "greatest" "greatest" zg f fd) (T:Txt K mg cc cw) (D_greatest_from:DefOk P w K mg base CX0 13 "greatest_from" ["web", "pairs"] (spGf cw)):FnOk P w K mg base CX0 14 f fd ["web"] (spGr cw):=by
 refine F.ok sc_greatest fun _ _ _ _ H vs Q E hr h=>?_
 ·obtain ⟨x,ss,ns,tps,rfl,W,q⟩:=h
  have hu:=j8 hr
  refine ⟨_,(qf (qm (qx (qy (K:=K) rfl hu) (qp D_greatest_from (hmR hr) qC (qa (pv 0) (qa (je qe) qe))) qi (fun _ _=>rfl)))),?_⟩
  ext
  refine ⟨by decide,fun l hl=>?_⟩
  have s1:=qO (Sr H) (o:=.lst []) hl
  ext
  refine ⟨x,l,ss,ns,[],tps,[],rfl,W.same s1,⟨qb,.nil⟩,⟨(fun q h=>by cases h),List.nodup_nil,by decide⟩,fun t l2 r2 ls ws rs H' s2 et hP _ _ hG hM=>?_⟩
  exact .inl (qaK et (v:=.ref l2) (qz (j:=0) rfl) (q l2 ls rs H' (s1.trans s2) hP hG hM))
theorem ok_co (F:Fun K "count_of" "count_of" zh f fd) (T:Txt K mg cc cw) (D_greatest:DefOk P w K mg base CX0 14 "greatest" ["web"] (spGr cw)):FnOk P w K mg base CX0 15 f fd ["web"] (spCo cw):=by
 refine F.ok sc_count_of fun _ _ _ _ H vs Q E hr h=>?_
 ·obtain ⟨x,ss,ns,tps,rfl,W,q⟩:=h
  have hu:=j8 hr
  refine ⟨_,(qf (qm (qw (zw (K:=K) rfl) rfl T.b_len boot_len (qa (qp D_greatest (hmR hr) qC (qa (pv 0) qe)) qe)))),?_⟩
  ext
  refine ⟨x,ss,ns,tps,rfl,W,fun l ls rs H' s1 hP hG hM=>?_⟩
  refine qai hP.1 ?_
  rw [ya,hP.2.len]
  exact q rs H' s1 hG hM
def tB (tps:List (Str×Str)) (a b:Str):Bool:=decide ((a,b)∈tps)||decide ((b,a)∈tps)
theorem tB_iff {tps:List (Str×Str)} {a b:Str}:tB tps a b=true↔tA tps a b:=by
 unfold tB tA
 rw [Bool.or_eq_true,decide_eq_true_iff,decide_eq_true_iff]
def del (l:List Str) (y:Str):List Str:=l.filter fun a=>!decide (a=y)
def mo (tps:List (Str×Str)):Nat→List Str→Nat
 | 0,_=>0
 | _,[]=>0
 | n + 1,x::r=>(r.filter (tB tps x)).foldl (fun m y=>max m (1 + mo tps n (del r y))) (mo tps n r)
theorem qbC {α:Type} (h:α→Nat):∀ (L:List α) (i:Nat),i≤L.foldl (fun m y=>max m (h y)) i∧(∀ y∈L,h y≤L.foldl (fun m y=>max m (h y)) i)∧(L.foldl (fun m y=>max m (h y)) i=i∨∃ y∈L,L.foldl (fun m y=>max m (h y)) i=h y)
 | [],i=>⟨yh _,(fun y hy=>by cases hy),.inl rfl⟩
 | a::r,i=>by
  obtain ⟨h1,h2,h3⟩:=qbC h r (max i (h a))
  rw [List.foldl_cons]
  refine ⟨yi (Nat.le_max_left _ _) h1,fun y hy=>?_,?_⟩
  ·rcases List.mem_cons.mp hy with rfl | hy
   ·exact yi (Nat.le_max_right _ _) h1
   ·exact h2 y hy
  ·rcases h3 with z | ⟨y,hy,z⟩
   ·rw [z]
    rcases Nat.le_total i (h a) with k | k
    ·exact .inr ⟨a,List.mem_cons_self,Nat.max_eq_right k⟩
    ·exact .inl (Nat.max_eq_left k)
   ·exact .inr ⟨y,List.mem_cons_of_mem _ hy,z⟩
structure Mt (tps:List (Str×Str)) (l:List Str) (f:Str→Option Str):Prop where
 sym:∀ a b,f a=some b→f b=some a
 tie:∀ a b,f a=some b→tA tps a b
 inn:∀ a b,f a=some b→a∈l
theorem qad {f:Str→Option Str} {x:Str} {r:List Str}:qaQ f (x::r)=qaQ f r + (if (f x).isSome=true then 1 else 0):=by
 unfold qaQ
 rw [List.filter_cons]
 split
 ·rw [List.length_cons]
 ·rfl
theorem zS {f g:Str→Option Str} {l:List Str} (h:∀ s∈l,(f s).isSome=(g s).isSome):qaQ f l=qaQ g l:=by
 unfold qaQ
 rw [List.filter_congr h]
theorem mem_del {l:List Str} {y a:Str}:a∈del l y↔a∈l∧a≠y:=by
 unfold del
 rw [yp,Bool.not_eq_true',decide_eq_false_iff_not]
theorem zr {f:Str→Option Str} {y:Str}:∀ {r:List Str},r.Nodup→y∈r→qaQ f r=qaQ f (del r y) + (if (f y).isSome=true then 1 else 0)
 | [],_,h=>by cases h
 | x::r,hn,h=>by
  obtain ⟨n1,n2⟩:=yo.mp hn
  by_cases e:x=y
  ·subst e
   have:del (x::r) x=r:=by
    unfold del
    rw [List.filter_cons,if_neg (by rw [decide_eq_true rfl];decide)]
    exact List.filter_eq_self.mpr fun a ha=>by rw [yl (fun z=>n1 (by rw [← z];exact ha))];rfl
   rw [this,qad]
  ·have hy:=(List.mem_cons.mp h).resolve_left (Ne.symm e)
   have:del (x::r) y=x::del r y:=by unfold del;rw [List.filter_cons,if_pos (by rw [yl e];rfl)]
   rw [this,qad,qad,zr n2 hy]
   omega
theorem zt (l:List Str) (y:Str):(del l y).length≤l.length:=List.length_filter_le _ _
section
variable {tps:List (Str×Str)}
theorem qaB (hi:∀ a b,tA tps a b→a≠b):∀ (n:Nat) {l:List Str} {f:Str→Option Str},l.length≤n→l.Nodup→Mt tps l f→qaQ f l≤2 * mo tps n l
 | n,[],f,_,_,_=>Nat.zero_le _
 | 0,x::r,f,h,_,_=>by simp at h
 | n + 1,x::r,f,h,hn,hf=>by
  obtain ⟨n1,n2⟩:=yo.mp hn
  have hl:r.length≤n:=by simpa using h
  obtain ⟨k1,k2,_⟩:=qbC (fun y=>1 + mo tps n (del r y)) (r.filter (tB tps x)) (mo tps n r)
  rw [qad]
  show _≤2 * (r.filter (tB tps x)).foldl (fun m y=>max m (1 + mo tps n (del r y))) (mo tps n r)
  cases e:f x with
  | none =>
   have:=qaB hi n hl n2 (f:=f) ⟨hf.sym,hf.tie,fun a b z=>(List.mem_cons.mp (hf.inn a b z)).resolve_left fun y=>by rw [y,e] at z;cases z⟩
   simp only [Option.isSome_none,Bool.false_eq_true,if_false]
   omega
  | some y =>
   have hxy:=hi _ _ (hf.tie _ _ e)
   have ey:=hf.sym _ _ e
   have hy:=(List.mem_cons.mp (hf.inn y x ey)).resolve_left (Ne.symm hxy)
   have ho:=k2 y (yp.mpr ⟨hy,tB_iff.mpr (hf.tie _ _ e)⟩)
   have:=qaB hi n (l:=del r y) (f:=fun a=>if a=x∨a=y then none else f a) (yi (zt r y) hl) (n2.filter _) ⟨fun a b z=>?_,fun a b z=>?_,fun a b z=>?_⟩
   ·rw [zr n2 hy,ey,zS (g:=fun a=>if a=x∨a=y then none else f a) fun s hs=>?_]
    ·simp only [Option.isSome_some,if_true]
     (try dsimp only at ho)
     omega
    ·obtain ⟨h1,h2⟩:=mem_del.mp hs
     rw [if_neg (fun z=>z.elim (fun z=>n1 (by rw [← z];exact h1)) h2)]
   ·(try dsimp only at z ⊢)
    split at z
    ·cases z
    ·rename_i hne
     have zs:=hf.sym _ _ z
     rw [if_neg (fun w=>?_)]
     ·exact zs
     ·rcases w with w | w
      ·rw [w,e] at zs;exact hne (.inr (ym zs).symm)
      ·rw [w,ey] at zs;exact hne (.inl (ym zs).symm)
   ·(try dsimp only at z)
    split at z
    ·cases z
    ·exact hf.tie _ _ z
   ·(try dsimp only at z)
    split at z
    ·cases z
    ·rename_i hne
     have:=(List.mem_cons.mp (hf.inn a b z)).resolve_left fun w=>hne (.inl w)
     exact mem_del.mpr ⟨this,fun w=>hne (.inr w)⟩
theorem qba (hi:∀ a b,tA tps a b→a≠b):∀ (n:Nat) {l:List Str},l.length≤n→l.Nodup→∃ f,Mt tps l f∧qaQ f l=2 * mo tps n l
 | n,[],_,_=>⟨fun _=>none,⟨(fun a b z=>by cases z),(fun a b z=>by cases z),(fun a b z=>by cases z)⟩,by cases n<;>rfl⟩
 | 0,x::r,h,_=>by simp at h
 | n + 1,x::r,h,hn=>by
  obtain ⟨n1,n2⟩:=yo.mp hn
  have hl:r.length≤n:=by simpa using h
  obtain ⟨_,_,k3⟩:=qbC (fun y=>1 + mo tps n (del r y)) (r.filter (tB tps x)) (mo tps n r)
  show ∃ f,_∧_=2 * (r.filter (tB tps x)).foldl (fun m y=>max m (1 + mo tps n (del r y))) (mo tps n r)
  rcases k3 with z | ⟨y,hy,z⟩
  ·obtain ⟨f,hf,c⟩:=qba hi n hl n2
   refine ⟨f,⟨hf.sym,hf.tie,fun a b e=>List.mem_cons_of_mem _ (hf.inn a b e)⟩,?_⟩
   have hx:f x=none:=by
    cases e:f x with
    | none=>rfl
    | some b=>exact absurd (hf.inn _ _ e) n1
   rw [qad,hx,z,c]
   rfl
  ·obtain ⟨hy,ty⟩:=yp.mp hy
   have ty:=tB_iff.mp ty
   have hxy:=hi _ _ ty
   obtain ⟨f,hf,c⟩:=qba hi n (l:=del r y) (yi (zt r y) hl) (n2.filter _)
   have out:∀ {a b:Str},f a=some b→a≠x∧a≠y:=fun e=>by
    obtain ⟨h1,h2⟩:=mem_del.mp (hf.inn _ _ e)
    exact ⟨fun w=>n1 (by rw [← w];exact h1),h2⟩
   refine ⟨fun a=>if a=x then some y else if a=y then some x else f a,⟨fun a b e=>?_,fun a b e=>?_,fun a b e=>?_⟩,?_⟩
   ·(try dsimp only at e ⊢)
    split at e
    ·cases e;rename_i w;rw [if_neg (Ne.symm hxy),if_pos rfl,w]
    ·split at e
     ·cases e;rename_i w;rw [if_pos rfl,w]
     ·have es:=hf.sym _ _ e
      obtain ⟨o1,o2⟩:=out es
      rw [if_neg o1,if_neg o2];exact es
   ·(try dsimp only at e)
    split at e
    ·cases e;rename_i w;rw [w];exact ty
    ·split at e
     ·cases e;rename_i w;rw [w];exact Or.symm ty
     ·exact hf.tie _ _ e
   ·(try dsimp only at e)
    split at e
    ·rename_i w;rw [w];exact List.mem_cons_self
    ·split at e
     ·rename_i w;rw [w];exact List.mem_cons_of_mem _ hy
     ·exact List.mem_cons_of_mem _ (mem_del.mp (hf.inn _ _ e)).1
   ·rw [qad,zr n2 hy,if_pos rfl,if_neg (Ne.symm hxy),if_pos rfl,zS (g:=f) fun s hs=>?_]
    ·simp only [Option.isSome_some,if_true]
     rw [c,z]
     omega
    ·obtain ⟨h1,h2⟩:=mem_del.mp hs
     rw [if_neg (fun w=>n1 (by rw [← w];exact h1)),if_neg h2]
theorem qdV (hi:∀ a b,tA tps a b→a≠b) {n m:Nat} {l:List Str} (h1:l.length≤n) (h2:l.length≤m) (hn:l.Nodup):mo tps n l=mo tps m l:=by
 obtain ⟨f,hf,c⟩:=qba hi n h1 hn
 obtain ⟨g,hg,d⟩:=qba hi m h2 hn
 have:=qaB hi m h2 hn hf
 have:=qaB hi n h1 hn hg
 omega
variable {ss:List Str} {qs:List (Str×Str)} {S:FS}
theorem Mt.gr {f:Str→Option Str} (hi:∀ a b,tA tps a b→a≠b) (h:Mt tps ss f):Gr (tA tps) f:=⟨fun z=>Or.symm z,fun z=>hi _ _ z,fun {a b} e=>h.sym a b e,fun {a b} e=>h.tie a b e⟩
theorem PGo.mt (g:PGo ss tps qs):Mt tps ss (pt qs):=⟨g.fn.sym,g.fn.tie,fun a b e=>by
 rcases qcU e with z | z
 ·exact (g.inn _ z).2.1
 ·exact (g.inn _ z).2.2.1⟩
theorem qeY (hi:∀ a b,tA tps a b→a≠b) (hn:ss.Nodup) (g:PGo ss tps qs) (m:MxF ss tps qs):qs.length=mo tps ss.length ss:=by
 obtain ⟨S,F⟩:=m
 have c:=g.cnt hn
 have:=qaB hi _ (yh _) hn g.mt
 obtain ⟨f,hf,d⟩:=qba hi _ (yh _) hn
 have k:=F.most (hf.gr hi)
 have k2:(ss.filter fun u=>!(f u).isSome&&(S.rows u).isSome).length≤(snL f ss).length:=qcT (hn.filter _) fun u hu=>by
  obtain ⟨h1,h2⟩:=yp.mp hu
  exact yp.mpr ⟨h1,((Bool.and_eq_true _ _).mp h2).1⟩
 have e1:=qcX (f:=f) (ss:=ss)
 have e2:=qcX (f:=pt qs) (ss:=ss)
 omega
theorem qaC (hi:∀ a b,tA tps a b→a≠b) (hn:ss.Nodup) {v:Str} (hv:v∈ss):mo tps (del ss v).length (del ss v)≤mo tps ss.length ss∧mo tps ss.length ss≤mo tps (del ss v).length (del ss v) + 1:=by
 constructor
 ·obtain ⟨f,hf,c⟩:=qba hi _ (yh _) (hn.filter (fun a=>!decide (a=v)))
  have hfv:f v=none:=by
   cases e:f v with
   | none=>rfl
   | some b=>exact absurd rfl (mem_del.mp (hf.inn _ _ e)).2
  have:=qaB hi _ (yh _) hn (f:=f) ⟨hf.sym,hf.tie,fun a b e=>(mem_del.mp (hf.inn a b e)).1⟩
  rw [zr hn hv,hfv] at this
  simp only [Option.isSome_none,Bool.false_eq_true,if_false] at this
  have c':qaQ f (del ss v)=2 * mo tps (del ss v).length (del ss v):=c
  omega
 ·obtain ⟨f,hf,c⟩:=qba hi _ (yh _) hn
  have hnd:(del ss v).Nodup:=hn.filter _
  rw [zr hn hv] at c
  cases e:f v with
  | none =>
   have:=qaB hi _ (yh _) hnd (f:=f) ⟨hf.sym,hf.tie,fun a b z=>mem_del.mpr ⟨hf.inn a b z,fun w=>by rw [w,e] at z;cases z⟩⟩
   rw [e] at c
   simp at c
   omega
  | some y =>
   have ey:=hf.sym _ _ e
   have hvy:=hi _ _ (hf.tie _ _ e)
   have hy:y∈del ss v:=mem_del.mpr ⟨hf.inn _ _ ey,Ne.symm hvy⟩
   have:=qaB hi _ (yh _) hnd (f:=fun a=>if a=v∨a=y then none else f a) ⟨fun a b z=>?_,fun a b z=>?_,fun a b z=>?_⟩
   ·rw [zr hnd hy,if_pos (show y=v∨y=y from .inr rfl)] at this
    rw [zr hnd hy,e,ey,zS (g:=fun a=>if a=v∨a=y then none else f a) fun s hs=>?_] at c
    ·simp at c this
     omega
    ·obtain ⟨h1,h2⟩:=mem_del.mp hs
     rw [if_neg (fun z=>z.elim (fun z=>(mem_del.mp h1).2 z) h2)]
   ·(try dsimp only at z ⊢)
    split at z
    ·cases z
    ·rename_i hne
     have zs:=hf.sym _ _ z
     rw [if_neg (fun w=>?_)]
     ·exact zs
     ·rcases w with w | w
      ·rw [w,e] at zs;exact hne (.inr (ym zs).symm)
      ·rw [w,ey] at zs;exact hne (.inl (ym zs).symm)
   ·(try dsimp only at z)
    split at z
    ·cases z
    ·exact hf.tie _ _ z
   ·(try dsimp only at z)
    split at z
    ·cases z
    ·rename_i hne
     exact mem_del.mpr ⟨hf.inn a b z,fun w=>hne (.inl w)⟩
theorem mx_loose (hi:∀ a b,tA tps a b→a≠b) (hn:ss.Nodup) (g:PGo ss tps qs) (F:Fn (tA tps) (pt qs) S ss) {v:Str} (hv:v∈ss):mo tps (del ss v).length (del ss v)=mo tps ss.length ss↔S.rows v≠none:=by
 have cm:=qeY hi hn g ⟨S,F⟩
 have c:=g.cnt hn
 have hnd:(del ss v).Nodup:=hn.filter _
 constructor
 ·intro e hv0
  obtain ⟨f,hf,d⟩:=qba hi _ (yh _) hnd
  have hfv:f v=none:=by
   cases e:f v with
   | none=>rfl
   | some b=>exact absurd rfl (mem_del.mp (hf.inn _ _ e)).2
  have hm:Mt tps ss f:=⟨hf.sym,hf.tie,fun a b e=>(mem_del.mp (hf.inn a b e)).1⟩
  have k:=F.most (hm.gr hi)
  have cd:qaQ f ss=qaQ f (del ss v):=by rw [zr hn hv,hfv];rfl
  have e1:=qcX (f:=f) (ss:=ss)
  have e2:=qcX (f:=pt qs) (ss:=ss)
  have hvs:v∈snL f ss:=mem_sn.mpr ⟨hv,hfv⟩
  have k2:(ss.filter fun u=>!(f u).isSome&&(S.rows u).isSome).length≤((snL f ss).erase v).length:=qcT (hn.filter _) fun u hu=>by
   obtain ⟨h1,h2⟩:=yp.mp hu
   obtain ⟨h3,h4⟩:=(Bool.and_eq_true _ _).mp h2
   exact (List.mem_erase_of_ne (fun z=>by rw [z,hv0] at h4;cases h4)).mpr (yp.mpr ⟨h1,h3⟩)
  rw [List.length_erase_of_mem hvs] at k2
  have:=List.length_pos_of_mem hvs
  omega
 ·intro hr
  obtain ⟨r,hr⟩:=some_of hr
  have al:=F.fi.alt v r hr
  refine Nat.le_antisymm (qaC hi hn hv).1 ?_
  suffices h:∃ f,Mt tps ss f∧f v=none∧qaQ f ss=qaQ (pt qs) ss by
   obtain ⟨f,hf,fv,cf⟩:=h
   have:=qaB hi _ (yh _) hnd (f:=f) ⟨hf.sym,hf.tie,fun a b e=>mem_del.mpr ⟨hf.inn a b e,fun w=>by rw [w,fv] at e;cases e⟩⟩
   rw [zr hn hv,fv] at cf
   simp only [Option.isSome_none,Bool.false_eq_true,if_false] at cf
   omega
  obtain ⟨r0,er⟩:=al.tl
  have hlast:r[r.length - 1]?=some v:=by rw [er,List.length_append];simp
  have ho:=al.odd
  by_cases h1:r.length=1
  ·rw [h1] at hlast
   exact ⟨pt qs,g.mt,al.hd v hlast,rfl⟩
  ·have h2:2≤r.length:=by omega
   have lst:∀ s t,r[r.length - 1]?=some s→r[r.length - 2]?=some t→pt qs s=some t:=fun s t hs ht=>by
    have:=(al.st (r.length - 2) t s ht (by rw [show r.length - 2 + 1=r.length - 1 by omega];exact hs)).2.mpr (by omega)
    exact g.fn.sym _ _ this
   have T:=qbo g.fn.sym al.nd h2 al.st al.hd fun s t hs ht=>.inr (lst s t hs ht)
   obtain ⟨f,hf⟩:=qdD T
   have hfn:=qdE (ss:=ss) T g.fn (qcd al.st) hf
   have inn:∀ {a b:Str},tA tps a b→a∈ss:=fun z=>F.inn _ _ z
   have hin:∀ s∈r,s∈ss:=fun s hs=>by
    obtain ⟨i,hi'⟩:=yf hs
    have hil:=(yc.mp hi').1
    by_cases h0:i + 1 < r.length
    ·exact inn (al.st i s _ hi' (yb h0)).1
    ·rw [show i=r.length - 1 by omega,hlast] at hi'
     rw [← ym hi'];exact hv
   obtain ⟨u,hu⟩:∃ u,r[r.length - 2]?=some u:=⟨_,yb (by omega)⟩
   obtain ⟨a,ha⟩:∃ a,r[0]?=some a:=⟨_,yb (by omega)⟩
   have fv:f v=none:=by
    cases e:f v with
    | none=>rfl
    | some b =>
     rcases (hf v b).mp e with ⟨z,_⟩ | ⟨z1,z2⟩
     ·exact absurd (ye hlast) z
     ·rcases z1.at_ al.nd hlast with w | ⟨_,w⟩
      ·have:=(yc.mp w).1;omega
      ·rw [show r.length - 1 - 1=r.length - 2 by omega] at w
       exact absurd (lst v b hlast w) z2
   refine ⟨f,⟨hfn.sym,hfn.tie,fun a b e=>inn (hfn.tie a b e)⟩,fv,?_⟩
   have:=qcY T hf hn hin ha hlast
   rw [al.hd a ha,lst v u hlast hu] at this
   simp at this
   exact this
end
theorem sc_l_partner:FnScope ["_law_pairs", "_law_name", "_law_one", "_law_other"] ["_law_pairs", "_law_name"] (qd jX):=fS
theorem sc_l_singles:FnScope ["_law_names_here", "_law_pairs"] ["_law_names_here", "_law_pairs"] (qd jJ):=fS
theorem sc_l_tied:FnScope ["_law_ties_here", "_law_one", "_law_other"] ["_law_ties_here", "_law_one", "_law_other"] (qd qae):=fS
def ptV (qs:List (Str×Str)) (s:Str):V:=((pt qs s).map V.str).getD .non
inductive spPa (vs:List V) (H:Hp) (Q:VK) (E:XK):Prop|mk (l:Addr) (us:List Addr) (qs:List (Str×Str)) (s:Str) (_:vs=[.ref l,.str s]) (_:PL H l us qs) (_:Q (ptV qs s) H)
def sgl (ss:List Str) (qs:List (Str×Str)):List Str:=ss.filter fun s=>(pt qs s).isNone
inductive spSg (vs:List V) (H:Hp) (Q:VK) (E:XK):Prop|mk (n l:Addr) (ss:List Str) (us:List Addr) (qs:List (Str×Str)) (_:vs=[.ref n,.ref l]) (_:H n=some (.lst (ss.map V.str))) (_:ss.length≤14) (_:PL H l us qs) (_:∀ r,H r=none→Q (.ref r) (upd H r (.lst ((sgl ss qs).map V.str))))
inductive spTd (vs:List V) (H:Hp) (Q:VK) (E:XK):Prop|mk (l:Addr) (ts:List Addr) (tps:List (Str×Str)) (a b:Str) (_:vs=[.ref l,.str a,.str b]) (_:PL H l ts tps) (_:∀ H',L2.Same H H'→Q (.bl (tB tps a b)) H')
theorem ok_pa (F:Fun K "_law_partner" "_law_partner" jX f fd) (T:Txt K mg cc cw):FnOk P w K mg base CX0 1 f fd ["_law_pairs", "_law_name"] spPa:=by
 refine F.ok sc_l_partner fun _ _ _ _ H vs Q E hr h=>?_
 ·obtain ⟨l,us,qs,x,rfl,hP,q⟩:=h
  have hu:=j8 hr
  refine ⟨_,(qc (jL PassesOwn.never rfl (qdr (K:=K) rfl (pv 0)) (qbI rfl (jZ (qq (i:=2) sc_l_partner.nd rfl (Or.inl rfl)) (jZ (qq (i:=3) sc_l_partner.nd rfl (Or.inl rfl)) qaU)))
 (qc (qV (qo (qaj (K:=K) rfl hu) (pv 2) (pv 1) (qB _)) (qf (qm (pv 3))) qu)
 (qf (qV (qo (qaj (K:=K) rfl hu) (pv 3) (pv 1) (qB _)) (qf (qm (pv 2))) qu))))
 (qf (qm zD))),?_⟩
  ext
  refine qeq ?_
  ext
  refine ⟨l,_,rfl,.of hP.1,jf (xs:=us.map V.ref) (fun i σ J=>J=H∧(∃ y2 y3,σ=[some (.ref l),some (.str x),y2,y3])∧pt qs x=pt (qs.drop i) x) ⟨rfl,⟨_,_,rfl⟩,rfl⟩ (fun i σ J _ hp=>by rw [hp.1];exact .of hP.1) (fun i y σ J hy hp=>?_) fun σ J hp=>?_⟩
  ·obtain ⟨rfl,⟨y2,y3,rfl⟩,e⟩:=hp
   rw [yd] at hy
   obtain ⟨t,ht,rfl⟩:=yn.mp hy
   have hi:i < qs.length:=by rw [← hP.2.len];exact (yc.mp ht).1
   obtain ⟨ab,hab⟩:∃ ab,qs[i]?=some ab:=⟨_,yb hi⟩
   have et:=hP.2.at_ i t ab ht hab
   have hdr:qs.drop i=ab::qs.drop (i + 1):=by
    rw [List.drop_eq_getElem_cons hi,(yc.mp hab).2]
   rw [hdr] at e
   have e:pt qs x=if ab.1=x then some ab.2 else if ab.2=x then some ab.1 else pt (qs.drop (i + 1)) x:=e
   refine ⟨t,_,rfl,.of et,rfl,_,_,rfl,_,_,rfl,rfl,?_⟩
   ext
   refine qeU ?_
   ext
   by_cases h1:ab.1=x
   ·rw [if_pos h1] at e
    refine qU (fun _=>?_) fun h=>absurd (decide_eq_true h1) h
    ext
    unfold ptV at q
    rwa [e] at q
   ·rw [if_neg h1] at e
    refine qU (fun h=>absurd (yk h) h1) fun _=>?_
    ext
    refine qeU ?_
    ext
    by_cases h2:ab.2=x
    ·rw [if_pos h2] at e
     refine qU (fun _=>?_) fun h=>absurd (decide_eq_true h2) h
     ext
     unfold ptV at q
     rwa [e] at q
    ·rw [if_neg h2] at e
     refine qU (fun h=>absurd (yk h) h2) fun _=>?_
     exact ⟨rfl,⟨_,_,rfl⟩,e⟩
  ·obtain ⟨rfl,⟨y2,y3,rfl⟩,e⟩:=hp
   rw [ya,hP.2.len,List.drop_length] at e
   ext
   unfold ptV at q
   rwa [e] at q
theorem ok_sg (F:Fun K "_law_singles" "_law_singles" jJ f fd) (T:Txt K mg cc cw) (D_l_partner:DefOk P w K mg base CX0 1 "_law_partner" ["_law_pairs", "_law_name"] spPa):FnOk P w K mg base CX0 2 f fd ["_law_names_here", "_law_pairs"] spSg:=by
 refine F.ok sc_l_singles fun _ _ _ _ H vs Q E hr h=>?_
 ·obtain ⟨n,l,ss,us,qs,rfl,hn,h14,hP,q⟩:=h
  have hu:=j8 hr
  refine ⟨_,(qf (qm (ju (sc:=qd jJ) (XN:=["_law_names_here", "_law_pairs"]) ["_law_name", "_law_pairs"] 1 [1] rfl rfl rfl (by decide +kernel) rfl (by decide +kernel)
  (qT (K:=K) rfl (pv 0)) (fun _ _ _ _=>(qq (i:=0) (show (["_law_name", "_law_pairs"]:List Str).Nodup by decide +kernel) rfl (Or.inl rfl))) qY
  (fun _ _ _ _=>(jy (qo qe5 (qp D_l_partner (hmR hr) qC (qa (pv 1) (qa (pv 0) qe))) zD (qB _))))
  (fun _ _ _ _=>(pv 0))))),?_⟩
  ext
  refine .inl ⟨⟨_,.of hn⟩,qJ (xs:=ss.map V.str) (fun i ys G=>G=H∧ys=(sgl (ss.take i) qs).map V.str) ⟨rfl,rfl⟩ (fun i ys G _ hp'=>by rw [hp'.1];exact .of hn) (fun i y ys G hy hp'=>?_) fun ys G hp'=>?_⟩
  ·obtain ⟨rfl,rfl⟩:=hp'
   rw [yd] at hy
   obtain ⟨x,hx,rfl⟩:=yn.mp hy
   have hil:=(yc.mp hx).1
   have hle:(sgl (ss.take i) qs).length≤i:=yi (List.length_filter_le _ _) (by rw [List.length_take];omega)
   have hst:sgl (ss.take (i + 1)) qs=sgl (ss.take i) qs++(if (pt qs x).isNone=true then [x] else []):=by
    unfold sgl
    rw [List.take_add_one,hx,List.filter_append]
    show _++[x].filter _=_
    rw [List.filter_cons,List.filter_nil]
   ext
   refine ⟨l,us,qs,x,rfl,hP,?_⟩
   ext
   rw [hst]
   unfold ptV
   cases e:pt qs x with
   | none =>
    refine ⟨_,rfl,zv ?_⟩
    ext
    exact ⟨by rw [ya];exact qh (by omega),rfl,by rw [if_pos (show (none:Option Str).isNone=true from rfl),List.map_append];rfl⟩
   | some b =>
    refine ⟨_,rfl,qU (fun h=>by simp at h) fun _=>?_⟩
    exact ⟨rfl,by rw [if_neg (show ¬ (some b).isNone=true from fun z=>by cases z),List.append_nil]⟩
  ·obtain ⟨rfl,rfl⟩:=hp'
   rw [show (ss.map V.str).length=ss.length from ya _,List.take_length]
   exact ⟨by rw [ya];exact Nat.le_of_lt (qh (yi (List.length_filter_le _ _) (by omega))),fun r hr'=>q r hr'⟩
theorem ok_td (F:Fun K "_law_tied" "_law_tied" qae f fd) (T:Txt K mg cc cw):FnOk P w K mg base CX0 1 f fd ["_law_ties_here", "_law_one", "_law_other"] spTd:=by
 refine F.ok sc_l_tied fun _ _ _ _ H vs Q E hr h=>?_
 ·obtain ⟨l,ts,tps,a,b,rfl,hP,q⟩:=h
  have hu:=j8 hr
  refine ⟨_,(qf (qm (pe_or (jt (zQ (K:=K) rfl hu) (zk (qa (pv 1) (qa (pv 2) qe))) (pv 0) (by with_unfolding_all rfl)) (qbe (jt (zQ (K:=K) rfl hu) (zk (qa (pv 2) (qa (pv 1) qe))) (pv 0) (by with_unfolding_all rfl)))))),?_⟩
  ext
  refine ⟨by show 2≤sizeLine;decide,fun t ht=>?_⟩
  have s1:=qO (Sr H) (o:=.tup [.str a,.str b]) ht
  have e1:upd H t (.tup [.str a,.str b]) t=some (.tup [.str a,.str b]):=qb
  generalize upd H t (.tup [.str a,.str b])=H1 at s1 e1
  ext
  refine qer (hP.same s1) e1 ?_
  have q1:=q H1 s1
  unfold tB at q q1
  refine ⟨_,rfl,?_⟩
  cases hd:decide ((a,b)∈tps) with
  | true =>
   refine zv ?_
   rw [hd] at q1
   exact q1
  | false =>
   refine yq ?_
   ext
   refine ⟨by show 2≤sizeLine;decide,fun t2 ht2=>?_⟩
   have s2:=qO s1 (o:=.tup [.str b,.str a]) ht2
   have e2:upd H1 t2 (.tup [.str b,.str a]) t2=some (.tup [.str b,.str a]):=qb
   generalize upd H1 t2 (.tup [.str b,.str a])=H2 at s2 e2
   ext
   refine qer (hP.same s2) e2 ?_
   have:=q H2 s2
   rw [hd] at this
   exact this
theorem sc_l_some_pairs:FnScope ["_law_box_here", "_law_ties_here", "_law_found", "_law_some", "_law_tie"] ["_law_box_here", "_law_ties_here"] (qd jp):=fS
theorem qdG {K:W.Frag} {H:Hp} {a b:Addr} {ss rs:List Str} (ha:H a=some (.lst (ss.map V.str))) (hb:H b=some (.lst (rs.map V.str))):EqT K H 1 a b (decide (ss=rs)):=by
 by_cases hl:ss.length=rs.length
 ·have z:=EqT.lst (K:=K) (H:=H) (n:=0) (e:=fun j=>eqV (.str (ss.getD j "")) (.str (rs.getD j ""))) (SqL.of ha) (SqL.of hb) (by rw [ya,ya];exact hl) fun j x y h1 h2=>by
   rw [yd] at h1 h2
   obtain ⟨u,hu,rfl⟩:=yn.mp h1
   obtain ⟨v,hv,rfl⟩:=yn.mp h2
   rw [List.getD_eq_getElem?_getD,List.getD_eq_getElem?_getD,hu,hv]
   exact .flat rfl rfl
  have e:(List.range (ss.map V.str).length).all (fun j=>eqV (.str (ss.getD j "")) (.str (rs.getD j "")))=decide (ss=rs):=by
   rw [Bool.eq_iff_iff,List.all_eq_true,decide_eq_true_iff]
   constructor
   ·intro h
    refine List.ext_getElem hl fun i h1 h2=>?_
    have:=h i (List.mem_range.mpr (by rw [ya];exact h1))
    rw [qbB,List.getD_eq_getElem?_getD,List.getD_eq_getElem?_getD,yb h1,yb h2] at this
    exact yk this
   ·rintro rfl j _
    rw [qbB]
    exact decide_eq_true rfl
  rw [e] at z
  exact z
 ·rw [yl (fun e=>hl (by rw [e]))]
  exact .lstL (SqL.of ha) (SqL.of hb) (by rw [ya,ya];exact hl)
inductive spSo (vs:List V) (H:Hp) (Q:VK) (E:XK):Prop|mk (p l:Addr) (ss:List Str) (ts:List Addr) (tps:List (Str×Str)) (_:vs=[.ref p,.ref l]) (_:Box H p) (_:TL p H l ts tps) (_:tps.length≤30) (_:(∀ ab∈tps,ab.1∈ss∧ab.2∈ss∧ab.1≠ab.2)) (_:∀ (l':Addr) (us:List Addr) (qs:List (Str×Str)) (H':Hp),BB p H H'→H l'=none→TL p H' l' us qs→PGo ss tps qs→Q (.ref l') H')
theorem Shuf.mem {tps ups:List (Str×Str)} (sh:Shuf tps ups) {ab:Str×Str} (h:ab∈ups):ab∈tps∨(ab.2,ab.1)∈tps:=by
 obtain ⟨qps,hp,ha⟩:=sh
 obtain ⟨k,hk⟩:=yf (hp.mem_iff.mp h)
 obtain ⟨c,hc⟩:∃ c,tps[k]?=some c:=⟨_,yb (by rw [ha.len];exact (yc.mp hk).1)⟩
 rcases ha.at_ k c ab hc hk with e | e
 ·rw [e];exact .inl (ye hc)
 ·rw [e];exact .inr (ye hc)
theorem Shuf.len {tps ups:List (Str×Str)} (sh:Shuf tps ups):ups.length=tps.length:=by
 obtain ⟨qps,hp,ha⟩:=sh
 rw [hp.length_eq,ha.len]
theorem ok_so (F:Fun K "_law_some_pairs" "_law_some_pairs" jp f fd) (T:Txt K mg cc cw) (D_l_take:DefOk P w K mg base CX0 1 "_law_take" ["_law_box_here", "_law_many"] spTake) (D_l_shuffled:DefOk P w K mg base CX0 2 "_law_shuffled" ["_law_box_here", "_law_ties_here"] spShuf) (D_l_singles:DefOk P w K mg base CX0 2 "_law_singles" ["_law_names_here", "_law_pairs"] spSg):FnOk P w K mg base CX0 3 f fd ["_law_box_here", "_law_ties_here"] spSo:=by
 refine F.ok sc_l_some_pairs fun _ _ _ _ H vs Q E hr h=>?_
 ·obtain ⟨p,l,ss,ts,tps,rfl,hB,hT,h30,hok,q⟩:=h
  have hu:=j8 hr
  refine ⟨_,(qc (qr (i:=2) sc_l_some_pairs.nd rfl (Or.inl rfl) (je qe))
 (qc (qr (i:=3) sc_l_some_pairs.nd rfl (Or.inl rfl) (qp D_l_shuffled (hmR hr) qC (qa (pv 0) (qa (pv 1) qe))))
 (qc (jL PassesOwn.never rfl (qT (K:=K) rfl (pv 3)) (qq (i:=4) sc_l_some_pairs.nd rfl (Or.inl rfl))
 (qf (qV (PW.pt (qbG (qo qc9 (qp D_l_take (hmR hr) qC (qa (pv 0) (qa qi qe))) qi (qB _)) (qaS (qo (qaj (K:=K) rfl hu) (qp D_l_singles (hmR hr) qC (qa (zl (qa2 (K:=K) rfl rfl) rfl T.b_list boot_list (qa (pv 4) qe)) (qa (pv 2) qe))) (zl (qa2 (K:=K) rfl rfl) rfl T.b_list boot_list (qa (pv 4) qe)) (qB _))))) (qf (jr (qbu (K:=K) rfl PySem.F.plainAttrs_list PySem.F.slot_list_append PySem.F.type_list_append jz (pv 2) (qa (pv 4) qe)))) qu)))
 (qf (qm (pv 2)))))),?_⟩
  ext
  refine ⟨by decide,fun fl hfl=>?_⟩
  have b1:=(BB.refl hB).new (o:=.lst []) hfl
  have nfl:=hB.apart hfl
  have e1:upd H fl (.lst []) fl=some (.lst []):=qb
  have hT1:=hT.bb b1
  generalize upd H fl (.lst [])=H1 at b1 e1 hT1
  ext
  refine ⟨p,l,ts,tps,rfl,b1.2,hT1,h30,fun sl vs2 ups H2 b2 hsl0 hS sh=>?_⟩
  have hul:=sh.len
  have nsl:fl≠sl:=fun e=>by rw [← e,e1] at hsl0;cases hsl0
  have e2:=b2.1 _ _ nfl e1
  replace b2:=b1.trans b2
  ext
  refine .inl ⟨⟨_,.of hS.1⟩,jf (xs:=vs2.map V.ref) (fun i σ J=>BB p H J∧∃ (us:List Addr) (qs:List (Str×Str)) (y4:Option V),σ=[some (.ref p),some (.ref l),some (.ref fl),some (.ref sl),y4]∧TL p J sl vs2 ups∧TL p J fl us qs∧(∀ q∈qs,q∈ups)∧(qt qs).Nodup∧qs.length≤i) ⟨b2,[],[],_,rfl,hS,⟨e2,nfl,.nil⟩,(fun q h=>by cases h),List.nodup_nil,yh _⟩ (fun i σ J _ hp=>by obtain ⟨_,_,_,_,_,z,_⟩:=hp;exact .of z.1) (fun i y σ J hy hp=>?_) fun σ J hp=>?_⟩
  ·obtain ⟨bJ,us,qs,y4,rfl,hSJ,hFJ,hsub,hnd,hql⟩:=hp
   rw [yd] at hy
   obtain ⟨t,ht,rfl⟩:=yn.mp hy
   have hil:=(yc.mp ht).1
   have hi30:i < 30:=by have:=hS.2.2.len;omega
   obtain ⟨ab,hab⟩:∃ ab,ups[i]?=some ab:=⟨_,yb (by rw [← hS.2.2.len];exact hil)⟩
   have mab:=ye hab
   ext
   refine ⟨p,4,rfl,bJ.2,by decide,by decide,fun r J1 r0 r1 c1=>?_⟩
   have hS1:=hSJ.bb c1
   have hF1:=hFJ.bb c1
   have d1:=bJ.trans c1
   have tt:=hS1.2.2.at_ i t ab ht hab
   ext
   refine qU (fun _=>?_) fun _=>qU (fun h=>by cases h) fun _=>⟨d1,us,qs,_,rfl,hS1,hF1,hsub,hnd,by omega⟩
   ext
   refine .inl ⟨t,_,rfl,.inr (.of tt.2),fun l3 hl3=>?_⟩
   have s3:=qO (Sr J1) (o:=.lst [.str ab.1,.str ab.2]) hl3
   have e3:upd J1 l3 (.lst [.str ab.1,.str ab.2]) l3=some (.lst ([ab.1,ab.2].map V.str)):=qb
   generalize upd J1 l3 (.lst [.str ab.1,.str ab.2])=J3 at s3 e3
   ext
   refine ⟨l3,fl,[ab.1,ab.2],us,qs,rfl,e3,by show 2≤14;decide,(hF1.same s3).pl,fun l4 hl4=>?_⟩
   have s4:=qO s3 (o:=.lst ((sgl [ab.1,ab.2] qs).map V.str)) hl4
   have e4:upd J3 l4 (.lst ((sgl [ab.1,ab.2] qs).map V.str)) l4=some (.lst ((sgl [ab.1,ab.2] qs).map V.str)):=qb
   generalize upd J3 l4 (.lst ((sgl [ab.1,ab.2] qs).map V.str))=J4 at s4 e4
   ext
   refine .inl ⟨t,_,rfl,.inr (.of (s4 _ _ tt.2)),fun l5 hl5=>?_⟩
   have s5:=qO s4 (o:=.lst [.str ab.1,.str ab.2]) hl5
   have e45:=qO (Sr J4) (o:=.lst [.str ab.1,.str ab.2]) hl5 _ _ e4
   have e5:upd J4 l5 (.lst [.str ab.1,.str ab.2]) l5=some (.lst ([ab.1,ab.2].map V.str)):=qb
   generalize upd J4 l5 (.lst [.str ab.1,.str ab.2])=J5 at s5 e5 e45
   have d5:=d1.same s5
   have hS5:=hS1.same s5
   have hF5:=hF1.same s5
   refine .inl (.inl (.inr (.inl ⟨l4,l5,_,1,rfl,rfl,by decide,qdG e45 e5,?_⟩)))
   rw [if_neg (by decide)]
   ext
   refine qU (fun hd=>?_) fun _=>⟨d5,us,qs,_,rfl,hS5,hF5,hsub,hnd,by omega⟩
   have hd:=yk hd
   have n12:ab.1∉qt qs∧ab.2∉qt qs:=by
    have k:∀ x∈[ab.1,ab.2],x∉qt qs:=fun x hx=>by
     rw [← hd] at hx
     have:=(yp.mp hx).2
     exact pt_none.mp (Option.isNone_iff_eq_none.mp this)
    exact ⟨k _ (by simp),k _ (by simp)⟩
   have hne:ab.1≠ab.2:=by
    rcases sh.mem mab with z | z
    ·exact (hok _ z).2.2
    ·exact Ne.symm (hok _ z).2.2
   ext
   refine ⟨.inl ⟨rfl,_,SqL.of hF5.1⟩,?_⟩
   ext
   refine ⟨fl,_,_,rfl,rfl,hF5.1,by rw [ya,hF5.2.2.len];exact qh (by omega),?_⟩
   have tt5:=hS5.2.2.at_ i t ab ht hab
   refine ⟨d5.put hfl nfl,us++[t],qs++[ab],_,rfl,hS5.other (Ne.symm nsl) hF5.1,hF5.more tt5,fun q hq=>?_,?_,by rw [List.length_append];simp;omega⟩
   ·rcases List.mem_append.mp hq with z | z
    ·exact hsub q z
    ·rw [List.mem_singleton.mp z];exact mab
   ·rw [zA]
    refine List.nodup_append.mpr ⟨hnd,by simp [hne],fun x hx y hy e=>?_⟩
    subst e
    simp only [List.mem_cons,List.not_mem_nil,or_false] at hy
    rcases hy with rfl | rfl
    ·exact n12.1 hx
    ·exact n12.2 hx
  ·obtain ⟨bJ,us,qs,y4,rfl,hSJ,hFJ,hsub,hnd,hql⟩:=hp
   ext
   refine q fl us qs J bJ hfl hFJ ⟨fun z hz=>?_,hnd,by rw [ya,hS.2.2.len] at hql;omega⟩
   have m:=sh.mem (hsub z hz)
   refine ⟨m,?_⟩
   rcases m with y | y
   ·exact hok _ y
   ·obtain ⟨k1,k2,k3⟩:=hok _ y
    exact ⟨k2,k1,Ne.symm k3⟩
theorem sc_l_most:FnScope ["_law_names_here", "_law_ties_here", "_law_left", "_law_most_here", "_law_other"] ["_law_names_here", "_law_ties_here"] (qd zP):=fS
theorem sc_l_loose:FnScope ["_law_names_here", "_law_ties_here", "_law_most_here"] ["_law_names_here", "_law_ties_here"] (qd zu):=fS
theorem mo_short {tps:List (Str×Str)} {n:Nat} {ss:List Str} (h:ss.length < 2):mo tps n ss=0:=by
 match n,ss,h with
 | 0,_,_=>rfl
 | n + 1,[],_=>rfl
 | n + 1,[x],_=>show mo tps n []=0;cases n<;>rfl
 | n + 1,_::_::_,h=>simp only [List.length_cons] at h;omega
inductive spMo (n:Nat) (vs:List V) (H:Hp) (Q:VK) (E:XK):Prop|mk (a l:Addr) (ss:List Str) (ts:List Addr) (tps:List (Str×Str)) (_:vs=[.ref a,.ref l]) (_:H a=some (.lst (ss.map V.str))) (_:ss.length≤n) (_:ss.length≤14) (_:PL H l ts tps) (_:∀ H',L2.Same H H'→Q (.int (mo tps n ss)) H')
theorem qce (F:Fun K "_law_most" "_law_most" zP f fd) (T:Txt K mg cc cw) (n:Nat) (hn:n≤14) (sp':Sp) (hsp:0 < n→sp'=spMo (n - 1)) (D_l_tied:DefOk P w K mg base CX0 1 "_law_tied" ["_law_ties_here", "_law_one", "_law_other"] spTd) (D_l_most:DefOk P w K mg base CX0 (n + 2) "_law_most" ["_law_names_here", "_law_ties_here"] sp'):FnOk P w K mg base CX0 (n + 3) f fd ["_law_names_here", "_law_ties_here"] (spMo n):=by
 refine F.ok sc_l_most fun _ _ _ _ H vs Q E hr h=>?_
 ·obtain ⟨a,l,ss,ts,tps,rfl,ha,hln,h14,hP,q⟩:=h
  have hu:=j8 hr
  refine ⟨_,(qc (qV (qo qc8 (qw (zw (K:=K) rfl) rfl T.b_len boot_len (qa (pv 0) qe)) qi (qB _)) (qf (qm qi)) qu)
 (qc (qr (i:=2) sc_l_most.nd rfl (Or.inl rfl) (jR (qdp (K:=K) rfl) (pv 0) (jQ qi) zm))
 (qc (qr (i:=3) sc_l_most.nd rfl (Or.inl rfl) (qp D_l_most (hr.mono (by omega)) qC (qa (pv 2) (qa (pv 1) qe))))
 (qc (jL PassesOwn.never rfl (qT (K:=K) rfl (pv 2)) (qq (i:=4) sc_l_most.nd rfl (Or.inr rfl))
 (qf (qV (jg (qp D_l_tied (hr.mono (by omega)) qC (qa (pv 1) (qa (qx (qy (K:=K) rfl hu) (pv 0) qi (fun _ _=>rfl)) (qa (pv 4) qe))))) (qf (qr (i:=3) sc_l_most.nd rfl (Or.inl rfl) (qw (qbL rfl) rfl T.b_max boot_max (qa (pv 3) (qa (qP (zC (K:=K) rfl) qi (qp D_l_most (hr.mono (by omega)) qC (qa (ju (sc:=qd zP) (XN:=["_law_names_here", "_law_ties_here", "_law_left", "_law_most_here", "_law_other"]) ["_law_name", "_law_other"] 1 [4] rfl rfl rfl (by decide +kernel) rfl (by decide +kernel)
  (qT (K:=K) rfl (pv 2)) (fun _ _ _ _=>(qq (i:=0) (show (["_law_name", "_law_other"]:List Str).Nodup by decide +kernel) rfl (Or.inl rfl))) qY
  (fun _ _ _ _=>(jy (qo (qan (K:=K) rfl hu) (pv 0) (pv 1) (qB _))))
  (fun _ _ _ _=>(pv 0))) (qa (pv 1) qe)))) qe))))) qu)))
 (qf (qm (pv 3))))))),?_⟩
  ext
  refine qai ha ?_
  rw [ya]
  ext
  by_cases h2:ss.length < 2
  ·refine qU (fun _=>?_) fun h=>absurd (decide_eq_true (show (ss.length:Int) < 2 by omega)) h
   ext
   have:=q H (Sr H)
   rwa [mo_short h2] at this
  ·refine qU (fun h=>absurd (yk h) (by omega)) fun _=>?_
   obtain ⟨k,rfl⟩:∃ k,n=k + 1:=⟨n - 1,by omega⟩
   obtain ⟨x,r,rfl⟩:∃ x r,ss=x::r:=by
    match ss,h2 with
    | [],h2=>exact absurd (by decide) h2
    | x::r,_=>exact ⟨x,r,rfl⟩
   have hrk:r.length≤k:=by simpa using hln
   have hr14:r.length≤13:=by simp at h14;omega
   have hsp:=hsp (by omega)
   rw [show k + 1 - 1=k by omega] at hsp
   subst hsp
   ext
   refine .inl ⟨a,_,rfl,SqL.of ha,fun c hc=>?_⟩
   rw [qaA,← List.map_tail,List.tail_cons]
   have s1:=qO (Sr H) (o:=.lst (r.map V.str)) hc
   have ec:upd H c (.lst (r.map V.str)) c=some (.lst (r.map V.str)):=qb
   generalize upd H c (.lst (r.map V.str))=H1 at s1 ec
   ext
   refine ⟨c,l,r,ts,tps,rfl,ec,hrk,by omega,hP.same s1,fun H2 s2=>?_⟩
   have s02:=s1.trans s2
   have ec2:=s2 _ _ ec
   ext
   refine .inl ⟨⟨_,.of ec2⟩,jf (xs:=r.map V.str) (fun i σ J=>L2.Same H2 J∧∃ y4,σ=[some (.ref a),some (.ref l),some (.ref c),some (.int (((r.take i).filter (tB tps x)).foldl (fun m y=>max m (1 + mo tps k (del r y))) (mo tps k r):Nat)),y4]) ⟨L2.Same.refl H2,_,rfl⟩ (fun i σ J _ hp=>.of (hp.1 _ _ ec2)) (fun i y σ J hy hp=>?_) fun σ J hp=>?_⟩
   ·obtain ⟨sJ,y4,rfl⟩:=hp
    rw [yd] at hy
    obtain ⟨z,hz,rfl⟩:=yn.mp hy
    have s0J:=s02.trans sJ
    have hst:(r.take (i + 1)).filter (tB tps x)=(r.take i).filter (tB tps x)++(if tB tps x z=true then [z] else []):=by
     rw [List.take_add_one,hz,List.filter_append]
     show _++[z].filter _=_
     rw [List.filter_cons,List.filter_nil]
    generalize hM:((r.take i).filter (tB tps x)).foldl (fun m y=>max m (1 + mo tps k (del r y))) (mo tps k r)=M
    ext
    refine .inl (qah (s0J _ _ ha) (v:=.str x) (qz (j:=0) rfl) ?_)
    ext
    refine ⟨l,ts,tps,x,z,rfl,hP.same s0J,fun J1 s3=>?_⟩
    refine ⟨_,rfl,?_⟩
    cases hb:tB tps x z with
    | false =>
     refine yq ?_
     refine ⟨sJ.trans s3,some (.str z),?_⟩
     rw [hst,hb,if_neg (by decide),List.append_nil,hM]
     rfl
    | true =>
     refine zv ?_
     have s2J1:=sJ.trans s3
     have ec3:=s2J1 _ _ ec2
     ext
     refine .inl ⟨⟨_,.of ec3⟩,qJ (xs:=r.map V.str) (fun j ys G=>G=J1∧ys=(del (r.take j) z).map V.str) ⟨rfl,rfl⟩ (fun j ys G _ hp'=>by rw [hp'.1];exact .of ec3) (fun j y ys G hy' hp'=>?_) fun ys G hp'=>?_⟩
     ·obtain ⟨rfl,rfl⟩:=hp'
      rw [yd] at hy'
      obtain ⟨u,hu',rfl⟩:=yn.mp hy'
      have hjl:=(yc.mp hu').1
      have hle:(del (r.take j) z).length≤j:=yi (zt _ _) (by rw [List.length_take];omega)
      have hs2:del (r.take (j + 1)) z=del (r.take j) z++(if (!decide (u=z))=true then [u] else []):=by
       unfold del
       rw [List.take_add_one,hu',List.filter_append]
       show _++[u].filter _=_
       rw [List.filter_cons,List.filter_nil]
      ext
      refine qfL ?_
      refine ⟨_,rfl,?_⟩
      rw [hs2]
      cases (!decide (u=z)) with
      | true =>
       refine zv ?_
       ext
       exact ⟨by rw [ya];exact qh (by omega),rfl,by rw [if_pos rfl,List.map_append];rfl⟩
      | false=>exact qU (fun h=>by cases h) fun _=>⟨rfl,by rw [if_neg (by decide),List.append_nil]⟩
     ·obtain ⟨rfl,rfl⟩:=hp'
      rw [show (r.map V.str).length=r.length from ya _,List.take_length]
      have hdl:=zt r z
      refine ⟨by rw [ya];exact Nat.le_of_lt (qh (by omega)),fun g hg=>?_⟩
      have s5:=qO s2J1 (o:=.lst ((del r z).map V.str)) hg
      have eg:upd G g (.lst ((del r z).map V.str)) g=some (.lst ((del r z).map V.str)):=qb
      generalize upd G g (.lst ((del r z).map V.str))=G5 at s5 eg
      ext
      refine ⟨g,l,del r z,ts,tps,rfl,eg,by omega,by omega,hP.same (s02.trans s5),fun G6 s6=>?_⟩
      ext
      refine ⟨_,_,rfl,?_⟩
      refine ⟨s5.trans s6,some (.str z),?_⟩
      rw [hst,hb,if_pos rfl,List.foldl_append,hM]
      show _=[some (V.ref a),some (V.ref l),some (V.ref c),some (.int ((max M (1 + mo tps k (del r z)):Nat):Int)),some (V.str z)]
      have e:((max M (1 + mo tps k (del r z)):Nat):Int)=if 1 + (mo tps k (del r z):Int) > (M:Int) then 1 + (mo tps k (del r z):Int) else (M:Int):=by split<;>omega
      rw [e]
      rfl
   ·obtain ⟨sJ,y4,rfl⟩:=hp
    rw [show (r.map V.str).length=r.length from ya _,List.take_length]
    ext
    exact q J (s02.trans sJ)
def lsL (tps:List (Str×Str)) (ss l:List Str):List Str:=l.filter fun v=>decide (mo tps 7 (del ss v)=mo tps 7 ss)
inductive spLo (vs:List V) (H:Hp) (Q:VK) (E:XK):Prop|mk (a l:Addr) (ss:List Str) (ts:List Addr) (tps:List (Str×Str)) (_:vs=[.ref a,.ref l]) (_:H a=some (.lst (ss.map V.str))) (_:ss.length≤7) (_:PL H l ts tps) (_:∀ r H',L2.Same H H'→H r=none→H' r=some (.lst ((lsL tps ss ss).map V.str))→Q (.ref r) H')
theorem ok_lo (F:Fun K "_law_loose" "_law_loose" zu f fd) (T:Txt K mg cc cw) (D_l_most:DefOk P w K mg base CX0 10 "_law_most" ["_law_names_here", "_law_ties_here"] (spMo 7)):FnOk P w K mg base CX0 11 f fd ["_law_names_here", "_law_ties_here"] spLo:=by
 refine F.ok sc_l_loose fun _ _ _ _ H vs Q E hr h=>?_
 ·obtain ⟨a,l,ss,ts,tps,rfl,ha,h7,hP,q⟩:=h
  have hu:=j8 hr
  refine ⟨_,(qc (qr (i:=2) sc_l_loose.nd rfl (Or.inr rfl) (qp D_l_most (hmR hr) qC (qa (pv 0) (qa (pv 1) qe))))
 (qf (qm (ju (sc:=qd zu) (XN:=["_law_names_here", "_law_ties_here", "_law_most_here"]) ["_law_name", "_law_most_here", "_law_ties_here", "_law_names_here"] 1 [2,1,0] rfl rfl rfl (by decide +kernel) rfl (by decide +kernel)
  (qT (K:=K) rfl (pv 0)) (fun _ _ _ _=>(qq (i:=0) (show (["_law_name", "_law_most_here", "_law_ties_here", "_law_names_here"]:List Str).Nodup by decide +kernel) rfl (Or.inr rfl))) qY
  (fun _ _ _ _=>(jy (qo (qaj (K:=K) rfl hu) (qp D_l_most (hmR hr) qC (qa (pe_compIn ["_law_other", "_law_name"] 1 [0] rfl (by decide +kernel) rfl (by decide +kernel)
  (qT (K:=K) rfl (pv 3)) (fun _ _ _ _=>(qq (i:=0) (show (["_law_other", "_law_name"]:List Str).Nodup by decide +kernel) rfl (Or.inl rfl))) qY
  (fun _ _ _ _=>(jy (qo (qan (K:=K) rfl hu) (pv 0) (pv 1) (qB _))))
  (fun _ _ _ _=>(pv 0))) (qa (pv 2) qe))) (pv 1) (qB _))))
  (fun _ _ _ _=>(pv 0)))))),?_⟩
  ext
  refine ⟨a,l,ss,ts,tps,rfl,ha,h7,by omega,hP,fun H1 s1=>?_⟩
  have ha1:=s1 _ _ ha
  ext
  refine .inl ⟨⟨_,.of ha1⟩,qJ (xs:=ss.map V.str) (fun i ys G=>L2.Same H1 G∧ys=(lsL tps ss (ss.take i)).map V.str) ⟨L2.Same.refl H1,rfl⟩ (fun i ys G _ hp'=>.of (hp'.1 _ _ ha1)) (fun i y ys G hy hp'=>?_) fun ys G hp'=>?_⟩
  ·obtain ⟨sG,rfl⟩:=hp'
   rw [yd] at hy
   obtain ⟨z,hz,rfl⟩:=yn.mp hy
   have hil:=(yc.mp hz).1
   have hle:(lsL tps ss (ss.take i)).length≤i:=yi (List.length_filter_le _ _) (by rw [List.length_take];omega)
   have hst:lsL tps ss (ss.take (i + 1))=lsL tps ss (ss.take i)++(if decide (mo tps 7 (del ss z)=mo tps 7 ss)=true then [z] else []):=by
    unfold lsL
    rw [List.take_add_one,hz,List.filter_append]
    show _++[z].filter _=_
    rw [List.filter_cons,List.filter_nil]
   have haG:=sG _ _ ha1
   ext
   refine .inl ⟨⟨_,.of haG⟩,qJ (xs:=ss.map V.str) (fun j ys J=>J=G∧ys=(del (ss.take j) z).map V.str) ⟨rfl,rfl⟩ (fun j ys J _ hp'=>by rw [hp'.1];exact .of haG) (fun j y ys J hy' hp'=>?_) fun ys J hp'=>?_⟩
   ·obtain ⟨rfl,rfl⟩:=hp'
    rw [yd] at hy'
    obtain ⟨u,hu',rfl⟩:=yn.mp hy'
    have hle2:(del (ss.take j) z).length≤j:=yi (zt _ _) (by rw [List.length_take];omega)
    have hjl:=(yc.mp hu').1
    have hs2:del (ss.take (j + 1)) z=del (ss.take j) z++(if (!decide (u=z))=true then [u] else []):=by
     unfold del
     rw [List.take_add_one,hu',List.filter_append]
     show _++[u].filter _=_
     rw [List.filter_cons,List.filter_nil]
    ext
    refine qfL ?_
    refine ⟨_,rfl,?_⟩
    rw [hs2]
    cases (!decide (u=z)) with
    | true =>
     refine zv ?_
     ext
     exact ⟨by rw [ya];exact qh (by omega),rfl,by rw [if_pos rfl,List.map_append];rfl⟩
    | false=>exact qU (fun h=>by cases h) fun _=>⟨rfl,by rw [if_neg (by decide),List.append_nil]⟩
   ·obtain ⟨rfl,rfl⟩:=hp'
    rw [show (ss.map V.str).length=ss.length from ya _,List.take_length]
    have hdl:=zt ss z
    refine ⟨by rw [ya];exact Nat.le_of_lt (qh (by omega)),fun g hg=>?_⟩
    have s5:=qO sG (o:=.lst ((del ss z).map V.str)) hg
    have eg:upd J g (.lst ((del ss z).map V.str)) g=some (.lst ((del ss z).map V.str)):=qb
    generalize upd J g (.lst ((del ss z).map V.str))=G5 at s5 eg
    ext
    refine ⟨g,l,del ss z,ts,tps,rfl,eg,by omega,by omega,hP.same (s1.trans s5),fun G6 s6=>?_⟩
    ext
    refine .inl (.inl (.inl ⟨rfl,rfl,?_⟩))
    have ee:(if (false:Bool)=true then !eqV (.int (mo tps 7 (del ss z):Nat)) (.int (mo tps 7 ss:Nat)) else eqV (.int (mo tps 7 (del ss z):Nat)) (.int (mo tps 7 ss:Nat)))=decide (mo tps 7 (del ss z)=mo tps 7 ss):=by
     rw [if_neg (by decide)]
     unfold eqV
     by_cases e:mo tps 7 (del ss z)=mo tps 7 ss
     ·rw [e];simp
     ·rw [yl e];simp;omega
    rw [ee,hst]
    refine ⟨_,rfl,?_⟩
    cases decide (mo tps 7 (del ss z)=mo tps 7 ss) with
    | true =>
     refine zv ?_
     ext
     exact ⟨by rw [ya];exact qh (by omega),s5.trans s6,by rw [if_pos rfl,List.map_append];rfl⟩
    | false=>exact qU (fun h=>by cases h) fun _=>⟨s5.trans s6,by rw [if_neg (by decide),List.append_nil]⟩
  ·obtain ⟨sG,rfl⟩:=hp'
   rw [show (ss.map V.str).length=ss.length from ya _,List.take_length]
   refine ⟨by rw [ya];exact Nat.le_of_lt (qh (yi (List.length_filter_le _ _) (by omega))),fun r hr'=>?_⟩
   exact q r _ (qO (s1.trans sG) hr') ((s1.trans sG).free hr') qb
theorem sc_l_counted:FnScope ["_law_web", "_law_names_here", "_law_ties_here", "_law_pairs", "_law_most_here", "_law_told", "_law_rows", "_law_forest"] ["_law_web", "_law_names_here", "_law_ties_here", "_law_pairs"] (qd jY):=fS
theorem vAsgT {te:TE} {K:W.Frag} {n:Nat} {gs:TGs} {D:Ends} {σ:L2.St} {H:Hp} (h:te σ H fun x H1=>qeZ K n gs x σ H1 D.nx):qew te (qeZ K n gs) D σ H:=h
section
variable {ss:List Str} {ns:List Nat} {tps qs:List (Str×Str)} {cw x:Addr} {H:Hp}
theorem Wt.ir (W:Wt cw H x ss ns tps):∀ a b,tA tps a b→a≠b:=fun a b z e=>by
 rcases z with z | z
 ·exact (W.ok _ z).2.2 e
 ·exact (W.ok _ z).2.2 e.symm
theorem Wt.mo7 (W:Wt cw H x ss ns tps) (h:ss.length≤7):mo tps 7 ss=mo tps ss.length ss:=qdV W.ir h (yh _) W.wok.nd
theorem Wt.mx (W:Wt cw H x ss ns tps) (h:ss.length≤7) (g:PGo ss tps qs) (m:MxF ss tps qs):qs.length=mo tps 7 ss:=by rw [W.mo7 h];exact qeY W.ir W.wok.nd g m
theorem Wt.less (W:Wt cw H x ss ns tps) (h:ss.length≤7) (g:PGo ss tps qs) {rs:List Str} (hl:rs.length≤1000) (a:Aug (tA tps) (pt qs) rs):qs.length < mo tps 7 ss:=by
 obtain ⟨g1,c1⟩:=qdF W.wok W.adj W.ok g a hl
 have:=qaB W.ir _ (yh _) W.wok.nd g1.mt
 rw [← g1.cnt W.wok.nd,← W.mo7 h] at this
 omega
theorem Wt.loose (W:Wt cw H x ss ns tps) (h:ss.length≤7) (g:PGo ss tps qs) {S:FS} (F:Fn (tA tps) (pt qs) S ss):(ss.filter fun s=>(S.rows s).isSome)=lsL tps ss ss:=by
 unfold lsL
 refine List.filter_congr fun v hv=>?_
 have k:=mx_loose W.ir W.wok.nd g F hv
 have hd:(del ss v).length≤7:=yi (zt ss v) h
 rw [Bool.eq_iff_iff,isS,← k,decide_eq_true_iff,W.mo7 h,qdV W.ir hd (yh _) (W.wok.nd.filter _)]
end
inductive spCn (cw:Addr) (vs:List V) (H:Hp) (Q:VK) (E:XK):Prop|mk (x n l r:Addr) (ss:List Str) (ns:List Nat) (ts us:List Addr) (tps qs:List (Str×Str)) (_:vs=[.ref x,.ref n,.ref l,.ref r]) (_:Wt cw H x ss ns tps) (_:H n=some (.lst (ss.map V.str))) (_:ss.length≤7) (_:PL H l ts tps) (_:PL H r us qs) (_:PGo ss tps qs) (_:∀ H',L2.Same H H'→Q (.bl true) H')
theorem neI {H:Hp} {a b:Int} {Q:VK} (h:a=b) (q:Q (.bl false) H):qep K true (.int a) (.int b) H Q:=.inl ⟨rfl,rfl,by
 subst h
 have e:(if true=true then !eqV (.int a) (.int a) else eqV (.int a) (.int a))=false:=by unfold eqV;simp
 rw [e];exact q⟩
theorem isN {H:Hp} {v:V} {Q:VK} (q:Q (.bl (decide (v=.non))) H):qff v .non H Q:=by cases v<;>exact q
theorem ok_cn (F:Fun K "_law_counted" "_law_counted" jY f fd) (T:Txt K mg cc cw) (D_l_most:DefOk P w K mg base CX0 10 "_law_most" ["_law_names_here", "_law_ties_here"] (spMo 7)) (D_greatest_from:DefOk P w K mg base CX0 13 "greatest_from" ["web", "pairs"] (spGf cw)) (D_count_of:DefOk P w K mg base CX0 15 "count_of" ["web"] (spCo cw)) (D_Forest:MakeOk P w K mg base CX0 10 (cc 9) "Forest" ["self", "web", "pairs"] (spFi cc cw)) (D_Forest_row:MethOk P w K mg base CX0 1 (cc 9) "row" ["self"] (spFr cc cw)) (D_Forest_reached:MethOk P w K mg base CX0 2 (cc 9) "reached" ["self"] (spFd2 cc cw)) (D_l_loose:DefOk P w K mg base CX0 11 "_law_loose" ["_law_names_here", "_law_ties_here"] spLo):FnOk P w K mg base CX0 16 f fd ["_law_web", "_law_names_here", "_law_ties_here", "_law_pairs"] (spCn cw):=by
 refine F.ok sc_l_counted fun _ _ _ _ H vs Q E hr h=>?_
 ·obtain ⟨x,n,l,r,ss,ns,ts,us,tps,qs,rfl,W,hn,h7,hL,hP,hG,q⟩:=h
  have hu:=j8 hr
  refine ⟨_,(qc (qr (i:=4) sc_l_counted.nd rfl (Or.inl rfl) (qp D_l_most (hmR hr) qC (qa (pv 1) (qa (pv 2) qe))))
 (qc (j7 (qp D_greatest_from (hmR hr) qC (qa (pv 0) (qa (pv 3) qe))) (qbI rfl (jZ (qq (i:=5) sc_l_counted.nd rfl (Or.inl rfl)) (jZ (qq (i:=6) sc_l_counted.nd rfl (Or.inl rfl)) qaU))))
 (qc (qV (PW.pt (qaT (qo (qan (K:=K) rfl hu) (qw (zw (K:=K) rfl) rfl T.b_len boot_len (qa (pv 5) qe)) (pv 4) (qB _)) (qaT (qo (qan (K:=K) rfl hu) (qw (zw (K:=K) rfl) rfl T.b_len boot_len (qa (pv 6) qe)) (qP qcA (pv 4) (qw (zw (K:=K) rfl) rfl T.b_len boot_len (qa (pv 3) qe))) (qB _)) (qaq (qo (qan (K:=K) rfl hu) (qp D_count_of (hmR hr) qC (qa (pv 0) qe)) (pv 4) (qB _)))))) (qf (qm j5)) qu)
 (qc (qr (i:=7) sc_l_counted.nd rfl (Or.inl rfl) (zz D_Forest (hmR hr) (qa (pv 0) (qa (pv 3) qe))))
 (qc (qV (qo (qan (K:=K) rfl hu) (jt qe5 (jm D_Forest_row (hmR hr) (pv 7)) zD (qB _)) (jt (qaj (K:=K) rfl hu) (qw (zw (K:=K) rfl) rfl T.b_len boot_len (qa (pv 3) qe)) (pv 4) (qB _)) (qB _)) (qf (qm j5)) qu)
 (qf (qm (jt (qaj (K:=K) rfl hu) (jm D_Forest_reached (hmR hr) (zz D_Forest (hmR hr) (qa (pv 0) (qa (pv 5) qe)))) (qp D_l_loose (hmR hr) qC (qa (pv 1) (qa (pv 2) qe))) (qB _))))))))),?_⟩
  ext
  refine ⟨n,l,ss,ts,tps,rfl,hn,h7,by omega,hL,fun H1 s1=>?_⟩
  obtain ⟨M,hM⟩:∃ M,M=mo tps 7 ss:=⟨_,rfl⟩
  rw [← hM]
  ext
  refine vAsgT ?_
  ext
  refine ⟨x,r,ss,ns,us,tps,qs,rfl,W.same s1,hP.same s1,hG,fun t l2 r2 ls ws rs H2 s2 et hP2 er2 hc hG2 hM2=>?_⟩
  have s02:=s1.trans s2
  have hrs:rs.length=M:=by rw [hM];exact W.mx h7 hG2 hM2
  refine ⟨t,_,rfl,.of et,rfl,_,_,rfl,_,_,rfl,rfl,?_⟩
  ext
  refine qai hP2.1 ?_
  rw [ya,hP2.2.len]
  ext
  refine neI (by rw [hrs]) ?_
  refine ⟨_,rfl,qU (fun h=>by cases h) fun _=>?_⟩
  ext
  refine qai er2 ?_
  ext
  refine qai (s02 _ _ hP.1) ?_
  rw [ya,hP.2.len]
  ext
  refine neI (by omega) ?_
  refine ⟨_,rfl,qU (fun h=>by cases h) fun _=>?_⟩
  ext
  refine ⟨x,ss,ns,tps,rfl,W.same s02,fun rs3 H3 s3 hG3 hM3=>?_⟩
  have s03:=s02.trans s3
  ext
  refine neI (a:=rs3.length) (b:=M) (by rw [hM,W.mx h7 hG3 hM3]) ?_
  refine ⟨_,rfl,qU (fun h=>by cases h) fun _=>?_⟩
  have W3:=W.same s03
  ext
  refine fun y dx hy hdx hne=>qdU W3 (hP.same s03) hG hy hdx hne fun H0 H4 a S dn wt lo ea hD s4=>?_
  subst ea
  refine ⟨rfl,?_⟩
  obtain ⟨fx,ff,fx1,_,_,_,fx2⟩:=id hD.fo.obj
  have s04:=s03.trans s4
  ext
  refine ⟨a.x,fx,ff,rfl,fx1,fx2 _ (by decide +kernel),?_⟩
  ext
  refine qfk hD (W3.wb hG) fun v H5 hv=>?_
  have s05:=s04.trans hv.1
  have hvk:decide (v=.non)=decide (qs.length=M):=by
   rcases hv.2 with ⟨rfl,mx⟩ | ⟨r',rs',rfl,_,_,hl',au⟩
   ·rw [decide_eq_true rfl,decide_eq_true (by rw [hM];exact W.mx h7 hG mx)]
   ·have:=W.less h7 hG hl' au
    rw [yl (fun z=>by cases z),yl (by omega)]
  ext
  refine isN ?_
  rw [hvk]
  ext
  refine qai (s05 _ _ hP.1) ?_
  rw [ya,hP.2.len]
  ext
  refine .inl (.inl (.inl ⟨rfl,rfl,?_⟩))
  have ee:(if (false:Bool)=true then !eqV (.int (qs.length:Nat)) (.int (M:Nat)) else eqV (.int (qs.length:Nat)) (.int (M:Nat)))=decide (qs.length=M):=by
   rw [if_neg (by decide)]
   unfold eqV
   by_cases e:qs.length=M
   ·rw [e];simp
   ·rw [yl e];simp;omega
  rw [ee]
  refine .inl ⟨rfl,rfl,?_⟩
  have e2:(if true=true then !eqV (.bl (decide (qs.length=M))) (.bl (decide (qs.length=M))) else eqV (.bl (decide (qs.length=M))) (.bl (decide (qs.length=M))))=false:=by unfold eqV;simp
  rw [e2]
  refine ⟨_,rfl,qU (fun h=>by cases h) fun _=>?_⟩
  have W5:=W.same s05
  have hP5:=hP2.same ((s3.trans s4).trans hv.1)
  ext
  refine fun y dx hy hdx hne=>qdU W5 hP5 hG2 hy hdx hne fun H6 H7 b S7 dn7 wt7 lo7 eb hD7 s7=>?_
  subst eb
  obtain ⟨fy,fg,fy1,_,_,_,fy2⟩:=id hD7.fo.obj
  refine ⟨rfl,b.x,fy,fg,rfl,fy1,fy2 _ (by decide +kernel),?_⟩
  have s07:=s05.trans s7
  ext
  refine ⟨H6,b,ss,ns,rs,S7,dn7,wt7,lo7,_,rfl,hD7,by omega,fun hlo=>?_,fun hlo l8 H8 s8 hl80 el8=>?_⟩
  ·rcases hD7.en with ⟨e,_⟩ | ⟨t',r',e,_,_,au,hl'⟩
   ·exact absurd e hlo
   ·have:=W.less h7 hG2 (by omega) au
    omega
  ·subst hlo
   have F7:=qeX hD7 (W5.wb hG2)
   rw [W.loose h7 hG2 F7] at el8
   have s08:=s07.trans s8
   ext
   refine ⟨n,l,ss,ts,tps,rfl,s08 _ _ hn,h7,hL.same s08,fun r9 H9 s9 hr90 er9=>?_⟩
   refine .inl (.inl (.inr (.inl ⟨l8,r9,_,1,rfl,rfl,by decide,qdG (s9 _ _ el8) er9,?_⟩)))
   rw [if_neg (by decide),decide_eq_true rfl]
   exact q H9 (s08.trans s9)
theorem sc_Web_without:FnScope ["self", "places", "out", "place", "names", "kept"] ["self", "places"] (qd q8):=fS
def tri:Nat→Nat
 | 0=>0
 | k + 1=>tri k + (6 - k)
theorem tri_le:∀ n,n≤7→tri n≤21:=by decide
theorem qcZ {ss:List Str} {ns:List Nat} (hw:WOk ss ns) (h7:ss.length≤7):(qR ss ns ss.length).length≤21:=by
 have row:∀ i,(qds ss ns i).length≤ss.length - (i + 1):=fun i=>by
  unfold qds
  rw [ya,← List.length_drop]
  refine qcT (by rw [zH hw.nd];exact (hw.nd.filter _).filter _) fun o ho=>?_
  obtain ⟨h1,h2⟩:=yp.mp ho
  have h2:=yk h2
  have hm:=(qcu hw.nd h1).1
  refine ye (i:=ss.idxOf o - (i + 1)) ?_
  rw [List.getElem?_drop,show i + 1 + (ss.idxOf o - (i + 1))=ss.idxOf o by omega,yb (List.idxOf_lt_length_of_mem hm),List.getElem_idxOf]
 have key:∀ k,(qR ss ns k).length≤tri k:=fun k=>by
  induction k with
  | zero=>exact yh _
  | succ k ih =>
   unfold qR at ih ⊢
   rw [List.range_succ,List.flatMap_append,List.length_append]
   have:=row k
   have e:([k].flatMap (qds ss ns)).length=(qds ss ns k).length:=by simp
   rw [e]
   show _≤tri k + (6 - k)
   omega
 exact yi (key _) (tri_le _ h7)
theorem qbD {t1 t2:List (Str×Str)}:∀ (n:Nat) {l:List Str},(∀ a∈l,∀ b∈l,tB t1 a b=tB t2 a b)→mo t1 n l=mo t2 n l
 | 0,_,_=>rfl
 | n + 1,[],_=>rfl
 | n + 1,x::r,h=>by
  have hr:∀ a∈r,∀ b∈r,tB t1 a b=tB t2 a b:=fun a ha b hb=>h a (List.mem_cons_of_mem _ ha) b (List.mem_cons_of_mem _ hb)
  show (r.filter (tB t1 x)).foldl (fun m y=>max m (1 + mo t1 n (del r y))) (mo t1 n r)=(r.filter (tB t2 x)).foldl (fun m y=>max m (1 + mo t2 n (del r y))) (mo t2 n r)
  rw [List.filter_congr (q:=tB t2 x) (fun b hb=>h x List.mem_cons_self b (List.mem_cons_of_mem _ hb)),qbD n hr]
  have:(fun m y=>max m (1 + mo t1 n (del r y)))=fun m y=>max m (1 + mo t2 n (del r y)):=by
   funext m y
   rw [qbD n (l:=del r y) fun a ha b hb=>hr a (mem_del.mp ha).1 b (mem_del.mp hb).1]
  rw [this]
theorem wt_new {cw y:Addr} {H0 H:Hp} {ss:List Str} {ns:List Nat} {kps:List (Str×Str)} (h:WebN H0 cw H y ss ns) (hb:qa6 ss ns kps) (g:TGo ss kps):Wt cw H y ss ns kps:=
 ⟨h.web,fun a b s t ha hb'=>by rw [hb.2.2 a b s t ha hb',decide_eq_true_iff],g.inn⟩
theorem Wt.to {cw y:Addr} {H:Hp} {ss:List Str} {ns:List Nat} {kps tps:List (Str×Str)} (h:Wt cw H y ss ns kps) (ok:∀ ab∈tps,ab.1∈ss∧ab.2∈ss∧ab.1≠ab.2) (e:∀ a b,a∈ss→b∈ss→(tA kps a b↔tA tps a b)):Wt cw H y ss ns tps:=
 ⟨h.web,fun a b s t ha hb=>(h.adj a b s t ha hb).trans (e s t (ye ha) (ye hb)),ok⟩
def qaD (l:List Str) (tps:List (Str×Str)):List (Str×Str):=tps.filter fun q=>decide (q.1∈l)&&decide (q.2∈l)
inductive spWo (cw:Addr) (vs:List V) (H:Hp) (Q:VK) (E:XK):Prop|mk (x a:Addr) (ss:List Str) (ns:List Nat) (tps:List (Str×Str)) (v:Str) (_:vs=[.ref x,.ref a]) (_:Wt cw H x ss ns tps) (_:H a=some (.lst [.str v])) (_:v∈ss) (_:ss.length≤7) (_:∀ (y:Addr) (ms:List Nat) (H':Hp),L2.Same H H'→Wt cw H' y (del ss v) ms (qaD (del ss v) tps)→Q (.ref y) H')
theorem qdH {H:Hp} {m:Addr} {l:List Str} {s:Str} {Q:VK} (e:H m=some (.lst (l.map V.str))) (q:Q (.bl (decide (s∈l))) H):qdQ K false (.str s) (.ref m) H Q:=
 .inl ⟨m,_,rfl,.inl (SqL.of e),rfl,qca l,by rw [if_neg (by decide),qcv];exact q⟩
theorem qdW {G:Hp} {m l y dx:Addr} {ss:List Str} {us:List Addr} {kps:List (Str×Str)} {Q:VK} {E:XK} (hm:G m=some (.lst (ss.map V.str))) (h14:ss.length≤14) (nd:ss.Nodup) (nm:∀ s∈ss,zF s=true) (hP:PL G l us kps) (hg:TGo ss kps) (hy:G y=none) (hd:G dx=none) (hne:dx≠y)
  (h:∀ ns H2,L2.Same G H2→WebN G cw H2 y ss ns→Wt cw H2 y ss ns kps→Q .non H2):spWeb cw [.ref y,.ref m,.ref l] (upd (upd G dx (.own y)) y (.ins cw dx [])) Q E:=by
 have s2:=qO (qO (Sr G) (o:=.own y) hd) (o:=.ins cw dx []) (show upd G dx (.own y) y=none by rw [qg (Ne.symm hne)];exact hy)
 refine ⟨y,dx,m,l,ss,us,kps,rfl,qb,s2 _ _ hm,h14,nd,nm,hP.same s2,hg,fun ns H' b hN hB=>?_⟩
 have hN':WebN G cw H' y ss ns:=by
  obtain ⟨wx,d,ol,n,h1,h2,h3,h4,h5,h6,h7,h8⟩:=hN
  have k:∀ c,upd (upd G dx (.own y)) y (.ins cw dx []) c=none→G c=none:=fun c z=>by
   cases e:G c with
   | none=>rfl
   | some o=>rw [s2 _ _ e] at z;cases z
  exact ⟨wx,d,ol,n,h1,h2,h3,h4,h5,k _ h6,k _ h7,k _ h8⟩
 refine h ns H' (fun c o e=>b c o (fun z=>by rw [z,hy] at e;cases e) (s2 _ _ e)) hN' (wt_new hN' hB hg)
theorem ok_wo (F:Fun K "without" "Web.without" q8 f fd) (T:Txt K mg cc cw) (D_Web_number_of:MethOk P w K mg base CX0 4 cw "number_of" ["self", "place"] (spNum cw)) (D_Web_ties:MethOk P w K mg base CX0 7 cw "ties" ["self"] (spTs cw)) (D_Web:MakeOk P w K mg base CX0 5 cw "Web" ["self", "names", "ties"] (spWeb cw)):FnOk P w K mg base CX0 8 f fd ["self", "places"] (spWo cw):=by
 refine F.ok sc_Web_without fun _ _ _ _ H vs Q E hr h=>?_
 ·obtain ⟨x,a,ss,ns,tps,v,rfl,W,ha,hv,h7,q⟩:=h
  have hu:=j8 hr
  obtain ⟨wx,dd,ol,nn,hb,hdd,hol,hnn,hw⟩:=id W.web
  refine ⟨_,(qc (qV (js (jg (qw (qcn (K:=K) rfl) rfl T.b_isinstance boot_isinstance (qa (pv 1) (qa (zk (qa (zB (v:=.ty "list") rfl T.b_list boot_list rfl) (qa (zB (v:=.ty "tuple") rfl T.b_tuple boot_tuple rfl) qe))) qe))))) (qf jx) qu)
 (qc (qr (i:=2) sc_Web_without.nd rfl (Or.inr rfl) zx)
 (qc (jL PassesOwn.never rfl (qT (K:=K) rfl (pv 1)) (qq (i:=3) sc_Web_without.nd rfl (Or.inl rfl))
 (qf (j7 j5 (zi (pv 2) (qH D_Web_number_of (hmR hr) (pv 0) (qa (pv 3) qe)) (zn hu)))))
 (qc (qr (i:=4) sc_Web_without.nd rfl (Or.inr rfl) (ju (sc:=qd q8) (XN:=["self", "places", "out", "place", "names", "kept"]) ["name", "out", "self"] 1 [2,0] rfl rfl rfl (by decide +kernel) rfl (by decide +kernel)
  (qT (K:=K) rfl (qD (K:=K) rfl (pv 0) rfl)) (fun _ _ _ _=>(qq (i:=0) (show (["name", "out", "self"]:List Str).Nodup by decide +kernel) rfl (Or.inl rfl))) qY
  (fun _ _ _ _=>(jy (qo (qax (K:=K) rfl hu) (qx (qy (K:=K) rfl hu) (qD (K:=K) rfl (pv 2) rfl) (pv 0) (fun _ _=>rfl)) (pv 1) (by with_unfolding_all rfl))))
  (fun _ _ _ _=>(pv 0))))
 (qc (qam (sc:=qd q8) (XN:=["self", "places", "out", "place", "names", "kept"]) ["tie", "names"] 1 [4] rfl rfl rfl (by decide +kernel) rfl (by decide +kernel) (i:=5) sc_Web_without.nd rfl rfl
  (qT (K:=K) rfl (jm D_Web_ties (hmR hr) (pv 0))) (fun _ _ _ _=>(qq (i:=0) (show (["tie", "names"]:List Str).Nodup by decide +kernel) rfl (Or.inl rfl))) qY
  (fun _ _ _ _=>(jy (PW.pt (qbG (qo (zQ (K:=K) rfl hu) (qx (qy (K:=K) rfl hu) (pv 0) qi (fun _ _=>rfl)) (pv 1) (by with_unfolding_all rfl)) (qaS (qo (zQ (K:=K) rfl hu) (qx (qy (K:=K) rfl hu) (pv 0) qi (fun _ _=>rfl)) (pv 1) (by with_unfolding_all rfl)))))))
  (fun _ _ _ _=>(pv 0)))
 (qf (qm (zz D_Web (hmR hr) (qa (pv 4) (qa (pv 5) qe)))))))))),?_⟩
  ext
  refine ⟨by show 2≤sizeLine;decide,fun g hg=>?_⟩
  have s0:=qO (Sr H) (o:=.tup [.ty "list",.ty "tuple"]) hg
  ext
  refine qcs (s0 _ _ ha) qb ?_
  ext
  refine yq ?_
  ext
  intro d hd
  have s1:=qO s0 (o:=.dK []) hd
  have ed:upd (upd H g (.tup [.ty "list",.ty "tuple"])) d (.dK []) d=some (.dK []):=qb
  have hd0:H d=none:=s0.free hd
  generalize upd (upd H g (.tup [.ty "list",.ty "tuple"])) d (.dK [])=H1 at s1 ed
  obtain ⟨j,gj⟩:=yf hv
  ext
  refine .inl ⟨⟨_,.of (s1 _ _ ha)⟩,jf (xs:=[.str v]) (fun i σ J=>L2.Same H J∧(∃ y3 y4 y5,σ=[some (.ref x),some (.ref a),some (.ref d),y3,y4,y5])∧J d=some (.dK (if i=0 then [] else [(.inl (j:Int),.bl true)]))) ⟨s1,⟨_,_,_,rfl⟩,ed⟩ (fun i σ J _ hp=>.of (hp.1 _ _ ha)) (fun i y σ J hy hp=>?_) fun σ J hp=>?_⟩
  ·obtain ⟨sJ,⟨y3,y4,y5,rfl⟩,edJ⟩:=hp
   have hi0:i=0:=by have:=(yc.mp hy).1;simp at this;omega
   subst hi0
   cases hy
   rw [if_pos rfl] at edJ
   ext
   refine ⟨x,wx,_,rfl,sJ _ _ hb,zq (by decide +kernel),?_⟩
   ext
   refine ⟨x,ss,ns,v,j,rfl,W.web.same sJ,gj,fun J2 s2=>?_⟩
   refine .inr ⟨d,_,rfl,DPut.k (k:=Sum.inl (j:Int)) (s2 _ _ edJ) (by decide),?_⟩
   exact ⟨qaH (sJ.trans s2) hd0,⟨_,_,_,rfl⟩,qb⟩
  ·obtain ⟨sJ,⟨y3,y4,y5,rfl⟩,edJ⟩:=hp
   have edJ:J d=some (.dK [(.inl (j:Int),.bl true)]):=edJ
   have holJ:=sJ _ _ hol
   ext
   refine .inl ⟨x,cw,wx,_,.ref ol,rfl,sJ _ _ hb,T.wcl,T.wo,qaz,?_⟩
   refine .inl ⟨⟨_,SqL.of holJ⟩,qJ (K:=K) (fun i ys H'=>H'=J∧ys=(del (ss.take i) v).map V.str) ⟨rfl,rfl⟩ (fun i ys H' _ hp=>by rw [hp.1];exact SqL.of holJ) (fun i y ys H' hy hp=>?_) fun ys H' hp=>?_⟩
   ·obtain ⟨rfl,rfl⟩:=hp
    rw [yd] at hy
    obtain ⟨sy,gi,rfl⟩:=yn.mp hy
    have hil:=(yc.mp gi).1
    obtain ⟨i',hi',gi',vi⟩:=j3 (i:=0) (ye gi)
    rw [Nat.zero_add,qv hw.nd gi' gi] at vi
    have hle:(del (ss.take i) v).length≤i:=yi (zt _ _) (by rw [List.length_take];omega)
    have hst:del (ss.take (i + 1)) v=del (ss.take i) v++(if (!decide (sy=v))=true then [sy] else []):=by
     unfold del
     rw [List.take_add_one,gi,List.filter_append]
     show _++[sy].filter _=_
     rw [List.filter_cons,List.filter_nil]
    ext
    refine .inl ⟨x,cw,wx,_,.ref dd,rfl,sJ _ _ hb,T.wcl,T.wn,jU,?_⟩
    ext
    refine .inr ⟨dd,.int i,rfl,?_,?_⟩
    ·have:=DGet.k (k:=Sum.inr sy) (sJ _ _ hdd)
     rw [vi] at this
     exact this
    ext
    refine .inr (.inl ⟨d,_,rfl,DGet.k (k:=Sum.inl (i:Int)) edJ,?_⟩)
    have ev:(if true=true then !(j9 [((Sum.inl (j:Int):Key),V.bl true)] (Sum.inl (i:Int):Key)).isSome else (j9 [((Sum.inl (j:Int):Key),V.bl true)] (Sum.inl (i:Int):Key)).isSome)=!decide (sy=v):=by
     rw [if_pos rfl]
     congr 1
     by_cases e:sy=v
     ·subst e
      have:=qv hw.nd gi gj
      subst this
      rw [jk (p:=((Sum.inl (i:Int):Key),V.bl true)) rfl,decide_eq_true rfl];rfl
     ·rw [q0 (p:=((Sum.inl (j:Int):Key),V.bl true)) (fun z=>e (by
       have:(j:Int)=i:=Sum.inl.inj z
       have:j=i:=by omega
       subst this
       rw [gi] at gj;exact ym gj)),yl e];rfl
    rw [ev,hst]
    refine ⟨_,rfl,?_⟩
    cases (!decide (sy=v)) with
    | true =>
     refine zv ?_
     ext
     exact ⟨by rw [ya];exact qh (by omega),rfl,by rw [if_pos rfl,List.map_append];rfl⟩
    | false=>exact qU (fun h=>by cases h) fun _=>⟨rfl,by rw [if_neg (by decide),List.append_nil]⟩
   ·obtain ⟨rfl,rfl⟩:=hp
    rw [show (ss.map V.str).length=ss.length from ya _,List.take_length]
    have hdl:=zt ss v
    refine ⟨by rw [ya];exact Nat.le_of_lt (qh (by omega)),fun m hm=>?_⟩
    have s3:=qO sJ (o:=.lst ((del ss v).map V.str)) hm
    have em:upd H' m (.lst ((del ss v).map V.str)) m=some (.lst ((del ss v).map V.str)):=qb
    generalize upd H' m (.lst ((del ss v).map V.str))=J3 at s3 em
    ext
    refine ⟨x,wx,_,rfl,s3 _ _ hb,zq (by decide +kernel),?_⟩
    ext
    refine ⟨x,ss,ns,rfl,W.web.same s3,fun l ts J4 s4 hl0 hl hl196 hAl=>?_⟩
    have em4:=s4 _ _ em
    obtain ⟨dps,hdp⟩:∃ dps,dps=qR ss ns ss.length:=⟨_,rfl⟩
    rw [← hdp] at hAl
    refine .inl ⟨⟨_,.of hl⟩,qJ (xs:=ts.map V.ref) (fun i ys G=>G=J4∧∃ us:List Addr,ys=us.map V.ref∧us.length≤i∧All2 (fun t ab=>J4 t=some (.tup [.str ab.1,.str ab.2])) us (qaD (del ss v) (dps.take i))) ⟨rfl,[],rfl,yh _,.nil⟩ (fun i ys G _ hp'=>by rw [hp'.1];exact .of hl) (fun i y ys G hy hp'=>?_) fun ys G hp'=>?_⟩
    ·obtain ⟨rfl,us,rfl,hul,hU⟩:=hp'
     rw [yd] at hy
     obtain ⟨t,ht,rfl⟩:=yn.mp hy
     have hi:=(yc.mp ht).1
     obtain ⟨ab,hab⟩:∃ ab,dps[i]?=some ab:=⟨_,yb (by rw [← hAl.len];exact hi)⟩
     obtain ⟨_,_,z3⟩:=hAl.at_ i t ab ht hab
     have hst:qaD (del ss v) (dps.take (i + 1))=qaD (del ss v) (dps.take i)++(if (decide (ab.1∈del ss v)&&decide (ab.2∈del ss v))=true then [ab] else []):=by
      unfold qaD
      rw [List.take_add_one,hab,List.filter_append]
      show _++[ab].filter _=_
      rw [List.filter_cons,List.filter_nil]
     rw [hst]
     ext
     refine .inl (qaK z3 (v:=.str ab.1) (qz (j:=0) rfl) ?_)
     ext
     refine qdH em4 ?_
     refine ⟨_,rfl,?_⟩
     cases decide (ab.1∈del ss v) with
     | false=>exact qU (fun h=>by cases h) fun _=>qU (fun h=>by cases h) fun _=>⟨rfl,us,rfl,by omega,by rw [Bool.false_and,if_neg (by decide),List.append_nil];exact hU⟩
     | true =>
      refine zv ?_
      ext
      refine .inl (qaK z3 (v:=.str ab.2) (qz (j:=1) rfl) ?_)
      ext
      refine qdH em4 ?_
      refine ⟨_,rfl,?_⟩
      rw [Bool.true_and]
      cases decide (ab.2∈del ss v) with
      | false=>exact qU (fun h=>by cases h) fun _=>⟨rfl,us,rfl,by omega,by rw [if_neg (by decide),List.append_nil];exact hU⟩
      | true =>
       refine zv ?_
       ext
       exact ⟨by rw [ya];exact qh (by omega),rfl,us++[t],by rw [List.map_append];rfl,by rw [List.length_append];simp;omega,by rw [if_pos rfl];exact hU.snoc z3⟩
    ·obtain ⟨rfl,us,rfl,hul,hU⟩:=hp'
     rw [show (ts.map V.ref).length=dps.length by rw [ya,hAl.len],List.take_length] at hU
     rw [ya] at hul
     refine ⟨by rw [ya];exact Nat.le_of_lt (qh (by omega)),fun kl hkl=>?_⟩
     have s04:=s3.trans s4
     have s5:=qO s04 (o:=.lst (us.map V.ref)) hkl
     have s45:=qO (Sr G) (o:=.lst (us.map V.ref)) hkl
     have ekl:upd G kl (.lst (us.map V.ref)) kl=some (.lst (us.map V.ref)):=qb
     have hPk:PL (upd G kl (.lst (us.map V.ref))) kl us (qaD (del ss v) dps):=⟨ekl,hU.mono fun _ _ z=>s45 _ _ z⟩
     have em5:=s45 _ _ em4
     generalize upd G kl (.lst (us.map V.ref))=G5 at s5 ekl hPk em5
     have inD:∀ {a b:Str},(a,b)∈qaD (del ss v) dps↔(a,b)∈dps∧a∈del ss v∧b∈del ss v:=fun {a b}=>by
      unfold qaD
      rw [yp,Bool.and_eq_true,decide_eq_true_iff,decide_eq_true_iff]
     have hg:TGo (del ss v) (qaD (del ss v) dps):=by
      refine ⟨yi (List.length_filter_le _ _) (by rw [hdp];have:=qcZ hw h7;omega),fun ab hab=>?_,?_⟩
      ·obtain ⟨h1,h2,h3⟩:=inD.mp hab
       rw [hdp] at h1
       exact ⟨h2,h3,W.ir _ _ ((jI hw W.adj).mp h1).1⟩
      ·refine List.Pairwise.imp_of_mem (fun {q r} hq hr hne=>⟨hne,fun z=>?_⟩) ((List.filter_sublist).nodup (by rw [hdp];exact qdC hw):(qaD (del ss v) dps).Nodup)
       have q1:=(inD.mp hq).1
       have r1:=(inD.mp hr).1
       rw [hdp] at q1 r1
       obtain ⟨_,i1,j1,l1,a1,b1⟩:=(jI hw W.adj).mp q1
       obtain ⟨_,i2,j2,l2,a2,b2⟩:=(jI hw W.adj).mp r1
       rw [z] at a1 b1
       have:=qv hw.nd a1 b2
       have:=qv hw.nd b1 a2
       omega
     ext
     refine fun y dx hy hdx hne=>qdW em5 (by omega) (hw.nd.filter _) (fun z hz=>hw.nm z (mem_del.mp hz).1) hPk hg hy hdx hne fun ms H9 s9 _ W9=>⟨rfl,?_⟩
     refine q y ms H9 (s5.trans s9) (W9.to (fun ab hab=>?_) fun a b ha hb'=>?_)
     ·unfold qaD at hab
      obtain ⟨h1,h2⟩:=yp.mp hab
      rw [Bool.and_eq_true,decide_eq_true_iff,decide_eq_true_iff] at h2
      exact ⟨h2.1,h2.2,(W.ok _ h1).2.2⟩
     ·have k1:∀ {a b:Str},a∈del ss v→b∈del ss v→((a,b)∈qaD (del ss v) tps↔(a,b)∈tps):=fun ha hb=>by
       unfold qaD
       rw [yp,Bool.and_eq_true,decide_eq_true_iff,decide_eq_true_iff]
       exact ⟨fun z=>z.1,fun z=>⟨z,ha,hb⟩⟩
      unfold tA
      rw [k1 ha hb',k1 hb' ha,inD,inD,hdp]
      constructor
      ·rintro (z | z)
       ·exact ((jI hw W.adj).mp z.1).1
       ·exact ((jI hw W.adj).mp z.1).1.symm
      ·intro z
       obtain ⟨ia,ga⟩:=yf (mem_del.mp ha).1
       obtain ⟨ib,gb⟩:=yf (mem_del.mp hb').1
       rcases Nat.lt_trichotomy ia ib with k | k | k
       ·exact .inl ⟨(jI hw W.adj).mpr ⟨z,ia,ib,k,ga,gb⟩,ha,hb'⟩
       ·subst k;rw [ga] at gb;exact absurd (ym gb) (W.ir _ _ z)
       ·exact .inr ⟨(jI hw W.adj).mpr ⟨z.symm,ib,ia,k,gb,ga⟩,hb',ha⟩
theorem sc_Web_with_tie:FnScope ["self", "one", "other"] ["self", "one", "other"] (qd jq):=fS
inductive spWi (cw:Addr) (vs:List V) (H:Hp) (Q:VK) (E:XK):Prop|mk (x:Addr) (ss:List Str) (ns:List Nat) (tps:List (Str×Str)) (v u:Str) (_:vs=[.ref x,.str v,.str u]) (_:Wt cw H x ss ns tps) (_:v∈ss) (_:u∈ss) (_:v≠u) (_:¬ tA tps v u) (_:ss.length≤7) (_:∀ (y:Addr) (ms:List Nat) (H':Hp),L2.Same H H'→Wt cw H' y ss ms (tps++[(v,u)])→Q (.ref y) H')
theorem ok_wi (F:Fun K "with_tie" "Web.with_tie" jq f fd) (T:Txt K mg cc cw) (D_Web_tied:MethOk P w K mg base CX0 6 cw "tied" ["self", "one", "other"] (spTied cw)) (D_Web_ties:MethOk P w K mg base CX0 7 cw "ties" ["self"] (spTs cw)) (D_Web:MakeOk P w K mg base CX0 5 cw "Web" ["self", "names", "ties"] (spWeb cw)):FnOk P w K mg base CX0 8 f fd ["self", "one", "other"] (spWi cw):=by
 refine F.ok sc_Web_with_tie fun _ _ _ _ H vs Q E hr h=>?_
 ·obtain ⟨x,ss,ns,tps,v,u,rfl,W,hv,hu',hne,hnt,h7,q⟩:=h
  have hu:=j8 hr
  obtain ⟨wx,dd,ol,nn,hb,hdd,hol,hnn,hw⟩:=id W.web
  obtain ⟨j,gj⟩:=yf hv
  obtain ⟨i,gi⟩:=yf hu'
  have hbit:(ns.getD j 0).testBit i=false:=by
   cases e:(ns.getD j 0).testBit i with
   | false=>rfl
   | true=>exact absurd ((W.adj j i v u gj gi).mp e) hnt
  refine ⟨_,(qc (qV (PW.pt (qaT (jg (qH D_Web_tied (hmR hr) (pv 0) (qa (pv 1) (qa (pv 2) qe)))) (qaq (qo (qaj (K:=K) rfl hu) (pv 1) (pv 2) (qB _))))) (qf jx) qu)
 (qf (qm (zz D_Web (hmR hr) (qa (qD (K:=K) rfl (pv 0) rfl) (qa (qP (zC (K:=K) rfl) (jm D_Web_ties (hmR hr) (pv 0)) (je (qa (zk (qa (pv 1) (qa (pv 2) qe))) qe))) qe)))))),?_⟩
  ext
  refine ⟨x,wx,_,rfl,hb,zq (by decide +kernel),?_⟩
  ext
  refine ⟨x,ss,ns,v,u,j,i,rfl,W.web,gj,gi,fun H1 s1=>?_⟩
  rw [hbit]
  refine ⟨_,rfl,qU (fun h=>by cases h) fun _=>?_⟩
  ext
  refine qeU ?_
  rw [yl hne]
  refine ⟨_,rfl,qU (fun h=>by cases h) fun _=>?_⟩
  ext
  refine .inl ⟨x,cw,wx,_,.ref ol,rfl,s1 _ _ hb,T.wcl,T.wo,qaz,?_⟩
  ext
  refine ⟨x,wx,_,rfl,s1 _ _ hb,zq (by decide +kernel),?_⟩
  ext
  refine ⟨x,ss,ns,rfl,W.web.same s1,fun l ts H2 s2 hl0 hl hl196 hAl=>?_⟩
  have s02:=s1.trans s2
  ext
  refine ⟨by show 2≤sizeLine;decide,fun t ht=>?_⟩
  have s3:=qO (Sr H2) (o:=.tup [.str v,.str u]) ht
  have et:upd H2 t (.tup [.str v,.str u]) t=some (.tup [.str v,.str u]):=qb
  generalize upd H2 t (.tup [.str v,.str u])=H3 at s3 et
  ext
  refine ⟨by show 1≤sizeLine;decide,fun l1 hl1=>?_⟩
  have s4:=qO s3 (o:=.lst [.ref t]) hl1
  have el1:upd H3 l1 (.lst [.ref t]) l1=some (.lst [.ref t]):=qb
  have et4:=qO (Sr H3) (o:=.lst [.ref t]) hl1 _ _ et
  generalize upd H3 l1 (.lst [.ref t])=H4 at s4 el1 et4
  refine qeW (s4 _ _ hl) el1 (by rw [ya];show _ + 1≤_;omega) fun l5 hl5=>?_
  have s5:=qO (Sr H4) (o:=.lst (ts.map V.ref++[.ref t])) hl5
  obtain ⟨dps,hdp⟩:∃ dps,dps=qR ss ns ss.length:=⟨_,rfl⟩
  rw [← hdp] at hAl
  have hPk:PL (upd H4 l5 (.lst (ts.map V.ref++[.ref t]))) l5 (ts++[t]) (dps++[(v,u)]):=⟨by rw [qb,List.map_append];rfl,(hAl.mono fun _ _ z=>s5 _ _ (s4 _ _ z.2.2)).snoc (s5 _ _ et4)⟩
  have s05:=(s02.trans s4).trans s5
  generalize upd H4 l5 (.lst (ts.map V.ref++[.ref t]))=H5 at hPk s05
  have hmem:∀ {a b:Str},(a,b)∈dps→tA tps a b:=fun z=>by rw [hdp] at z;exact ((jI hw W.adj).mp z).1
  have hin:∀ {a b:Str},tA tps a b→a∈ss∧b∈ss:=fun z=>z.elim (fun y=>⟨(W.ok _ y).1,(W.ok _ y).2.1⟩) fun y=>⟨(W.ok _ y).2.1,(W.ok _ y).1⟩
  have hg:TGo ss (dps++[(v,u)]):=by
   refine ⟨by rw [List.length_append,hdp];have:=qcZ hw h7;show _ + 1≤_;omega,fun ab hab=>?_,?_⟩
   ·rcases List.mem_append.mp hab with z | z
    ·exact ⟨(hin (hmem z)).1,(hin (hmem z)).2,W.ir _ _ (hmem z)⟩
    ·rw [List.mem_singleton.mp z];exact ⟨hv,hu',hne⟩
   ·refine List.pairwise_append.mpr ⟨?_,by simp,fun q hq r hr=>?_⟩
    ·refine List.Pairwise.imp_of_mem (fun {q r} hq hr hne=>⟨hne,fun z=>?_⟩) (by rw [hdp];exact qdC hw)
     rw [hdp] at hq hr
     obtain ⟨_,i1,j1,l1,a1,b1⟩:=(jI hw W.adj).mp hq
     obtain ⟨_,i2,j2,l2,a2,b2⟩:=(jI hw W.adj).mp hr
     rw [z] at a1 b1
     have:=qv hw.nd a1 b2
     have:=qv hw.nd b1 a2
     omega
    ·rw [List.mem_singleton.mp hr]
     exact ⟨fun z=>hnt (by rw [z] at hq;exact hmem hq),fun z=>hnt (by rw [z] at hq;exact (hmem hq).symm)⟩
  ext
  refine fun y dx hy hdx hne'=>qdW (s05 _ _ hol) (by omega) hw.nd hw.nm hPk hg hy hdx hne' fun ms H9 s9 _ W9=>⟨rfl,?_⟩
  refine q y ms H9 (s05.trans s9) (W9.to (fun ab hab=>?_) fun a b ha hb'=>?_)
  ·rcases List.mem_append.mp hab with z | z
   ·exact W.ok _ z
   ·rw [List.mem_singleton.mp z];exact ⟨hv,hu',hne⟩
  ·unfold tA
   rw [List.mem_append,List.mem_append,List.mem_append,List.mem_append]
   have e:((a,b)∈dps∨(b,a)∈dps)↔((a,b)∈tps∨(b,a)∈tps):=by
    constructor
    ·rintro (z | z)
     ·exact hmem z
     ·exact (hmem z).symm
    ·intro z
     obtain ⟨ia,ga⟩:=yf ha
     obtain ⟨ib,gb⟩:=yf hb'
     rw [hdp]
     rcases Nat.lt_trichotomy ia ib with k | k | k
     ·exact .inl ((jI hw W.adj).mpr ⟨z,ia,ib,k,ga,gb⟩)
     ·subst k;rw [ga] at gb;exact absurd (ym gb) (W.ir _ _ z)
     ·exact .inr ((jI hw W.adj).mpr ⟨z.symm,ib,ia,k,gb,ga⟩)
   constructor
   ·rintro ((z | z) | (z | z))
    ·exact (e.mp (.inl z)).imp .inl .inl
    ·exact .inl (.inr z)
    ·exact (e.mp (.inr z)).imp .inl .inl
    ·exact .inr (.inr z)
   ·rintro ((z | z) | (z | z))
    ·exact (e.mpr (.inl z)).imp .inl .inl
    ·exact .inl (.inr z)
    ·exact (e.mpr (.inr z)).imp .inl .inl
    ·exact .inr (.inr z)
structure Wq (p cw:Addr) (H:Hp) (x:Addr) (ss:List Str) (ns:List Nat) (tps:List (Str×Str)):Prop where
 web:WebP (fun a=>a=p) cw H x ss ns
 adj:Adj ss ns tps
 ok:∀ ab∈tps,ab.1∈ss∧ab.2∈ss∧ab.1≠ab.2
section
variable {p cw x:Addr} {H H':Hp} {ss:List Str} {ns:List Nat} {tps:List (Str×Str)} {v u:Str}
theorem Wq.wt (h:Wq p cw H x ss ns tps):Wt cw H x ss ns tps:=⟨h.web.web,h.adj,h.ok⟩
theorem Wq.bb (h:Wq p cw H x ss ns tps) (b:BB p H H'):Wq p cw H' x ss ns tps:=⟨h.web.keep fun c o n e=>b.1 c o n e,h.adj,h.ok⟩
theorem Wq.same (h:Wq p cw H x ss ns tps) (s:L2.Same H H'):Wq p cw H' x ss ns tps:=⟨h.web.keep fun c o _ e=>s c o e,h.adj,h.ok⟩
theorem del_two (ss:List Str) (v u:Str):(ss.filter fun s=>!decide (s∈[v,u]))=del (del ss v) u:=by
 unfold del
 rw [List.filter_filter]
 refine List.filter_congr fun s _=>?_
 by_cases h1:s=v<;>by_cases h2:s=u<;>simp [h1,h2]
theorem mo_tie (hi:∀ a b,tA (tps++[(v,u)]) a b→a≠b) (hn:ss.Nodup) (hv:v∈ss) (hu:u∈ss):mo (tps++[(v,u)]) ss.length ss=mo tps ss.length ss + (if mo tps (del (del ss v) u).length (del (del ss v) u)=mo tps ss.length ss then 1 else 0):=by
 have sub:∀ a b,tA tps a b→tA (tps++[(v,u)]) a b:=fun a b z=>z.imp (List.mem_append_left _) (List.mem_append_left _)
 have hi0:∀ a b,tA tps a b→a≠b:=fun a b z=>hi a b (sub a b z)
 have huv:v≠u:=hi v u (.inl (List.mem_append_right _ (List.mem_singleton.mpr rfl)))
 have hnv:(del ss v).Nodup:=hn.filter _
 have hnb:(del (del ss v) u).Nodup:=hnv.filter _
 have hud:u∈del ss v:=mem_del.mpr ⟨hu,Ne.symm huv⟩
 have outB:∀ {a:Str},a∈del (del ss v) u→a∈ss∧a≠v∧a≠u:=fun h=>⟨(mem_del.mp (mem_del.mp h).1).1,(mem_del.mp (mem_del.mp h).1).2,(mem_del.mp h).2⟩
 have c2:∀ f:Str→Option Str,qaQ f ss=qaQ f (del (del ss v) u) + (if (f u).isSome=true then 1 else 0) + (if (f v).isSome=true then 1 else 0):=fun f=>by rw [zr hn hv,zr hnv hud]
 have ge:mo tps ss.length ss≤mo (tps++[(v,u)]) ss.length ss:=by
  obtain ⟨f,hf,c⟩:=qba hi0 _ (yh _) hn
  have:=qaB hi _ (yh _) hn (f:=f) ⟨hf.sym,fun a b e=>sub a b (hf.tie a b e),hf.inn⟩
  omega
 have geB:mo tps (del (del ss v) u).length (del (del ss v) u)≤mo tps ss.length ss:=by
  have h1:=(qaC hi0 hn hv).1
  have h2:=(qaC hi0 hnv hud).1
  omega
 have ge1:mo tps (del (del ss v) u).length (del (del ss v) u) + 1≤mo (tps++[(v,u)]) ss.length ss:=by
  obtain ⟨f,hf,c⟩:=qba hi0 _ (yh _) hnb
  have out:∀ {a b:Str},f a=some b→a≠v∧a≠u:=fun e=>(outB (hf.inn _ _ e)).2
  have:=qaB hi _ (yh _) hn (f:=fun a=>if a=v then some u else if a=u then some v else f a) ⟨fun a b e=>?_,fun a b e=>?_,fun a b e=>?_⟩
  ·rw [c2,if_neg (Ne.symm huv),if_pos rfl,if_pos rfl,zS (g:=f) fun s hs=>by rw [if_neg (outB hs).2.1,if_neg (outB hs).2.2]] at this
   simp at this
   omega
  ·(try dsimp only at e ⊢)
   split at e
   ·cases e;rename_i z;rw [if_neg (Ne.symm huv),if_pos rfl,z]
   ·split at e
    ·cases e;rename_i z;rw [if_pos rfl,z]
    ·have es:=hf.sym _ _ e
     rw [if_neg (out es).1,if_neg (out es).2];exact es
  ·(try dsimp only at e)
   split at e
   ·cases e;rename_i z;rw [z];exact .inl (List.mem_append_right _ (List.mem_singleton.mpr rfl))
   ·split at e
    ·cases e;rename_i z;rw [z];exact .inr (List.mem_append_right _ (List.mem_singleton.mpr rfl))
    ·exact sub _ _ (hf.tie _ _ e)
  ·(try dsimp only at e)
   split at e
   ·rename_i z;rw [z];exact hv
   ·split at e
    ·rename_i z;rw [z];exact hu
    ·exact (outB (hf.inn _ _ e)).1
 have le:mo (tps++[(v,u)]) ss.length ss≤mo tps ss.length ss∨mo (tps++[(v,u)]) ss.length ss≤mo tps (del (del ss v) u).length (del (del ss v) u) + 1:=by
  obtain ⟨f,hf,c⟩:=qba hi _ (yh _) hn
  have old:∀ {a b:Str},f a=some b→¬ (a=v∧b=u)→¬ (a=u∧b=v)→tA tps a b:=fun e n1 n2=>by
   rcases hf.tie _ _ e with z | z
   ·rcases List.mem_append.mp z with z | z
    ·exact .inl z
    ·have:=List.mem_singleton.mp z;exact absurd ⟨(Prod.mk.inj this).1,(Prod.mk.inj this).2⟩ n1
   ·rcases List.mem_append.mp z with z | z
    ·exact .inr z
    ·have:=List.mem_singleton.mp z;exact absurd ⟨(Prod.mk.inj this).2,(Prod.mk.inj this).1⟩ n2
  by_cases e:f v=some u
  ·right
   have eu:=hf.sym _ _ e
   have:=qaB hi0 _ (yh _) hnb (f:=fun a=>if a=v∨a=u then none else f a) ⟨fun a b z=>?_,fun a b z=>?_,fun a b z=>?_⟩
   ·rw [c2 f,e,eu,zS (g:=fun a=>if a=v∨a=u then none else f a) fun s hs=>by rw [if_neg (fun w=>w.elim (outB hs).2.1 (outB hs).2.2)]] at c
    simp at c
    omega
   ·(try dsimp only at z ⊢)
    split at z
    ·cases z
    ·rename_i hne
     have zs:=hf.sym _ _ z
     rw [if_neg (fun w=>?_)]
     ·exact zs
     ·rcases w with w | w
      ·rw [w,e] at zs;exact hne (.inr (ym zs).symm)
      ·rw [w,eu] at zs;exact hne (.inl (ym zs).symm)
   ·(try dsimp only at z)
    split at z
    ·cases z
    ·rename_i hne
     exact old z (fun w=>hne (.inl w.1)) fun w=>hne (.inr w.1)
   ·(try dsimp only at z)
    split at z
    ·cases z
    ·rename_i hne
     exact mem_del.mpr ⟨mem_del.mpr ⟨hf.inn a b z,fun w=>hne (.inl w)⟩,fun w=>hne (.inr w)⟩
  ·left
   have:=qaB hi0 _ (yh _) hn (f:=f) ⟨hf.sym,fun a b z=>old z (fun w=>e (by rw [← w.1,z,w.2])) (fun w=>e (by have:=hf.sym _ _ z;rw [w.1,w.2] at this;exact this)),hf.inn⟩
   omega
 split<;>omega
end
theorem sc_l_changed:FnScope ["_law_web", "_law_names_here", "_law_ties_here", "_law_box_here", "_law_most_here", "_law_place", "_law_other", "_law_many", "_law_both"] ["_law_web", "_law_names_here", "_law_ties_here", "_law_box_here"] (qd jK):=fS
inductive spCh (cw:Addr) (vs:List V) (H:Hp) (Q:VK) (E:XK):Prop|mk (x n l p:Addr) (ss:List Str) (ns:List Nat) (ts:List Addr) (tps:List (Str×Str)) (_:vs=[.ref x,.ref n,.ref l,.ref p]) (_:Box H p) (_:Wq p cw H x ss ns tps) (_:NL p H n ss) (_:ss≠[]) (_:ss.length≤7) (_:TL p H l ts tps) (_:∀ H',BB p H H'→Q (.bl true) H')
theorem qc0 {H:Hp} {m:Addr} {l:List Str} {s:Str} {Q:VK} (e:H m=some (.lst (l.map V.str))) (q:Q (.bl (!decide (s∈l))) H):qdQ K true (.str s) (.ref m) H Q:=
 .inl ⟨m,_,rfl,.inl (SqL.of e),rfl,qca l,by rw [if_pos rfl,qcv];exact q⟩
theorem vEqN {H:Hp} {a b:Nat} {Q:VK} (q:Q (.bl (decide (a=b))) H):qe7 K (.int a) (.int b) H Q:=.inl (.inl (.inl ⟨rfl,rfl,by
 have e:(if (false:Bool)=true then !eqV (.int (a:Nat)) (.int (b:Nat)) else eqV (.int (a:Nat)) (.int (b:Nat)))=decide (a=b):=by
  rw [if_neg (by decide)]
  unfold eqV
  by_cases e:a=b
  ·rw [e];simp
  ·rw [yl e];simp;omega
 rw [e];exact q⟩))
theorem ok_ch (F:Fun K "_law_changed" "_law_changed" jK f fd) (T:Txt K mg cc cw) (D_l_take:DefOk P w K mg base CX0 1 "_law_take" ["_law_box_here", "_law_many"] spTake) (D_l_most:DefOk P w K mg base CX0 10 "_law_most" ["_law_names_here", "_law_ties_here"] (spMo 7)) (D_count_of:DefOk P w K mg base CX0 15 "count_of" ["web"] (spCo cw)) (D_Web_without:MethOk P w K mg base CX0 8 cw "without" ["self", "places"] (spWo cw)) (D_Web_with_tie:MethOk P w K mg base CX0 8 cw "with_tie" ["self", "one", "other"] (spWi cw)) (D_l_loose:DefOk P w K mg base CX0 11 "_law_loose" ["_law_names_here", "_law_ties_here"] spLo) (D_l_tied:DefOk P w K mg base CX0 1 "_law_tied" ["_law_ties_here", "_law_one", "_law_other"] spTd):FnOk P w K mg base CX0 16 f fd ["_law_web", "_law_names_here", "_law_ties_here", "_law_box_here"] (spCh cw):=by
 refine F.ok sc_l_changed fun _ _ _ s H vs Q E hr h=>?_
 ·obtain ⟨x,n,l,p,ss,ns,ts,tps,rfl,hB,W,hn,hne,h7,hT,q⟩:=h
  have hu:=j8 hr
  have hpos:0 < ss.length:=List.length_pos_iff.mpr hne
  refine ⟨_,(qc (qr (i:=4) sc_l_changed.nd rfl (Or.inl rfl) (qp D_l_most (hmR hr) qC (qa (pv 1) (qa (pv 2) qe))))
 (qc (qr (i:=5) sc_l_changed.nd rfl (Or.inr rfl) (qx (qy (K:=K) rfl hu) (pv 1) (qp D_l_take (hmR hr) qC (qa (pv 3) (qa (qw (zw (K:=K) rfl) rfl T.b_len boot_len (qa (pv 1) qe)) qe))) (fun _ _=>rfl)))
 (qc (qr (i:=6) sc_l_changed.nd rfl (Or.inr rfl) (qx (qy (K:=K) rfl hu) (pv 1) (qp D_l_take (hmR hr) qC (qa (pv 3) (qa (qw (zw (K:=K) rfl) rfl T.b_len boot_len (qa (pv 1) qe)) qe))) (fun _ _=>rfl)))
 (qc (qr (i:=7) sc_l_changed.nd rfl (Or.inl rfl) (qp D_count_of (hmR hr) qC (qa (qH D_Web_without (hmR hr) (pv 0) (qa (je (qa (pv 5) qe)) qe)) qe)))
 (qc (qV (qo (qan (K:=K) rfl hu) (pv 7) (qP qcA (pv 4) (zl qbM rfl T.b_int boot_int (qa (jt (qax (K:=K) rfl hu) (pv 5) (qp D_l_loose (hmR hr) qC (qa (pv 1) (qa (pv 2) qe))) (by with_unfolding_all rfl)) qe))) (qB _)) (qf (qm j5)) qu)
 (qc (qV (PW.pt (qaT (qo (qaj (K:=K) rfl hu) (pv 5) (pv 6) (qB _)) (qaq (jg (qp D_l_tied (hmR hr) qC (qa (pv 2) (qa (pv 5) (qa (pv 6) qe)))))))) (qf (qm j5)) qu)
 (qc (qam (sc:=qd jK) (XN:=["_law_web", "_law_names_here", "_law_ties_here", "_law_box_here", "_law_most_here", "_law_place", "_law_other", "_law_many", "_law_both"]) ["_law_name", "_law_place", "_law_other"] 1 [5,6] rfl rfl rfl (by decide +kernel) rfl (by decide +kernel) (i:=8) sc_l_changed.nd rfl rfl
  (qT (K:=K) rfl (pv 1)) (fun _ _ _ _=>(qq (i:=0) (show (["_law_name", "_law_place", "_law_other"]:List Str).Nodup by decide +kernel) rfl (Or.inl rfl))) qY
  (fun _ _ _ _=>(jy (qo (qax (K:=K) rfl hu) (pv 0) (je (qa (pv 1) (qa (pv 2) qe))) (by with_unfolding_all rfl))))
  (fun _ _ _ _=>(pv 0)))
 (qf (qm (jt (qaj (K:=K) rfl hu) (qp D_count_of (hmR hr) qC (qa (qH D_Web_with_tie (hmR hr) (pv 0) (qa (pv 5) (qa (pv 6) qe))) qe)) (qP (zC (K:=K) rfl) (pv 4) (zl qbM rfl T.b_int boot_int (qa (jt (qaj (K:=K) rfl hu) (qp D_l_most (hmR hr) qC (qa (pv 8) (qa (pv 2) qe))) (pv 4) (qB _)) qe))) (qB _))))))))))),?_⟩
  ext
  refine ⟨n,l,ss,ts,tps,rfl,hn.1,h7,by omega,hT.pl,fun H1 s1=>?_⟩
  have b1:=(BB.refl hB).same s1
  obtain ⟨M,hM⟩:∃ M,M=mo tps 7 ss:=⟨_,rfl⟩
  rw [← hM]
  ext
  refine qai (b1.1 _ _ hn.2 hn.1) ?_
  rw [ya]
  ext
  refine ⟨p,ss.length,rfl,b1.2,by omega,by omega,fun r H2 r0 r1 c2=>?_⟩
  have b2:=b1.trans c2
  obtain ⟨i,rfl⟩:=Int.eq_ofNat_of_zero_le r0
  obtain ⟨v,gv⟩:∃ v,ss[i]?=some v:=⟨_,yb (by omega)⟩
  have hv:=ye gv
  have at_:∀ {j:Nat} {z:Str},ss[j]?=some z→(ss.map V.str)[j]?=some (.str z):=fun e=>by rw [yd,e];rfl
  refine .inl (qah (b2.1 _ _ hn.2 hn.1) (v:=.str v) (qz (at_ gv)) ?_)
  ext
  refine qai (b2.1 _ _ hn.2 hn.1) ?_
  rw [ya]
  ext
  refine ⟨p,ss.length,rfl,b2.2,by omega,by omega,fun r' H3 r0' r1' c3=>?_⟩
  have b3:=b2.trans c3
  obtain ⟨j,rfl⟩:=Int.eq_ofNat_of_zero_le r0'
  obtain ⟨u,gu⟩:∃ u,ss[j]?=some u:=⟨_,yb (by omega)⟩
  have hu9:=ye gu
  have hn3:=b3.1 _ _ hn.2 hn.1
  refine .inl (qah hn3 (v:=.str u) (qz (at_ gu)) ?_)
  have W3:=W.bb b3
  have hT3:=(hT.bb b3).pl
  have fin:∀ {J:Hp},L2.Same H3 J→Q (.bl true) J:=fun sJ=>q _ (b3.same sJ)
  clear b1 b2 c2 c3 s1
  obtain ⟨wx,dd,ol,nn,hbx,_⟩:=id W3.web
  ext
  refine ⟨x,wx,_,rfl,hbx,zq (by decide +kernel),?_⟩
  ext
  refine ⟨by show 1≤sizeLine;decide,fun a ha=>?_⟩
  have s4:=qO (Sr H3) (o:=.lst [.str v]) ha
  have ea:upd H3 a (.lst [.str v]) a=some (.lst [.str v]):=qb
  generalize upd H3 a (.lst [.str v])=H4 at s4 ea
  ext
  refine ⟨x,a,ss,ns,tps,v,rfl,W3.wt.same s4,ea,hv,h7,fun y ms H5 s5 W5=>?_⟩
  have s05:=s4.trans s5
  ext
  refine ⟨y,_,ms,_,rfl,W5,fun rs H6 s6 hG hM6=>?_⟩
  have s06:=s05.trans s6
  have hir:=W3.wt.ir
  have hnd:=W3.wt.wok.nd
  have hdl:(del ss v).length≤7:=yi (zt ss v) h7
  have hrs:rs.length=mo tps 7 (del ss v):=by
   rw [W5.mx hdl hG hM6]
   refine qbD 7 fun a ha b hb=>?_
   unfold tB qaD
   congr 1<;>exact decide_eq_decide.mpr (by rw [yp,Bool.and_eq_true,decide_eq_true_iff,decide_eq_true_iff];exact ⟨fun z=>z.1,fun z=>⟨z,by first | exact ⟨ha,hb⟩ | exact ⟨hb,ha⟩⟩⟩)
  have hdv:mo tps 7 (del ss v)=mo tps (del ss v).length (del ss v):=qdV hir hdl (yh _) (hnd.filter _)
  have hm7:=W3.wt.mo7 h7
  have hdd:=qaC hir hnd hv
  ext
  refine ⟨n,l,ss,ts,tps,rfl,s06 _ _ hn3,h7,hT3.same s06,fun ll H7 s7 hll0 ell=>?_⟩
  have s07:=s06.trans s7
  refine qc0 ell ?_
  ext
  refine .inr ⟨_,rfl,?_⟩
  ext
  have hlo:v∈lsL tps ss ss↔mo tps 7 (del ss v)=M:=by
   unfold lsL
   rw [yp,decide_eq_true_iff,hM]
   exact ⟨fun z=>z.2,fun z=>⟨hv,z⟩⟩
  refine neI (by
   rw [hrs]
   by_cases e:v∈lsL tps ss ss
   ·rw [decide_eq_true e,hlo.mp e];simp
   ·rw [yl e]
    have:¬ mo tps 7 (del ss v)=M:=fun z=>e (hlo.mpr z)
    simp
    omega) ?_
  refine ⟨_,rfl,qU (fun h=>by cases h) fun _=>?_⟩
  ext
  refine qeU ?_
  refine ⟨_,rfl,?_⟩
  by_cases huv:v=u
  ·rw [decide_eq_true huv]
   refine zv (zv ?_)
   ext
   exact fin s07
  ·rw [yl huv]
   refine yq ?_
   ext
   refine ⟨l,ts,tps,v,u,rfl,hT3.same s07,fun H8 s8=>?_⟩
   have s08:=s07.trans s8
   refine ⟨_,rfl,?_⟩
   cases htb:tB tps v u with
   | true =>
    refine zv ?_
    ext
    exact fin s08
   | false =>
    refine yq ?_
    have hnt:¬ tA tps v u:=fun z=>by rw [tB_iff.mpr z] at htb;cases htb
    have hn8:=s08 _ _ hn3
    ext
    refine .inl ⟨⟨_,.of hn8⟩,qJ (xs:=ss.map V.str) (fun i ys G=>L2.Same H8 G∧ys=((ss.take i).filter fun s=>!decide (s∈[v,u])).map V.str) ⟨L2.Same.refl H8,rfl⟩ (fun i ys G _ hp'=>.of (hp'.1 _ _ hn8)) (fun i y ys G hy hp'=>?_) fun ys G hp'=>?_⟩
    ·obtain ⟨sG,rfl⟩:=hp'
     rw [yd] at hy
     obtain ⟨z,hz,rfl⟩:=yn.mp hy
     have hil:=(yc.mp hz).1
     have hle:((ss.take i).filter fun s=>!decide (s∈[v,u])).length≤i:=yi (List.length_filter_le _ _) (by rw [List.length_take];omega)
     have hst:((ss.take (i + 1)).filter fun s=>!decide (s∈[v,u]))=((ss.take i).filter fun s=>!decide (s∈[v,u]))++(if (!decide (z∈[v,u]))=true then [z] else []):=by
      rw [List.take_add_one,hz,List.filter_append]
      show _++[z].filter _=_
      rw [List.filter_cons,List.filter_nil]
     ext
     refine ⟨by show 2≤sizeLine;decide,fun b hb=>?_⟩
     have s9:=qO sG (o:=.lst [.str v,.str u]) hb
     have eb:upd G b (.lst [.str v,.str u]) b=some (.lst ([v,u].map V.str)):=qb
     generalize upd G b (.lst [.str v,.str u])=G9 at s9 eb
     ext
     refine qc0 eb ?_
     refine ⟨_,rfl,?_⟩
     rw [hst]
     cases (!decide (z∈[v,u])) with
     | true =>
      refine zv ?_
      ext
      exact ⟨by rw [ya];exact qh (by omega),s9,by rw [if_pos rfl,List.map_append];rfl⟩
     | false=>exact qU (fun h=>by cases h) fun _=>⟨s9,by rw [if_neg (by decide),List.append_nil]⟩
    ·obtain ⟨sG,rfl⟩:=hp'
     rw [show (ss.map V.str).length=ss.length from ya _,List.take_length,del_two]
     have hbl:(del (del ss v) u).length≤7:=yi (zt _ _) hdl
     refine ⟨by rw [ya];exact Nat.le_of_lt (qh (by omega)),fun bl hbl0=>?_⟩
     have s0G:=s08.trans sG
     have s9:=qO s0G (o:=.lst ((del (del ss v) u).map V.str)) hbl0
     have ebl:upd G bl (.lst ((del (del ss v) u).map V.str)) bl=some (.lst ((del (del ss v) u).map V.str)):=qb
     generalize upd G bl (.lst ((del (del ss v) u).map V.str))=G9 at s9 ebl
     ext
     refine ⟨x,wx,_,rfl,s9 _ _ hbx,zq (by decide +kernel),?_⟩
     ext
     refine ⟨x,ss,ns,tps,v,u,rfl,W3.wt.same s9,hv,hu9,huv,hnt,h7,fun y2 ms2 G10 s10 W10=>?_⟩
     have s010:=s9.trans s10
     ext
     refine ⟨y2,ss,ms2,_,rfl,W10,fun rs2 G11 s11 hG2 hM2=>?_⟩
     have s011:=s010.trans s11
     ext
     refine ⟨bl,l,del (del ss v) u,ts,tps,rfl,(s10.trans s11) _ _ ebl,hbl,by omega,hT3.same s011,fun G12 s12=>?_⟩
     ext
     refine vEqN ?_
     ext
     refine .inr ⟨_,rfl,?_⟩
     have hir10:=W10.ir
     have hmt:=mo_tie hir10 hnd hv hu9
     have hr2:=W10.mx h7 hG2 hM2
     rw [W10.mo7 h7] at hr2
     have hb7:mo tps 7 (del (del ss v) u)=mo tps (del (del ss v) u).length (del (del ss v) u):=qdV hir hbl (yh _) ((hnd.filter _).filter _)
     have hfin:(rs2.length:Int)=(M:Int) + (if decide (mo tps 7 (del (del ss v) u)=M)=true then 1 else 0):=by
      rw [hr2,hmt,hM,hm7,hb7]
      by_cases e:mo tps (del (del ss v) u).length (del (del ss v) u)=mo tps ss.length ss
      ·rw [if_pos e,decide_eq_true e];simp
      ·rw [if_neg e,yl e];simp
     ext
     refine .inl (.inl (.inl ⟨rfl,rfl,?_⟩))
     rw [← hfin,if_neg (by decide)]
     have ee:eqV (.int (rs2.length:Int)) (.int (rs2.length:Int))=true:=by unfold eqV;simp
     rw [ee]
     exact fin (s011.trans s12)
def fr (k:Nat):Str:=("z":Str)++⟨#[97 + k]⟩
theorem qdI (k:Nat):(fr k).cps.toList=[122,97 + k]:=by
 unfold fr
 rw [qaa]
 rfl
theorem fr_name {k:Nat} (h:k < 8):zF (fr k)=true:=qbx (qdI k) (by show 1≤2;decide) (by show 2≤6;decide) (by
 rw [List.all_cons,List.all_cons,qdu (by decide) (by decide),qdu (by omega) (by omega)];rfl)
theorem qeg {j k:Nat} (e:fr j=fr k):j=k:=by
 have:=qdI j
 rw [e,qdI] at this
 simp at this
 omega
def frL (n:Nat):List Str:=(List.range n).map fr
theorem frL_get {n k:Nat} {s:Str}:(frL n)[k]?=some s↔k < n∧s=fr k:=by
 unfold frL
 rw [yd]
 by_cases h:k < n
 ·rw [yb (by simpa using h),List.getElem_range]
  simp [h,eq_comm]
 ·rw [List.getElem?_eq_none (by simpa using h)]
  simp [h]
theorem frL_ok {n:Nat} (h:n≤7):NOk (frL n):=by
 refine ⟨by unfold frL;rw [ya,List.length_range];omega,qa8 fun i j s hi hj=>?_,fun s hs=>?_⟩
 ·exact qeg ((frL_get.mp hi).2.symm.trans (frL_get.mp hj).2)
 ·obtain ⟨k,hk⟩:=yf hs
  obtain ⟨k1,rfl⟩:=frL_get.mp hk
  exact fr_name (by omega)
def nmT (ss:List Str) (tps:List (Str×Str)):List (Str×Str):=tps.map fun ab=>(fr (ss.idxOf ab.1),fr (ss.idxOf ab.2))
theorem tok_go {ss os:List Str} {tps:List (Str×Str)} (hp:∀ s∈ss,s∈os) (hn:ss.Nodup) (h:TOk ss tps):TGo os tps:=by
 refine ⟨h.few,fun ab hab=>?_,List.Pairwise.imp_of_mem (fun {q r} hq hr hne=>⟨hne,fun z=>?_⟩) h.nd⟩
 ·obtain ⟨j,k,l,h1,h2⟩:=h.ok ab hab
  exact ⟨hp _ (ye h1),hp _ (ye h2),fun e=>by rw [e] at h1;have:=qv hn h1 h2;omega⟩
 ·obtain ⟨j,k,l,h1,h2⟩:=h.ok q hq
  obtain ⟨j',k',l',h3,h4⟩:=h.ok r hr
  rw [z] at h1 h2
  have:=qv hn h1 h4
  have:=qv hn h2 h3
  omega
theorem nm_go {ss:List Str} {tps:List (Str×Str)} (hn:ss.Nodup) (h:TGo ss tps):TGo (frL ss.length) (nmT ss tps):=by
 have ix:∀ {s:Str},s∈ss→ss[ss.idxOf s]?=some s:=fun hs=>by rw [yb (List.idxOf_lt_length_of_mem hs),List.getElem_idxOf]
 have inj:∀ {a b:Str},a∈ss→b∈ss→fr (ss.idxOf a)=fr (ss.idxOf b)→a=b:=fun ha hb e=>by
  have:=ix ha
  rw [qeg e,ix hb] at this
  exact (ym this).symm
 refine ⟨by unfold nmT;rw [ya];exact h.few,fun ab hab=>?_,?_⟩
 ·obtain ⟨q,hq,rfl⟩:=List.mem_map.mp hab
  obtain ⟨h1,h2,h3⟩:=h.inn q hq
  exact ⟨ye (frL_get.mpr ⟨List.idxOf_lt_length_of_mem h1,rfl⟩),ye (frL_get.mpr ⟨List.idxOf_lt_length_of_mem h2,rfl⟩),fun e=>h3 (inj h1 h2 e)⟩
 ·unfold nmT
  refine List.pairwise_map.mpr (List.Pairwise.imp_of_mem (fun {q r} hq hr u=>⟨fun z=>u.1 ?_,fun z=>u.2 ?_⟩) h.un)
  ·exact Prod.ext (inj (h.inn q hq).1 (h.inn r hr).1 (Prod.mk.inj z).1) (inj (h.inn q hq).2.1 (h.inn r hr).2.1 (Prod.mk.inj z).2)
  ·exact Prod.ext (inj (h.inn q hq).1 (h.inn r hr).2.1 (Prod.mk.inj z).1) (inj (h.inn q hq).2.1 (h.inn r hr).1 (Prod.mk.inj z).2)
theorem Shuf.go {os:List Str} {tps ups:List (Str×Str)} (h:TGo os tps) (sh:Shuf tps ups):TGo os ups∧∀ a b,tA ups a b↔tA tps a b:=by
 have hm:∀ a b,tA ups a b↔tA tps a b:=fun a b=>by
  constructor
  ·rintro (z | z)
   ·exact sh.mem z
   ·exact (sh.mem z).symm
  ·have key:∀ {a b:Str},(a,b)∈tps→tA ups a b:=fun {a b} z=>by
    obtain ⟨qps,hp,ha⟩:=sh
    obtain ⟨k,hk⟩:=yf z
    obtain ⟨c,hc⟩:∃ c,qps[k]?=some c:=⟨_,yb (by rw [← ha.len];exact (yc.mp hk).1)⟩
    have hcm:=hp.mem_iff.mpr (ye hc)
    rcases ha.at_ k _ c hk hc with e | e
    ·rw [e] at hcm;exact .inl hcm
    ·rw [e] at hcm;exact .inr hcm
   rintro (z | z)
   ·exact key z
   ·exact (key z).symm
 refine ⟨⟨by rw [sh.len];exact h.few,fun ab hab=>?_,?_⟩,hm⟩
 ·rcases sh.mem hab with z | z
  ·exact h.inn _ z
  ·obtain ⟨h1,h2,h3⟩:=h.inn _ z
   exact ⟨h2,h1,Ne.symm h3⟩
 ·obtain ⟨qps,hp,ha⟩:=sh
  refine (hp.symm.pairwise_iff (R:=UN) (fun {a b} u=>u.symm)).mp (List.pairwise_iff_getElem.mpr fun i j hi hj hij=>?_)
  have hi':i < tps.length:=by rw [ha.len];exact hi
  have hj':j < tps.length:=by rw [ha.len];exact hj
  have u:=List.pairwise_iff_getElem.mp h.un i j hi' hj' hij
  have ei:=ha.at_ i _ _ (yb hi') (yb hi)
  have ej:=ha.at_ j _ _ (yb hj') (yb hj)
  have u1:=u.1
  have u2:=u.2
  refine ⟨fun z=>?_,fun z=>?_⟩<;>rcases ei with e1 | e1<;>rcases ej with e2 | e2<;>rw [e1,e2] at z
  ·exact u1 z
  ·exact u2 z
  ·exact u2 (by rw [← z])
  ·exact u1 (Prod.ext (Prod.mk.inj z).2 (Prod.mk.inj z).1)
  ·exact u2 z
  ·exact u1 z
  ·exact u1 (Prod.ext (Prod.mk.inj z).2 (Prod.mk.inj z).1)
  ·exact u2 (by rw [show tps[j]=(tps[i].2,tps[i].1) from z.symm])
theorem sc_l_anew:FnScope ["_law_names_here", "_law_ties_here", "_law_box_here", "_law_order", "_law_fresh", "_law_named", "_law_some", "_law_other", "_law_web"] ["_law_names_here", "_law_ties_here", "_law_box_here"] (qd j0):=fS
theorem L8_at {i:Nat} (h:i < 8):atI ("abcdefgh":Str).cps.toList (i:Int)=some (97 + i):=by
 match i,h with
 | 0,_=>rfl
 | 1,_=>rfl
 | 2,_=>rfl
 | 3,_=>rfl
 | 4,_=>rfl
 | 5,_=>rfl
 | 6,_=>rfl
 | 7,_=>rfl
theorem frL_snoc (n:Nat):frL (n + 1)=frL n++[fr n]:=by unfold frL;rw [List.range_succ,List.map_append];rfl
inductive spAn (vs:List V) (H:Hp) (Q:VK) (E:XK):Prop|mk (n l p:Addr) (ss:List Str) (ts:List Addr) (tps:List (Str×Str)) (_:vs=[.ref n,.ref l,.ref p]) (_:Box H p) (_:NL p H n ss) (_:NOk ss) (_:ss.length≤7) (_:TL p H l ts tps) (_:TGo ss tps) (_:∀ H',BB p H H'→Q (.bl true) H')
theorem shuf_same {ss:List Str} {ups:List (Str×Str)} (sh:Shuf (ss.map fun s=>(s,s)) ups):(ups.map Prod.fst).Perm ss:=by
 obtain ⟨qps,hp,ha⟩:=sh
 have e:qps=ss.map fun s=>(s,s):=by
  refine List.ext_getElem (by rw [← ha.len]) fun i h1 h2=>?_
  have:=ha.at_ i _ _ (yb h2) (yb h1)
  rw [List.getElem_map] at this
  rcases this with z | z<;>rw [z,List.getElem_map]
 rw [e] at hp
 have:=hp.map Prod.fst
 rw [List.map_map] at this
 have e2:ss.map (Prod.fst ∘ fun s=>(s,s))=ss:=by rw [show (Prod.fst ∘ fun s:Str=>(s,s))=id from rfl,List.map_id]
 rwa [e2] at this
theorem NOk.perm {ss os:List Str} (h:NOk ss) (p:os.Perm ss):NOk os:=⟨by rw [p.length_eq];exact h.few,p.symm.nodup h.nd,fun s hs=>h.nm s (p.mem_iff.mp hs)⟩
theorem TGo.perm {ss os:List Str} {tps:List (Str×Str)} (h:TGo ss tps) (p:os.Perm ss):TGo os tps:=⟨h.few,fun ab hab=>⟨p.mem_iff.mpr (h.inn ab hab).1,p.mem_iff.mpr (h.inn ab hab).2.1,(h.inn ab hab).2.2⟩,h.un⟩
theorem ok_an (F:Fun K "_law_anew" "_law_anew" j0 f fd) (T:Txt K mg cc cw) (D_l_shuffled:DefOk P w K mg base CX0 2 "_law_shuffled" ["_law_box_here", "_law_ties_here"] spShuf) (D_l_some_pairs:DefOk P w K mg base CX0 3 "_law_some_pairs" ["_law_box_here", "_law_ties_here"] spSo) (D_Web:MakeOk P w K mg base CX0 5 cw "Web" ["self", "names", "ties"] (spWeb cw)) (D_l_counted:DefOk P w K mg base CX0 16 "_law_counted" ["_law_web", "_law_names_here", "_law_ties_here", "_law_pairs"] (spCn cw)):FnOk P w K mg base CX0 17 f fd ["_law_names_here", "_law_ties_here", "_law_box_here"] spAn:=by
 refine F.ok sc_l_anew fun _ _ _ s H vs Q E hr h=>?_
 ·obtain ⟨n,l,p,ss,ts,tps,rfl,hB,hn,hO,h7,hT,hg,q⟩:=h
  have hu:=j8 hr
  refine ⟨_,(qc (qam (sc:=qd j0) (XN:=["_law_names_here", "_law_ties_here", "_law_box_here", "_law_order", "_law_fresh", "_law_named", "_law_some", "_law_other", "_law_web"]) ["_law_pair"] 1 [] rfl rfl rfl (by decide +kernel) rfl (by decide +kernel) (i:=3) sc_l_anew.nd rfl rfl
  (qT (K:=K) rfl (qp D_l_shuffled (hmR hr) qC (qa (pv 2) (qa (ju (sc:=qd j0) (XN:=["_law_names_here", "_law_ties_here", "_law_box_here", "_law_order", "_law_fresh", "_law_named", "_law_some", "_law_other", "_law_web"]) ["_law_name"] 1 [] rfl rfl rfl (by decide +kernel) rfl (by decide +kernel)
  (qT (K:=K) rfl (pv 0)) (fun _ _ _ _=>(qq (i:=0) (show (["_law_name"]:List Str).Nodup by decide +kernel) rfl (Or.inl rfl))) qY
  (fun _ _ _ _=>jS)
  (fun _ _ _ _=>(zk (qa (pv 0) (qa (pv 0) qe))))) qe)))) (fun _ _ _ _=>(qq (i:=0) (show (["_law_pair"]:List Str).Nodup by decide +kernel) rfl (Or.inl rfl))) qY
  (fun _ _ _ _=>jS)
  (fun _ _ _ _=>(qx (qy (K:=K) rfl hu) (pv 0) qi (fun _ _=>rfl))))
 (qc (qr (i:=4) sc_l_anew.nd rfl (Or.inr rfl) (ju (sc:=qd j0) (XN:=["_law_names_here", "_law_ties_here", "_law_box_here", "_law_order", "_law_fresh", "_law_named", "_law_some", "_law_other", "_law_web"]) ["_law_k"] 1 [] rfl rfl rfl (by decide +kernel) rfl (by decide +kernel)
  (zj rfl T.b_range (qa (qw (zw (K:=K) rfl) rfl T.b_len boot_len (qa (pv 0) qe)) qe)) (fun _ _ _ _=>(qq (i:=0) (show (["_law_k"]:List Str).Nodup by decide +kernel) rfl (Or.inl rfl))) qY
  (fun _ _ _ _=>jS)
  (fun _ _ _ _=>(qP (zC (K:=K) rfl) qbd (qx (qy (K:=K) rfl hu) qbd (pv 0) (fun _ _=>rfl))))))
 (qc (qam (sc:=qd j0) (XN:=["_law_names_here", "_law_ties_here", "_law_box_here", "_law_order", "_law_fresh", "_law_named", "_law_some", "_law_other", "_law_web"]) ["_law_one", "_law_other", "_law_fresh", "_law_names_here"] 2 [4,0] rfl rfl rfl (by decide +kernel) rfl (by decide +kernel) (i:=5) sc_l_anew.nd rfl rfl
  (qdr (K:=K) rfl (pv 1)) (fun _ _ _ _=>(qbI (n:=2) rfl (jZ (qq (i:=0) (show (["_law_one", "_law_other", "_law_fresh", "_law_names_here"]:List Str).Nodup by decide +kernel) rfl (Or.inl rfl)) (jZ (qq (i:=1) (show (["_law_one", "_law_other", "_law_fresh", "_law_names_here"]:List Str).Nodup by decide +kernel) rfl (Or.inl rfl)) qaU)))) qd8
  (fun _ _ _ _=>jS)
  (fun _ _ _ _=>(zk (qa (qx (qy (K:=K) rfl hu) (pv 2) (qbu (K:=K) rfl PySem.F.plainAttrs_list PySem.F.slot_list_index PySem.F.type_list_index (qa3 (K:=K) rfl) (pv 3) (qa (pv 0) qe)) (fun _ _=>rfl)) (qa (qx (qy (K:=K) rfl hu) (pv 2) (qbu (K:=K) rfl PySem.F.plainAttrs_list PySem.F.slot_list_index PySem.F.type_list_index (qa3 (K:=K) rfl) (pv 3) (qa (pv 1) qe)) (fun _ _=>rfl)) qe)))))
 (qc (jL PassesOwn.never rfl (qdr (K:=K) rfl (je (qa (zk (qa (pv 3) (qa (pv 1) qe))) (qa (zk (qa (pv 4) (qa (pv 5) qe))) qe)))) (qbI rfl (jZ (qq (i:=6) sc_l_anew.nd rfl (Or.inl rfl)) (jZ (qq (i:=7) sc_l_anew.nd rfl (Or.inl rfl)) qaU)))
 (qc (qr (i:=8) sc_l_anew.nd rfl (Or.inl rfl) (zz D_Web (hmR hr) (qa (pv 6) (qa (qp D_l_shuffled (hmR hr) qC (qa (pv 2) (qa (pv 7) qe))) qe))))
 (qf (qV (js (jg (qp D_l_counted (hmR hr) qC (qa (pv 8) (qa (pv 6) (qa (pv 7) (qa (qp D_l_some_pairs (hmR hr) qC (qa (pv 2) (qa (pv 7) qe))) qe))))))) (qf (qm j5)) qu))))
 (qf (qm j5)))))),?_⟩
  ext
  refine .inl ⟨⟨_,.of hn.1⟩,qJ (xs:=ss.map V.str) (fun i ys G=>BB p H G∧∃ us:List Addr,ys=us.map V.ref∧us.length=i∧All2 (PrT p G) us ((ss.take i).map fun s=>(s,s))) ⟨BB.refl hB,[],rfl,rfl,.nil⟩ (fun i ys G _ hp'=>.of (hp'.1.1 _ _ hn.2 hn.1)) (fun i y ys G hy hp'=>?_) fun ys G hp'=>?_⟩
  ·obtain ⟨bG,us,rfl,hul,hU⟩:=hp'
   rw [yd] at hy
   obtain ⟨z,hz,rfl⟩:=yn.mp hy
   have hil:=(yc.mp hz).1
   ext
   refine zv ?_
   ext
   refine ⟨by show 2≤sizeLine;decide,fun t ht=>?_⟩
   have sG:=qO (Sr G) (o:=.tup [.str z,.str z]) ht
   refine ⟨by rw [ya];exact qh (by omega),bG.new ht,us++[t],by rw [List.map_append];rfl,by rw [List.length_append,hul];rfl,?_⟩
   rw [List.take_add_one,hz,List.map_append]
   exact (hU.mono fun _ _ y=>⟨y.1,sG _ _ y.2⟩).snoc ⟨bG.apart ht,qb⟩
  ·obtain ⟨bG,us,rfl,hul,hU⟩:=hp'
   rw [show (ss.map V.str).length=ss.length from ya _,List.take_length] at hU
   rw [ya] at hul
   refine ⟨by rw [ya];exact Nat.le_of_lt (qh (by omega)),fun l1 hl1=>?_⟩
   have b1:=bG.new (o:=.lst (us.map V.ref)) hl1
   have s1:=qO (Sr G) (o:=.lst (us.map V.ref)) hl1
   have hT1:TL p (upd G l1 (.lst (us.map V.ref))) l1 us (ss.map fun s=>(s,s)):=⟨qb,bG.apart hl1,hU.mono fun _ _ y=>⟨y.1,s1 _ _ y.2⟩⟩
   generalize upd G l1 (.lst (us.map V.ref))=H1 at b1 hT1
   ext
   refine ⟨p,l1,us,_,rfl,b1.2,hT1,by rw [ya];omega,fun l2 vs2 ups H2 c2 hl20 hT2 sh=>?_⟩
   have b2:=b1.trans c2
   have hpm:=shuf_same sh
   refine .inl ⟨⟨_,.of hT2.1⟩,qJ (xs:=vs2.map V.ref) (fun i ys G=>G=H2∧ys=((ups.map Prod.fst).take i).map V.str) ⟨rfl,rfl⟩ (fun i ys G _ hp'=>by rw [hp'.1];exact .of hT2.1) (fun i y ys G hy hp'=>?_) fun ys G hp'=>?_⟩
   ·obtain ⟨rfl,rfl⟩:=hp'
    rw [yd] at hy
    obtain ⟨t,ht,rfl⟩:=yn.mp hy
    have hi:=(yc.mp ht).1
    obtain ⟨ab,hab⟩:∃ ab,ups[i]?=some ab:=⟨_,yb (by rw [← hT2.2.2.len];exact hi)⟩
    have et:=(hT2.2.2.at_ i t ab ht hab).2
    have hul2:ups.length≤7:=by have:=hpm.length_eq;rw [ya] at this;omega
    ext
    refine zv ?_
    ext
    refine .inl (qaK et (v:=.str ab.1) (qz (j:=0) rfl) ?_)
    refine ⟨by rw [ya,List.length_take,ya];exact qh (by omega),rfl,?_⟩
    rw [List.take_add_one,yd,hab,List.map_append]
    rfl
   ·obtain ⟨rfl,rfl⟩:=hp'
    have hul2:=hpm.length_eq
    rw [show (vs2.map V.ref).length=(ups.map Prod.fst).length by rw [ya,ya,hT2.2.2.len],List.take_length]
    generalize ups.map Prod.fst=os at hpm hul2
    have hOo:=hO.perm hpm
    have hgo:=hg.perm hpm
    refine ⟨by rw [ya];exact Nat.le_of_lt (qh (by omega)),fun ol hol=>?_⟩
    have b3:=b2.new (o:=.lst (os.map V.str)) hol
    have nol:=b2.apart hol
    have eol:upd G ol (.lst (os.map V.str)) ol=some (.lst (os.map V.str)):=qb
    generalize upd G ol (.lst (os.map V.str))=H3 at b3 eol
    have hn3:=b3.1 _ _ hn.2 hn.1
    ext
    refine qai hn3 ?_
    rw [ya]
    ext
    refine ⟨_,rfl,by omega,by omega,qaG (lo:=0) (n:=ss.length) (fun i ys G=>G=H3∧ys=(frL i).map V.str) ⟨rfl,rfl⟩ (fun i ys G hi hs=>?_) fun ys G hs=>?_⟩
    ·obtain ⟨rfl,rfl⟩:=hs
     ext
     refine zv ?_
     ext
     rw [Int.zero_add]
     refine .inl (qfi (by decide +kernel) (L8_at (by omega)) ?_)
     refine qdP (by show 1 + 1≤sizeLine;decide) ?_
     refine ⟨by unfold frL;rw [ya,ya,List.length_range];exact qh (by omega),rfl,?_⟩
     rw [frL_snoc,List.map_append]
     rfl
    ·obtain ⟨rfl,rfl⟩:=hs
     refine ⟨by unfold frL;rw [ya,ya,List.length_range];exact Nat.le_of_lt (qh (by omega)),fun fl hfl=>?_⟩
     have b4:=b3.new (o:=.lst ((frL ss.length).map V.str)) hfl
     have nfl:=b3.apart hfl
     have s4:=qO (Sr G) (o:=.lst ((frL ss.length).map V.str)) hfl
     have eol4:=s4 _ _ eol
     have efl:upd G fl (.lst ((frL ss.length).map V.str)) fl=some (.lst ((frL ss.length).map V.str)):=qb
     generalize upd G fl (.lst ((frL ss.length).map V.str))=H4 at b4 efl eol4
     have hT4:=hT.bb b4
     have hn4:=b4.1 _ _ hn.2 hn.1
     ext
     refine qeq ?_
     ext
     have hNa:=hT4.2.2.len
     have h30:=hg.few
     refine ⟨l,_,rfl,.of hT4.1,qJ (xs:=ts.map V.ref) (fun i ys G=>BB p H G∧L2.Same H4 G∧∃ us:List Addr,ys=us.map V.ref∧us.length=i∧All2 (PrT p G) us (nmT ss (tps.take i))) ⟨b4,L2.Same.refl H4,[],rfl,rfl,.nil⟩ (fun i ys G _ hp'=>.of (hp'.2.1 _ _ hT4.1)) (fun i y ys G hy hp'=>?_) fun ys G hp'=>?_⟩
     ·obtain ⟨bG,sG,us,rfl,hul,hU⟩:=hp'
      rw [yd] at hy
      obtain ⟨t,ht,rfl⟩:=yn.mp hy
      have hi:=(yc.mp ht).1
      obtain ⟨ab,hab⟩:∃ ab,tps[i]?=some ab:=⟨_,yb (by rw [← hNa];exact hi)⟩
      have et:=sG _ _ (hT4.2.2.at_ i t ab ht hab).2
      obtain ⟨m1,m2,_⟩:=hg.inn ab (ye hab)
      have atF:∀ {s:Str},s∈ss→((frL ss.length).map V.str)[ss.idxOf s]?=some (.str (fr (ss.idxOf s))):=fun hs=>by
       rw [yd,frL_get.mpr ⟨List.idxOf_lt_length_of_mem hs,rfl⟩];rfl
      refine ⟨t,_,rfl,.of et,rfl,_,_,rfl,_,_,rfl,rfl,?_⟩
      ext
      refine zv ?_
      ext
      refine ⟨.inl ⟨rfl,_,SqL.of (sG _ _ hn4)⟩,?_⟩
      ext
      refine ⟨n,ss,ab.1,rfl,rfl,SqL.of (sG _ _ hn4),m1,?_⟩
      refine .inl (qah (sG _ _ efl) (qz (atF m1)) ?_)
      ext
      refine ⟨.inl ⟨rfl,_,SqL.of (sG _ _ hn4)⟩,?_⟩
      ext
      refine ⟨n,ss,ab.2,rfl,rfl,SqL.of (sG _ _ hn4),m2,?_⟩
      refine .inl (qah (sG _ _ efl) (qz (atF m2)) ?_)
      ext
      refine ⟨by show 2≤sizeLine;decide,fun t2 ht2=>?_⟩
      have sG2:=qO (Sr G) (o:=.tup [.str (fr (ss.idxOf ab.1)),.str (fr (ss.idxOf ab.2))]) ht2
      refine ⟨by rw [ya];exact qh (by omega),bG.new ht2,sG.trans sG2,us++[t2],by rw [List.map_append];rfl,by rw [List.length_append,hul];rfl,?_⟩
      unfold nmT
      rw [List.take_add_one,hab,List.map_append]
      exact (hU.mono fun _ _ y=>⟨y.1,sG2 _ _ y.2⟩).snoc ⟨bG.apart ht2,qb⟩
     ·obtain ⟨bG,sG,us,rfl,hul,hU⟩:=hp'
      rw [show (ts.map V.ref).length=tps.length by rw [ya,hNa],List.take_length] at hU
      rw [ya] at hul
      refine ⟨by rw [ya];exact Nat.le_of_lt (qh (by omega)),fun nl hnl=>?_⟩
      have b5:=bG.new (o:=.lst (us.map V.ref)) hnl
      have s5:=qO sG (o:=.lst (us.map V.ref)) hnl
      have s55:=qO (Sr G) (o:=.lst (us.map V.ref)) hnl
      have hTn:TL p (upd G nl (.lst (us.map V.ref))) nl us (nmT ss tps):=⟨qb,bG.apart hnl,hU.mono fun _ _ y=>⟨y.1,s55 _ _ y.2⟩⟩
      generalize upd G nl (.lst (us.map V.ref))=H5 at b5 s5 hTn
      ext
      refine qeq ?_
      ext
      refine ⟨by show 2≤sizeLine;decide,fun t1 ht1=>?_⟩
      have b6:=b5.new (o:=.tup [.ref ol,.ref l]) ht1
      have s6:=qO (Sr H5) (o:=.tup [.ref ol,.ref l]) ht1
      have et1:upd H5 t1 (.tup [.ref ol,.ref l]) t1=some (.tup [.ref ol,.ref l]):=qb
      have nt1:=b5.apart ht1
      generalize upd H5 t1 (.tup [.ref ol,.ref l])=H6 at b6 s6 et1
      ext
      refine ⟨by show 2≤sizeLine;decide,fun t2 ht2=>?_⟩
      have b7:=b6.new (o:=.tup [.ref fl,.ref nl]) ht2
      have s7:=qO s6 (o:=.tup [.ref fl,.ref nl]) ht2
      have et17:=qO (Sr H6) (o:=.tup [.ref fl,.ref nl]) ht2 _ _ et1
      have et2:upd H6 t2 (.tup [.ref fl,.ref nl]) t2=some (.tup [.ref fl,.ref nl]):=qb
      have nt2:=b6.apart ht2
      generalize upd H6 t2 (.tup [.ref fl,.ref nl])=H7 at b7 s7 et17 et2
      ext
      refine ⟨by show 2≤sizeLine;decide,fun gl hgl=>?_⟩
      have b8:=b7.new (o:=.lst [.ref t1,.ref t2]) hgl
      have s78:=qO (Sr H7) (o:=.lst [.ref t1,.ref t2]) hgl
      have egl:upd H7 gl (.lst [.ref t1,.ref t2]) gl=some (.lst [.ref t1,.ref t2]):=qb
      have ngl:=b7.apart hgl
      have k1:=s78 _ _ et17
      have k2:=s78 _ _ et2
      have s8:=(s5.trans s7).trans s78
      have hTn8:=hTn.same (s7.trans s78)
      generalize upd H7 gl (.lst [.ref t1,.ref t2])=H8 at b8 egl k1 k2 s8 hTn8
      have items:∀ (i:Nat) y,[V.ref t1,V.ref t2][i]?=some y→∃ (t a b:Addr) (os':List Str) (us':List Addr) (ks:List (Str×Str)),y=.ref t∧H8 t=some (.tup [.ref a,.ref b])∧t≠p∧NL p H8 a os'∧NOk os'∧os'.length≤7∧TL p H8 b us' ks∧TGo os' ks:=fun i y hy=>by
       match i,hy with
       | 0,hy=>cases hy;exact ⟨t1,ol,l,os,ts,tps,rfl,k1,nt1,⟨s8 _ _ eol4,nol⟩,hOo,by omega,hT4.same s8,hgo⟩
       | 1,hy=>cases hy;exact ⟨t2,fl,nl,frL ss.length,us,nmT ss tps,rfl,k2,nt2,⟨s8 _ _ efl,nfl⟩,frL_ok h7,by unfold frL;rw [ya,List.length_range];exact h7,hTn8,nm_go hO.nd hg⟩
       | i + 2,hy=>simp at hy
      clear eol efl eol4 k1 k2 et17 et2 et1 hTn hTn8 hU hT4 hT1 hT2
      refine ⟨gl,_,rfl,.of egl,jf (xs:=[.ref t1,.ref t2]) (fun i σ J=>BB p H8 J∧∃ y6 y7 y8,σ=[some (.ref n),some (.ref l),some (.ref p),some (.ref ol),some (.ref fl),some (.ref nl),y6,y7,y8]) ⟨BB.refl b8.2,_,_,_,rfl⟩ (fun i σ J _ hp=>.of (hp.1.1 _ _ ngl egl)) (fun i y σ J hy hp=>?_) fun σ J hp=>?_⟩
      ·obtain ⟨bJ,y6,y7,y8,rfl⟩:=hp
       obtain ⟨t,a,b,os',us',ks,rfl,et,nt,hna,hOs,hs7,hTb,hgs⟩:=items i y hy
       refine ⟨t,_,rfl,.of (bJ.1 _ _ nt et),rfl,_,_,rfl,_,_,rfl,rfl,?_⟩
       ext
       refine ⟨p,b,us',ks,rfl,bJ.2,hTb.bb bJ,hgs.few,fun sl vs3 ups J1 c1 hsl0 hS sh=>?_⟩
       have c01:=bJ.trans c1
       obtain ⟨gu,tu⟩:=Shuf.go hgs sh
       have hna1:=hna.bb c01
       ext
       refine fun y dx hy' hdx hne=>qdW hna1.1 hOs.few hOs.nd hOs.nm hS.pl gu hy' hdx hne fun ms J2 s2 wn W2=>⟨rfl,?_⟩
       have Wq2:Wq p cw J2 y os' ms ks:=⟨wn.apart (c01.apart hy') (fun z e e0=>by subst e;obtain ⟨_,_,_,q9⟩:=c01.2;rw [q9] at e0;cases e0),(W2.to hgs.inn fun a b _ _=>tu a b).adj,hgs.inn⟩
       have c02:=c01.same s2
       ext
       refine ⟨p,b,os',us',ks,rfl,c02.2,hTb.bb c02,hgs.few,hgs.inn,fun l3 us3 qs3 J3 c3 hl30 hT3 hG3=>?_⟩
       have c03:=c02.trans c3
       ext
       refine ⟨y,a,b,l3,os',ms,us',us3,ks,qs3,rfl,(Wq2.bb c3).wt,(hna.bb c03).1,hs7,(hTb.bb c03).pl,hT3.pl,hG3,fun J4 s4=>?_⟩
       refine ⟨_,rfl,qU (fun h=>by cases h) fun _=>?_⟩
       exact ⟨c03.same s4,_,_,_,rfl⟩
      ·obtain ⟨bJ,y6,y7,y8,rfl⟩:=hp
       ext
       exact q J (b8.trans bJ)
theorem sc_law:FnScope ["_law_script", "_law_k", "_law_box_here", "_law_names_here", "_law_ties_here", "_law_web"] ["_law_script"] (qd qbE):=fS
inductive spLaw (K:W.Frag) (vs:List V) (H:Hp) (Q:VK) (E:XK):Prop|mk (a:Addr) (ns:List Int) (_:vs=[.ref a]) (_:SqL K H a (ns.map V.int)) (_:ns.length≤63) (_:∀ H',Q (.bl true) H')
theorem BB.out {p:Addr} {H H1 H2:Hp} (s:L2.Same H H1) (hp:H p=none) (b:BB p H1 H2):L2.Same H H2:=fun c o e=>b.1 c o (fun z=>by subst z;rw [hp] at e;cases e) (s c o e)
theorem ok_law36 (F:Fun K "law" "law" qbE f fd) (T:Txt K mg cc cw) (D_l_cell:DefOk P w K mg base CX0 1 "_law_cell" ["_law_script", "_law_k"] (spCell K)) (D_l_box:DefOk P w K mg base CX0 1 "_law_box" ["_law_cell_here"] spBox) (D_l_take:DefOk P w K mg base CX0 1 "_law_take" ["_law_box_here", "_law_many"] spTake) (D_l_names:DefOk P w K mg base CX0 2 "_law_names" ["_law_box_here", "_law_many"] spNames) (D_l_ties:DefOk P w K mg base CX0 2 "_law_ties" ["_law_box_here", "_law_names_here"] spTies) (D_Web:MakeOk P w K mg base CX0 5 cw "Web" ["self", "names", "ties"] (spWeb cw)) (D_l_some_pairs:DefOk P w K mg base CX0 3 "_law_some_pairs" ["_law_box_here", "_law_ties_here"] spSo) (D_l_counted:DefOk P w K mg base CX0 16 "_law_counted" ["_law_web", "_law_names_here", "_law_ties_here", "_law_pairs"] (spCn cw)) (D_l_anew:DefOk P w K mg base CX0 17 "_law_anew" ["_law_names_here", "_law_ties_here", "_law_box_here"] spAn) (D_l_changed:DefOk P w K mg base CX0 16 "_law_changed" ["_law_web", "_law_names_here", "_law_ties_here", "_law_box_here"] (spCh cw)):FnOk P w K mg base CX0 18 f fd ["_law_script"] (spLaw K):=by
 refine F.ok sc_law fun _ _ _ s H vs Q E hr h=>?_
 ·obtain ⟨a,zs,rfl,ha,hl,q⟩:=h
  have hu:=j8 hr
  refine ⟨_,(qc (jL PassesOwn.never rfl (zj rfl T.b_range (qa (qw (qbL rfl) rfl T.b_max boot_max (qa qi (qa (qw (call_min2 rfl) rfl T.b_min boot_min (qa qi (qa (qw (zw (K:=K) rfl) rfl T.b_len boot_len (qa (pv 0) qe)) qe))) qe))) qe)) (qq (i:=1) sc_law.nd rfl (Or.inl rfl))
 (qc (qr (i:=2) sc_law.nd rfl (Or.inl rfl) (qp D_l_box (hmR hr) qC (qa (qp D_l_cell (hmR hr) qC (qa (pv 0) (qa (pv 1) qe))) qe)))
 (qc (qr (i:=3) sc_law.nd rfl (Or.inl rfl) (qp D_l_names (hmR hr) qC (qa (pv 2) (qa (qp D_l_take (hmR hr) qC (qa (pv 2) (qa qi qe))) qe))))
 (qc (qr (i:=4) sc_law.nd rfl (Or.inl rfl) (qp D_l_ties (hmR hr) qC (qa (pv 2) (qa (pv 3) qe))))
 (qc (qr (i:=5) sc_law.nd rfl (Or.inl rfl) (zz D_Web (hmR hr) (qa (pv 3) (qa (pv 4) qe))))
 (qc (qV (js (jg (qp D_l_counted (hmR hr) qC (qa (pv 5) (qa (pv 3) (qa (pv 4) (qa (qp D_l_some_pairs (hmR hr) qC (qa (pv 2) (qa (pv 4) qe))) qe))))))) (qf (qm j5)) qu)
 (qc (qV (PW.pt (qaT (js (jg (qp D_l_counted (hmR hr) qC (qa (pv 5) (qa (pv 3) (qa (pv 4) (qa (je qe) qe))))))) (qaq (js (jg (qp D_l_anew (hmR hr) qC (qa (pv 3) (qa (pv 4) (qa (pv 2) qe))))))))) (qf (qm j5)) qu)
 (qf (qV (PW.pt (qbG (qo (qan (K:=K) rfl hu) (pv 3) (je qe) (qB _)) (qaS (js (jg (qp D_l_changed (hmR hr) qC (qa (pv 5) (qa (pv 3) (qa (pv 4) (qa (pv 2) qe)))))))))) (qf (qm j5)) qu)))))))))
 (qf (qm j5))),?_⟩
  ext
  refine qd1 ha ?_
  ext
  refine ⟨_,_,rfl,?_⟩
  ext
  refine ⟨_,_,rfl,?_⟩
  ext
  rw [ya]
  refine ⟨_,rfl,by split<;>split<;>omega,by split<;>split<;>omega,?_⟩
  generalize hN:(Int.toNat _)=N
  have hN':N≤63:=by rw [← hN];split<;>split<;>omega
  clear hN
  refine qar (fun i σ H'=>L2.Same H H'∧∃ x1 x2 x3 x4 x5,σ=[some (.ref a),x1,x2,x3,x4,x5]) ⟨L2.Same.refl H,none,none,none,none,none,rfl⟩ (fun i σ H1 hi hp=>?_) fun σ H1 hp=>?_
  ·obtain ⟨s1,x1,x2,x3,x4,x5,rfl⟩:=hp
   ext
   refine ⟨a,zs,_,rfl,s1.seq ha,by omega,by omega,fun c=>?_⟩
   ext
   refine ⟨c,rfl,fun p u1 u2 u3 hp0=>?_⟩
   have s2:=qO s1 (o:=.lst [.int u1,.int u2,.int u3]) hp0
   have hB:Box (upd H1 p (.lst [.int u1,.int u2,.int u3])) p:=⟨u1,u2,u3,qb⟩
   have hpH:H p=none:=s1.free hp0
   generalize upd H1 p (.lst [.int u1,.int u2,.int u3])=H2 at s2 hB
   ext
   refine ⟨p,8,rfl,hB,by decide,by decide,fun m H3 m0 m8 b3=>?_⟩
   ext
   refine ⟨p,m,rfl,b3.2,m0,by omega,fun n ss H4 c4 hn0 hn hO hm=>?_⟩
   have b4:=b3.trans c4
   have h7:ss.length≤7:=by omega
   ext
   refine ⟨p,n,ss,rfl,b4.2,hn,hO,fun l ts tps H5 c5 hl0 hT hTo=>?_⟩
   have b5:=b4.trans c5
   have hn5:=hn.bb c5
   have hg:TGo ss tps:=tok_go (fun s h=>h) hO.nd hTo
   ext
   refine fun y dx hy hdx hne=>qdW hn5.1 hO.few hO.nd hO.nm hT.pl hg hy hdx hne fun ns H6 s6 wn W6=>⟨rfl,?_⟩
   have Wq6:Wq p cw H6 y ss ns tps:=⟨wn.apart (b5.apart hy) (fun z e e0=>by subst e;obtain ⟨_,_,_,q9⟩:=b5.2;rw [q9] at e0;cases e0),W6.adj,hg.inn⟩
   have b6:=b5.same s6
   have hn6:=hn5.same s6
   have hT6:=hT.same s6
   ext
   refine ⟨p,l,ss,ts,tps,rfl,b6.2,hT6,hg.few,hg.inn,fun l7 us7 qs7 H7 c7 hl70 hT7 hG7=>?_⟩
   have b7:=b6.trans c7
   have Wq7:=Wq6.bb c7
   have hn7:=hn6.bb c7
   have hT77:=hT6.bb c7
   ext
   refine ⟨y,n,l,l7,ss,ns,ts,us7,tps,qs7,rfl,Wq7.wt,hn7.1,h7,hT77.pl,hT7.pl,hG7,fun H8 s8=>?_⟩
   have b8:=b7.same s8
   refine ⟨_,rfl,qU (fun h=>by cases h) fun _=>?_⟩
   ext
   refine ⟨by decide,fun l9 hl9=>?_⟩
   have s9:=qO s8 (o:=.lst []) hl9
   have e9:upd H8 l9 (.lst []) l9=some (.lst []):=qb
   have b9:=b8.new (o:=.lst []) hl9
   generalize upd H8 l9 (.lst [])=H9 at s9 e9 b9
   have Wq9:=Wq7.same s9
   have hn9:=hn7.same s9
   have hT9:=hT77.same s9
   ext
   refine ⟨y,n,l,l9,ss,ns,ts,[],tps,[],rfl,Wq9.wt,hn9.1,h7,hT9.pl,⟨e9,.nil⟩,⟨(fun q h=>by cases h),List.nodup_nil,by decide⟩,fun H10 s10=>?_⟩
   have b10:=b9.same s10
   refine ⟨_,rfl,qU (fun h=>by cases h) fun _=>?_⟩
   ext
   refine ⟨n,l,p,ss,ts,tps,rfl,b10.2,hn9.same s10,hO,h7,hT9.same s10,hg,fun H11 c11=>?_⟩
   have b11:=b10.trans c11
   refine ⟨_,rfl,qU (fun h=>by cases h) fun _=>?_⟩
   have hn11:=(hn9.same s10).bb c11
   ext
   refine ⟨by decide,fun l12 hl12=>?_⟩
   have s12:=qO (Sr H11) (o:=.lst []) hl12
   have e12:upd H11 l12 (.lst []) l12=some (.lst []):=qb
   have b12:=b11.new (o:=.lst []) hl12
   generalize upd H11 l12 (.lst [])=H12 at s12 e12 b12
   have hn12:=hn11.same s12
   ext
   refine qec hn12.1 e12 ?_
   refine ⟨_,rfl,?_⟩
   have out:∀ {J:Hp},BB p H12 J→L2.Same H J:=fun c=>BB.out s2 hpH (b12.trans c)
   by_cases hne9:ss=[]
   ·subst hne9
    refine qU (fun h=>by cases h) fun _=>qU (fun h=>by cases h) fun _=>?_
    exact ⟨out (BB.refl b12.2),_,_,_,_,_,rfl⟩
   ·have he:(ss.map V.str).isEmpty=false:=by
     cases ss with
     | nil=>exact absurd rfl hne9
     | cons a r=>rfl
    rw [he]
    refine zv ?_
    ext
    refine ⟨y,n,l,p,ss,ns,ts,tps,rfl,b12.2,((Wq9.same s10).bb c11).same s12,hn12,hne9,h7,((hT9.same s10).bb c11).same s12,fun H13 c13=>?_⟩
    refine ⟨_,rfl,qU (fun h=>by cases h) fun _=>?_⟩
    exact ⟨out c13,_,_,_,_,_,rfl⟩
  ·obtain ⟨s1,x1,x2,x3,x4,x5,rfl⟩:=hp
   ext
   exact q H1
end
theorem fn_false {P:Program} {w:World} {K:W.Frag} {mg:Str→Option Value} {base:Heap} {CX:CXT} {k:Nat} {f:Addr} {fd:FuncData} {ps:List Str}:FnOk P w K mg base CX k f fd ps (fun _ _ _ _=>False):=⟨fun _ _ _ _ h=>h.elim,by intros;contradiction⟩
theorem all_mk {l:W.OpenLaw} {w:World} {K:W.Frag} {h:Heap} {mg:Str→Option Value} {fa Cw Cf :Addr} {ty0 ty1 ty2:Tok} (X:K.In h) (G:h.Ns mainGlobals mg) (hfa:mg "law"=some (.ref fa))
  (Cw_:W.nsIn K mainGlobals "Web"=some (some (.ref Cw)))
  (Cf_:W.nsIn K mainGlobals "Forest"=some (some (.ref Cf)))
  (h_are_pairs:FG K "are_pairs" jV)
  (h_partners_in:FG K "partners_in" jB)
  (h_told_pairs:FG K "told_pairs" jw)
  (h_is_row:FG K "is_row" qac)
  (h_are_unlike_places:FG K "are_unlike_places" qN)
  (h_goes_by_turns:FG K "goes_by_turns" qK)
  (h_can_turn:FG K "can_turn" zf)
  (h_turned:FG K "turned" zO)
  (h_greatest:FG K "greatest" zg)
  (h_count_of:FG K "count_of" zh)
  (h_greatest_from:FG K "greatest_from" jj)
  (h_is_name:FG K "is_name" zo)
  (h_has_bit:FG K "has_bit" zE)
  (h_is_place:FG K "is_place" za)
  (h_are_two_places:FG K "are_two_places" qZ)
  (h_numbers_of:FG K "numbers_of" jM)
  (h_near_of:FG K "near_of" zG)
  (h_l_cell:FG K "_law_cell" zX)
  (h_l_box:FG K "_law_box" qaI)
  (h_l_take:FG K "_law_take" zY)
  (h_l_names:FG K "_law_names" j4)
  (h_l_ties:FG K "_law_ties" qab)
  (h_l_shuffled:FG K "_law_shuffled" jv)
  (h_l_partner:FG K "_law_partner" jX)
  (h_l_singles:FG K "_law_singles" jJ)
  (h_l_some_pairs:FG K "_law_some_pairs" jp)
  (h_l_tied:FG K "_law_tied" qae)
  (h_l_most:FG K "_law_most" zP)
  (h_l_loose:FG K "_law_loose" zu)
  (h_l_counted:FG K "_law_counted" jY)
  (h_l_anew:FG K "_law_anew" j0)
  (h_l_changed:FG K "_law_changed" jK)
  (h_law:FG K "law" qbE)
  (h_iw:FM K Cw "__init__" "Web.__init__" zc)
  (h_m_places:FM K Cw "places" "Web.places" jN)
  (h_m_ties:FM K Cw "ties" "Web.ties" ze)
  (h_m_has_place:FM K Cw "has_place" "Web.has_place" jh)
  (h_m_has_tie:FM K Cw "has_tie" "Web.has_tie" jA)
  (h_m_number_of:FM K Cw "number_of" "Web.number_of" ji)
  (h_m_beside:FM K Cw "beside" "Web.beside" jO)
  (h_m_bits_beside:FM K Cw "bits_beside" "Web.bits_beside" qW)
  (h_m_tied:FM K Cw "tied" "Web.tied" zd)
  (h_m_names_in:FM K Cw "names_in" "Web.names_in" jd)
  (h_m_without:FM K Cw "without" "Web.without" q8)
  (h_m_with_tie:FM K Cw "with_tie" "Web.with_tie" jq)
  (h_Cf___init__:FM K Cf "__init__" "Forest.__init__" jD)
  (h_Cf_row:FM K Cf "row" "Forest.row" jP)
  (h_Cf_reached:FM K Cf "reached" "Forest.reached" qS)
  (h_Cf_grow:FM K Cf "grow" "Forest.grow" jC)
  (h_Cf_reach:FM K Cf "reach" "Forest.reach" jo)
  (h_Cf_look_around:FM K Cf "look_around" "Forest.look_around" qM)
  (h_Cf_bring_together:FM K Cf "bring_together" "Forest.bring_together" qA)
  (h_Cf_bases_down_from:FM K Cf "bases_down_from" "Forest.bases_down_from" qF)
  (h_Cf_reach_round:FM K Cf "reach_round" "Forest.reach_round" qL)
  (h_Cf_fold:FM K Cf "fold" "Forest.fold" jl)
  (w1:W.plainGet K Cw Str.empty=true)
  (w2:W.hasDictIn K Cw=true)
  (w3:W.plainOver K Cw=true)
  (w4:W.findIn K (.ref Cw) "__setattr__"=some (some (.builtin "object.__setattr__")))
  (w5:W.makesIn K Cw=true)
  (w6:W.keepIn K (.ref Cw)=true)
  (w7:W.findIn K (.ref Cw) "numbers"=some none)
  (w8:W.findIn K (.ref Cw) "order"=some none)
  (w9:W.findIn K (.ref Cw) "near"=some none)
  (pw1:W.plainGet K Cf Str.empty=true)
  (pw2:W.hasDictIn K Cf=true)
  (pw3:W.plainOver K Cf=true)
  (pw4:W.findIn K (.ref Cf) "__setattr__"=some (some (.builtin "object.__setattr__")))
  (pw5:W.makesIn K Cf=true)
  (pw6:W.keepIn K (.ref Cf)=true)
  (pf0:W.findIn K (.ref Cf) "board"=some none)
  (pf1:W.findIn K (.ref Cf) "partners"=some none)
  (pf2:W.findIn K (.ref Cf) "rows"=some none)
  (pf3:W.findIn K (.ref Cf) "parents"=some none)
  (pf4:W.findIn K (.ref Cf) "bases"=some none)
  (pf5:W.findIn K (.ref Cf) "rings"=some none)
  (pf6:W.findIn K (.ref Cf) "waiting"=some none)
  (pf7:W.findIn K (.ref Cf) "longer"=some none)
  (zz0:W.nsIn K mainGlobals "zip"=some none)
  (z0:W.nsIn K mainGlobals "len"=some none)
  (z1:W.nsIn K mainGlobals "int"=some none)
  (z2:W.nsIn K mainGlobals "enumerate"=some none)
  (z3:W.nsIn K mainGlobals "all"=some none)
  (z4:W.nsIn K mainGlobals "max"=some none)
  (z5:W.nsIn K mainGlobals "min"=some none)
  (z6:W.nsIn K mainGlobals "isinstance"=some none)
  (z7:W.nsIn K mainGlobals "bool"=some none)
  (z8:W.nsIn K mainGlobals "str"=some none)
  (z9:W.nsIn K mainGlobals "range"=some none)
  (z10:W.nsIn K mainGlobals "list"=some none)
  (z11:W.nsIn K mainGlobals "tuple"=some none)
  (u0:W.nsIn K mainGlobals "LONGEST_NAME"=some (some (.int 6 ty0)))
  (u1:W.nsIn K mainGlobals "MOST_PLACES"=some (some (.int 14 ty1)))
  (u2:W.nsIn K mainGlobals "MOST_TIES"=some (some (.int 30 ty2))) :
  ∃ fd:FuncData,(∀ (s:Shared) (v:Value),BindsTo s fd ⟨[v],[]⟩ [("_law_script",v)])∧∀ base:Heap,K.In base→base.Ns mainGlobals mg→FnOk l.prog w K mg base CX0 18 fa fd ["_law_script"] (spLaw K):=by
 obtain ⟨f_are_pairs,e_are_pairs,a_are_pairs,F_Qaa⟩:=h_are_pairs
 obtain ⟨f_partners_in,e_partners_in,a_partners_in,F_Qbe⟩:=h_partners_in
 obtain ⟨f_told_pairs,e_told_pairs,a_told_pairs,F_Qbf⟩:=h_told_pairs
 obtain ⟨f_is_row,e_is_row,a_is_row,F_Qal⟩:=h_is_row
 obtain ⟨f_are_unlike_places,e_are_unlike_places,a_are_unlike_places,F_Qac⟩:=h_are_unlike_places
 obtain ⟨f_goes_by_turns,e_goes_by_turns,a_goes_by_turns,F_Qaf⟩:=h_goes_by_turns
 obtain ⟨f_can_turn,e_can_turn,a_can_turn,F_Qad⟩:=h_can_turn
 obtain ⟨f_turned,e_turned,a_turned,F_Qbg⟩:=h_turned
 obtain ⟨f_greatest,e_greatest,a_greatest,F_Qag⟩:=h_greatest
 obtain ⟨f_count_of,e_count_of,a_count_of,F_Qae⟩:=h_count_of
 obtain ⟨f_greatest_from,e_greatest_from,a_greatest_from,F_Qah⟩:=h_greatest_from
 obtain ⟨f_is_name,e_is_name,a_is_name,F_Qaj⟩:=h_is_name
 obtain ⟨f_has_bit,e_has_bit,a_has_bit,F_Qai⟩:=h_has_bit
 obtain ⟨f_is_place,e_is_place,a_is_place,F_Qak⟩:=h_is_place
 obtain ⟨f_are_two_places,e_are_two_places,a_are_two_places,F_Qab⟩:=h_are_two_places
 obtain ⟨f_numbers_of,e_numbers_of,a_numbers_of,F_Qbd⟩:=h_numbers_of
 obtain ⟨f_near_of,e_near_of,a_near_of,F_Qbc⟩:=h_near_of
 obtain ⟨f_l_cell,e_l_cell,a_l_cell,F_Qao⟩:=h_l_cell
 obtain ⟨f_l_box,e_l_box,a_l_box,F_Qan⟩:=h_l_box
 obtain ⟨f_l_take,e_l_take,a_l_take,F_Qay⟩:=h_l_take
 obtain ⟨f_l_names,e_l_names,a_l_names,F_Qat⟩:=h_l_names
 obtain ⟨f_l_ties,e_l_ties,a_l_ties,F_Qba⟩:=h_l_ties
 obtain ⟨f_l_shuffled,e_l_shuffled,a_l_shuffled,F_Qav⟩:=h_l_shuffled
 obtain ⟨f_l_partner,e_l_partner,a_l_partner,F_Qau⟩:=h_l_partner
 obtain ⟨f_l_singles,e_l_singles,a_l_singles,F_Qaw⟩:=h_l_singles
 obtain ⟨f_l_some_pairs,e_l_some_pairs,a_l_some_pairs,F_Qax⟩:=h_l_some_pairs
 obtain ⟨f_l_tied,e_l_tied,a_l_tied,F_Qaz⟩:=h_l_tied
 obtain ⟨f_l_most,e_l_most,a_l_most,F_Qas⟩:=h_l_most
 obtain ⟨f_l_loose,e_l_loose,a_l_loose,F_Qar⟩:=h_l_loose
 obtain ⟨f_l_counted,e_l_counted,a_l_counted,F_Qaq⟩:=h_l_counted
 obtain ⟨f_l_anew,e_l_anew,a_l_anew,F_Qam⟩:=h_l_anew
 obtain ⟨f_l_changed,e_l_changed,a_l_changed,F_Qap⟩:=h_l_changed
 obtain ⟨f_law,e_law,a_law,F_Qbb⟩:=h_law
 obtain ⟨f_iw,e_iw,a_iw,n_iw,F_iw⟩:=h_iw
 obtain ⟨f_m_places,e_m_places,a_Qbn,n_Qbn,F_Qbn⟩:=h_m_places
 obtain ⟨f_m_ties,e_m_ties,a_Qbp,n_Qbp,F_Qbp⟩:=h_m_ties
 obtain ⟨f_m_has_place,e_m_has_place,a_Qbj,n_Qbj,F_Qbj⟩:=h_m_has_place
 obtain ⟨f_m_has_tie,e_m_has_tie,a_Qbk,n_Qbk,F_Qbk⟩:=h_m_has_tie
 obtain ⟨f_m_number_of,e_m_number_of,a_Qbm,n_Qbm,F_Qbm⟩:=h_m_number_of
 obtain ⟨f_m_beside,e_m_beside,a_Qbh,n_Qbh,F_Qbh⟩:=h_m_beside
 obtain ⟨f_m_bits_beside,e_m_bits_beside,a_Qbi,n_Qbi,F_Qbi⟩:=h_m_bits_beside
 obtain ⟨f_m_tied,e_m_tied,a_Qbo,n_Qbo,F_Qbo⟩:=h_m_tied
 obtain ⟨f_m_names_in,e_m_names_in,a_Qbl,n_Qbl,F_Qbl⟩:=h_m_names_in
 obtain ⟨f_m_without,e_m_without,a_Qbr,n_Qbr,F_Qbr⟩:=h_m_without
 obtain ⟨f_m_with_tie,e_m_with_tie,a_Qbq,n_Qbq,F_Qbq⟩:=h_m_with_tie
 obtain ⟨f_Cf___init__,e_Cf___init__,a_Cf___init__,n_Cf___init__,F_Cf___init__⟩:=h_Cf___init__
 obtain ⟨f_Cf_row,e_Cf_row,a_Cf_row,n_Cf_row,F_Cf_row⟩:=h_Cf_row
 obtain ⟨f_Cf_reached,e_Cf_reached,a_Cf_reached,n_Cf_reached,F_Cf_reached⟩:=h_Cf_reached
 obtain ⟨f_Cf_grow,e_Cf_grow,a_Cf_grow,n_Cf_grow,F_Cf_grow⟩:=h_Cf_grow
 obtain ⟨f_Cf_reach,e_Cf_reach,a_Cf_reach,n_Cf_reach,F_Cf_reach⟩:=h_Cf_reach
 obtain ⟨f_Cf_look_around,e_Cf_look_around,a_Cf_look_around,n_Cf_look_around,F_Cf_look_around⟩:=h_Cf_look_around
 obtain ⟨f_Cf_bring_together,e_Cf_bring_together,a_Cf_bring_together,n_Cf_bring_together,F_Cf_bring_together⟩:=h_Cf_bring_together
 obtain ⟨f_Cf_bases_down_from,e_Cf_bases_down_from,a_Cf_bases_down_from,n_Cf_bases_down_from,F_Cf_bases_down_from⟩:=h_Cf_bases_down_from
 obtain ⟨f_Cf_reach_round,e_Cf_reach_round,a_Cf_reach_round,n_Cf_reach_round,F_Cf_reach_round⟩:=h_Cf_reach_round
 obtain ⟨f_Cf_fold,e_Cf_fold,a_Cf_fold,n_Cf_fold,F_Cf_fold⟩:=h_Cf_fold
 have e:=hfa.symm.trans (W.mg_of X G a_law)
 cases e
 have wcl:Cls K Cw:=⟨w1,w2,w3,w4⟩
 have pcl:Cls K Cf:=⟨pw1,pw2,pw3,pw4⟩
 have pfa:∀ a∈fAtt,NoAttr K Cf a:=fun a ha=>by
  unfold fAtt at ha
  simp only [List.mem_cons,List.not_mem_nil,or_false] at ha
  rcases ha with rfl | rfl | rfl | rfl | rfl | rfl | rfl | rfl<;>assumption
 have T:Txt K mg (fun i=>Cf) Cw:=⟨W.mg_none_of X G z0,
  W.mg_none_of X G z1,
  W.mg_none_of X G z2,
  W.mg_none_of X G z3,
  W.mg_none_of X G z4,
  W.mg_none_of X G z5,
  W.mg_none_of X G z6,
  W.mg_none_of X G z7,
  W.mg_none_of X G z8,
  W.mg_none_of X G z9,
  W.mg_none_of X G z10,
  W.mg_none_of X G z11,
  ⟨ty0,W.mg_of X G u0⟩,
  ⟨ty1,W.mg_of X G u1⟩,
  ⟨ty2,W.mg_of X G u2⟩,
  wcl,
  w7,
  w8,
  w9,
  W.mg_of X G Cw_,
  W.mg_of X G Cf_,
  pcl,
  pfa,
  W.mg_none_of X G zz0⟩
 obtain ⟨oc,od,kV,doc,pm,an,cd,ct,sl,rfl,lk,hc⟩:=F_Qbb.ex
 refine ⟨W.fnOf "law" "law" (qk qbE) (qj qbE) (qd qbE) .none kV doc pm an cd ct,fun s v=>.of_eq rfl,fun base _ _=>?_⟩
 have fg:=@fg_mk l.prog w K mg base h
 have fm:=@fm_mk l.prog w K mg base
 have fw:=@fw_mk l.prog w K mg base h
 have d_name:=fg X G a_is_name F_Qaj (ok_name F_Qaj T)
 have d_place:=fg X G a_is_place F_Qak (ok_place F_Qak d_name)
 have d_two:=fg X G a_are_two_places F_Qab (ok_two F_Qab T d_place)
 have d_bit:=fg X G a_has_bit F_Qai (ok_bit F_Qai)
 have d_nums:=fg X G a_numbers_of F_Qbd (ok_nums F_Qbd T d_name)
 have d_near:=fg X G a_near_of F_Qbc (ok_near F_Qbc T d_two d_bit)
 have q_web:MakeOk l.prog w K mg base CX0 5 Cw "Web" ["self", "names", "ties"] (spWeb Cw):=fw X G Cw_ w5 w6 a_iw n_iw F_iw (ok_web F_iw T d_nums d_near)
 have m_has:=fm wcl a_Qbj n_Qbj F_Qbj (ok_has F_Qbj T d_place)
 have m_num:=fm wcl a_Qbm n_Qbm F_Qbm (ok_num F_Qbm T m_has)
 have m_bb:=fm wcl a_Qbi n_Qbi F_Qbi (ok_bb F_Qbi T m_num)
 have m_nin:=fm wcl a_Qbl n_Qbl F_Qbl (ok_nin F_Qbl T d_bit)
 have m_bs:=fm wcl a_Qbh n_Qbh F_Qbh (ok_bs F_Qbh T m_bb m_nin)
 have m_tied:=fm wcl a_Qbo n_Qbo F_Qbo (ok_tied F_Qbo T m_bb m_num d_bit)
 have m_pls:=fm wcl a_Qbn n_Qbn F_Qbn (ok_pls F_Qbn T)
 have m_ts:=fm wcl a_Qbp n_Qbp F_Qbp (ok_ts F_Qbp T m_bs)
 have m_ht:=fm wcl a_Qbk n_Qbk F_Qbk (ok_ht F_Qbk T d_two m_tied)
 have m_wo:=fm wcl a_Qbr n_Qbr F_Qbr (ok_wo F_Qbr T m_num m_ts q_web)
 have m_wi:=fm wcl a_Qbq n_Qbq F_Qbq (ok_wi F_Qbq T m_tied m_ts q_web)
 have d_ap:=fg X G a_are_pairs F_Qaa (ok_ap F_Qaa T m_ht)
 have d_pn:=fg X G a_partners_in F_Qbe (ok_pn F_Qbe T d_ap)
 have d_tp:=fg X G a_told_pairs F_Qbf (ok_tp F_Qbf T d_pn m_ts)
 have d_ul:=fg X G a_are_unlike_places F_Qac (ok_ul F_Qac T m_has)
 have d_gt:=fg X G a_goes_by_turns F_Qaf (ok_gt F_Qaf T m_ht)
 have d_ir:=fg X G a_is_row F_Qal (ok_ir F_Qal T d_pn d_ul d_gt)
 have d_ct:=fg X G a_can_turn F_Qad (ok_ct F_Qad T d_pn d_ir)
 have d_tu:=fg X G a_turned F_Qbg (ok_tu F_Qbg T d_pn m_ts d_ct)
 have p_re:=fm pcl a_Cf_reach n_Cf_reach F_Cf_reach (ok_re F_Cf_reach T)
 have p_bd:=fm pcl a_Cf_bases_down_from n_Cf_bases_down_from F_Cf_bases_down_from (ok_bd F_Cf_bases_down_from T)
 have p_rr:=fm pcl a_Cf_reach_round n_Cf_reach_round F_Cf_reach_round (ok_rr F_Cf_reach_round T p_re)
 have p_fd:=fm pcl a_Cf_fold n_Cf_fold F_Cf_fold (ok_fdF F_Cf_fold T m_pls)
 have p_bt:=fm pcl a_Cf_bring_together n_Cf_bring_together F_Cf_bring_together (ok_bt F_Cf_bring_together T p_bd p_rr p_fd)
 have p_la:=fm pcl a_Cf_look_around n_Cf_look_around F_Cf_look_around (ok_la F_Cf_look_around T m_bs p_bt p_re)
 have p_gw:=fm pcl a_Cf_grow n_Cf_grow F_Cf_grow (ok_gw F_Cf_grow T m_pls p_re p_la)
 have p_mk:MakeOk l.prog w K mg base CX0 10 Cf "Forest" ["self", "web", "pairs"] (spFi (fun i=>Cf) Cw):=fw X G Cf_ pw5 pw6 a_Cf___init__ n_Cf___init__ F_Cf___init__ (ok_fi F_Cf___init__ T d_pn p_gw)
 have p_row:=fm pcl a_Cf_row n_Cf_row F_Cf_row (ok_fr F_Cf_row T)
 have p_rch:=fm pcl a_Cf_reached n_Cf_reached F_Cf_reached (ok_fd2 F_Cf_reached T m_pls)
 have d_gf:=fg X G a_greatest_from F_Qah (ok_gf F_Qah T d_tp p_mk p_row d_tu)
 have d_gr:=fg X G a_greatest F_Qag (ok_gr F_Qag T d_gf)
 have d_co:=fg X G a_count_of F_Qae (ok_co F_Qae T d_gr)
 have d_ce:=fg X G a_l_cell F_Qao (ok_cell F_Qao T)
 have d_bx:=fg X G a_l_box F_Qan (ok_box F_Qan)
 have d_tk:=fg X G a_l_take F_Qay (ok_take F_Qay)
 have d_nm:=fg X G a_l_names F_Qat (ok_names F_Qat T d_tk)
 have d_ti:=fg X G a_l_ties F_Qba (ok_ties F_Qba T d_tk)
 have d_sh:=fg X G a_l_shuffled F_Qav (ok_shuf F_Qav T d_tk)
 have d_pa:=fg X G a_l_partner F_Qau (ok_pa F_Qau T)
 have d_sg:=fg X G a_l_singles F_Qaw (ok_sg F_Qaw T d_pa)
 have d_td:=fg X G a_l_tied F_Qaz (ok_td F_Qaz T)
 have d_so:=fg X G a_l_some_pairs F_Qax (ok_so F_Qax T d_tk d_sh d_sg)
 have d_no:DefOk l.prog w K mg base CX0 2 "_law_most" ["_law_names_here", "_law_ties_here"] (fun _ _ _ _=>False):=fg X G a_l_most F_Qas (fn_false)
 have d_m0:=fg X G a_l_most F_Qas (qce F_Qas T 0 (by decide) _ (fun h=>absurd h (by decide)) d_td d_no)
 have d_m1:=fg X G a_l_most F_Qas (qce F_Qas T 1 (by decide) _ (fun _=>rfl) d_td d_m0)
 have d_m2:=fg X G a_l_most F_Qas (qce F_Qas T 2 (by decide) _ (fun _=>rfl) d_td d_m1)
 have d_m3:=fg X G a_l_most F_Qas (qce F_Qas T 3 (by decide) _ (fun _=>rfl) d_td d_m2)
 have d_m4:=fg X G a_l_most F_Qas (qce F_Qas T 4 (by decide) _ (fun _=>rfl) d_td d_m3)
 have d_m5:=fg X G a_l_most F_Qas (qce F_Qas T 5 (by decide) _ (fun _=>rfl) d_td d_m4)
 have d_m6:=fg X G a_l_most F_Qas (qce F_Qas T 6 (by decide) _ (fun _=>rfl) d_td d_m5)
 have d_m7:=fg X G a_l_most F_Qas (qce F_Qas T 7 (by decide) _ (fun _=>rfl) d_td d_m6)
 have d_lo:=fg X G a_l_loose F_Qar (ok_lo F_Qar T d_m7)
 have d_cn:=fg X G a_l_counted F_Qaq (ok_cn F_Qaq T d_m7 d_gf d_co p_mk p_row p_rch d_lo)
 have d_ch:=fg X G a_l_changed F_Qap (ok_ch F_Qap T d_tk d_m7 d_co m_wo m_wi d_lo d_td)
 have d_an:=fg X G a_l_anew F_Qam (ok_an F_Qam T d_sh d_so q_web d_cn)
 exact ok_law36 F_Qbb T d_ce d_bx d_tk d_nm d_ti q_web d_so d_cn d_an d_ch
theorem walk {l:PySem.W.OpenLaw} {q:Program} {loose:List Str} {XP:(Str→Option Value)→Heap→Prop} {YP:World→Heap→Prop} {d:DefRec} {K:Params→yg} (hn:l.most=some 63) (hdf:d.params.defaults=[])
  (hY:∀ (w:World) (h:Heap),YP w h→(K w.params).In h)
  (F:∀ (w:World) (mg:Str→Option Value) (fa:Addr) (h:Heap),(K w.params).In h→h.Ns mainGlobals mg→mg d.name=some (.ref fa) →
   ∃ fd:FuncData,(∀ (s:Shared) (u:Value),BindsTo s fd ⟨[u],[]⟩ [("_law_script",u)])∧∀ base:Heap,(K w.params).In base→base.Ns mainGlobals mg→FnOk l.prog w (K w.params) mg base CX0 18 fa fd ["_law_script"] (spLaw (K w.params))) :
  PySem.W.WalkO q loose XP YP l.row.toRowW d [] (fun f vs=>PySem.call f vs):=
 L2.walk_of (n:=63) (k:=18) (x:="_law_script") (CX:=fun _=>CX0) (sp:=fun w=>spLaw (K w.params)) hn (by decide) hdf ⟨rfl,by decide,by decide,rfl⟩ hY F (fun _ _ a ns hl _ hS=>⟨a,ns,rfl,hS,hl,fun _=>rfl⟩) fun _ _ _ _ _ z=>z
end K36
set_option maxRecDepth 100000 in
set_option maxHeartbeats 0 in
theorem PySem.Challenge.cw_onceroad_k36_whole_greatest_of_small_web_holds : PySem.Challenge.rw_onceroad_k36_whole_greatest_of_small_web.Holds := by
  w_on; o_law
  refine PySem.W.holds_open (q := K36.Q) (loose := []) (Xt := K36.Xt) (XP := PySem.W.XL K36.Q []) (Yf := PySem.W.Hook.obs K36.Hk) (Ya := PySem.W.Hook.val K36.Hk) (YP := PySem.W.Hook.says (PySem.W.kHook K36.Kf K36.ks K36.ks_eq)) (N := K36.NN) K36.hl (PySem.W.Hook.of K36.Hk) (PySem.W.Hook.keeps K36.Hk) (fun s e => PySem.W.xl_of s (Bool.and_eq_true_iff.mp e).1) PySem.W.XL.keeps (by rfl) (by rfl) (by rfl) (fun s e => PySem.W.recFacts_of (Bool.and_eq_true_iff.mp e).2) (by rfl) (by first | assumption | decide +kernel) (by decide +kernel) ⟨rfl, rfl, rfl, rfl, rfl, by decide +kernel⟩ ?hw ?hc
  (case hw => w_witness2)
  k_fill
  refine K36.walk (l := PySem.Challenge.rw_onceroad_k36_whole_greatest_of_small_web) rfl rfl (fun w h Y => PySem.W.kIn_of Y) ?F
  case F =>
    intro w mg fa h KX G hmg
    refine' K36.all_mk KX G hmg ?_ ?_ ?_ ?_ ?_ ?_ ?_ ?_ ?_ ?_ ?_ ?_ ?_ ?_ ?_ ?_ ?_ ?_ ?_ ?_ ?_ ?_ ?_ ?_ ?_ ?_ ?_ ?_ ?_ ?_ ?_ ?_ ?_ ?_ ?_ ?_ ?_ ?_ ?_ ?_ ?_ ?_ ?_ ?_ ?_ ?_ ?_ ?_ ?_ ?_ ?_ ?_ ?_ ?_ ?_ ?_ ?_ ?_ ?_ ?_ ?_ ?_ ?_ ?_ ?_ ?_ ?_ ?_ ?_ ?_ ?_ ?_ ?_ ?_ ?_ ?_ ?_ ?_ ?_ ?_ ?_ ?_ ?_ ?_ ?_ ?_ ?_ ?_ ?_ ?_ ?_ ?_ ?_ ?_ ?_ ?_
    any_goals first | k_is | decide
    any_goals first | k_is | decide | exact ⟨_, _, by k_is, L2.fun_mk (by k_is) (by k_is) (by k_is)⟩ | exact ⟨_, _, by k_is, by k_is, L2.fun_mk (by k_is) (by k_is) (by k_is)⟩ | exact ⟨_, _, _, _, _, _, _, _, _, _, _, _, _, _, _, by k_is⟩ | exact ⟨by k_is, by k_is, by k_is, by k_is, by k_is, by k_is, by k_is, by k_is⟩ | kernel_rfl | fail
