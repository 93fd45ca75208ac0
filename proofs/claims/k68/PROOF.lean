import PyProof.Rows.All
import Wide.All
import OpenK.AllK
import Wide.FinOn
import PyProof.EqAt
import PyProof.EqKinds
import PyProof.TupleCall
import Lean
import PySem.Challenge.RW_onceroad_k68_twins_and_roads_ahead
set_option Elab.async false
set_option linter.all false
set_option maxRecDepth 100000
namespace L2
open PySem PySem.Spec PyProof.Rows
def qz (s:Stmt) (j:Nat):Stmt:=match s with
 | .ClassDef _ _ _ body _ _ _ _ _ _ _=>body.getD j (.Pass ⟨0,0,0,0⟩)
 | _=>.Pass ⟨0,0,0,0⟩
def qj (s:Stmt):Arguments:=match s with
 | .FunctionDef _ a _ _ _ _ _ _ _ _=>a
 | _=>{ posonlyargs:=[],args:=[],vararg:=none,kwonlyargs:=[],kw_defaults:=[],kwarg:=none,defaults:=[] }
def qh (s:Stmt):List Stmt:=match s with
 | .FunctionDef _ _ b _ _ _ _ _ _ _=>b
 | _=>[]
def qb (s:Stmt):Scope:=match s with
 | .FunctionDef _ _ _ _ _ _ sc _ _ _=>sc
 | _=>{ kind:=.function,names:=[],isGenerator:=false,isCoroutine:=false }
end L2
namespace K68
open PySem L2 PyProof.Rows
def top (i:Nat):Stmt:=PySem.Challenge.pw_onceroad_k68_twins_and_roads_ahead.main.body.getD i (.Pass ⟨0,0,0,0⟩)
abbrev qU:Stmt:=qz (top 2) 0
abbrev jy:Stmt:=qz (top 3) 0
abbrev jJ:Stmt:=qz (top 4) 0
abbrev jm:Stmt:=qz (top 5) 0
abbrev jK:Stmt:=qz (top 6) 0
abbrev jo:Stmt:=qz (top 7) 0
abbrev jz:Stmt:=qz (top 8) 0
abbrev jA:Stmt:=qz (top 9) 0
abbrev qV:Stmt:=qz (top 10) 0
abbrev zk:Stmt:=top 15
abbrev zD:Stmt:=top 23
abbrev zc:Stmt:=top 24
abbrev qW:Stmt:=top 25
abbrev jL:Stmt:=top 26
abbrev zd:Stmt:=qz (top 22) 0
abbrev zE:Stmt:=top 27
abbrev jM:Stmt:=qz (top 22) 1
abbrev jh:Stmt:=qz (top 22) 4
abbrev ji:Stmt:=qz (top 22) 6
abbrev jN:Stmt:=qz (top 22) 7
abbrev qP:Stmt:=qz (top 22) 8
abbrev jd:Stmt:=qz (top 22) 12
abbrev ze:Stmt:=qz (top 22) 2
abbrev zf:Stmt:=qz (top 22) 11
abbrev jV:Stmt:=qz (top 17) 0
abbrev zh:Stmt:=qz (top 17) 1
abbrev qX:Stmt:=qz (top 17) 2
abbrev jW:Stmt:=qz (top 17) 3
abbrev jX:Stmt:=qz (top 17) 5
abbrev jY:Stmt:=qz (top 17) 9
abbrev zi:Stmt:=top 13
abbrev jZ:Stmt:=top 14
abbrev qM:Stmt:=qz (top 30) 0
abbrev qK:Stmt:=qz (top 30) 3
abbrev jO:Stmt:=qz (top 17) 6
abbrev jP:Stmt:=qz (top 17) 7
abbrev jq:Stmt:=qz (top 17) 8
abbrev qN:Stmt:=qz (top 30) 1
abbrev jw:Stmt:=qz (top 30) 2
abbrev zG:Stmt:=qz (top 30) 4
abbrev j0:Stmt:=top 33
abbrev qaR:Stmt:=top 34
abbrev qam:Stmt:=top 35
abbrev qR:Stmt:=top 36
abbrev zn:Stmt:=top 37
abbrev zX:Stmt:=top 39
abbrev zo:Stmt:=top 40
abbrev zp:Stmt:=top 41
abbrev qai:Stmt:=top 38
abbrev zH:Stmt:=top 42
abbrev jk:Stmt:=top 44
abbrev qJ:Stmt:=top 43
abbrev qan:Stmt:=top 45
abbrev jQ:Stmt:=top 18
abbrev j1:Stmt:=qz (top 30) 6
abbrev zI:Stmt:=top 48
abbrev je:Stmt:=top 31
abbrev zJ:Stmt:=top 46
abbrev jx:Stmt:=top 47
abbrev j2:Stmt:=top 49
abbrev jr:Stmt:=top 50
abbrev jR:Stmt:=top 51
abbrev qY:Stmt:=top 52
abbrev jj:Stmt:=qz (top 30) 5
abbrev qbq:Stmt:=top 53
end K68
namespace Hd
open PySem PySem.W PySem.Calls PyProof.Rows
def qgf (tb:String→Option Builtin) (p:Program) (w:World) (n₀:Nat) (ann:Option Value):Nat→SharedT→Thread→Option SharedT
 | 0,_,_=>none
 | n + 1,s,t=>match through t with
  | true=>some s
  | false=>match stepOk n₀ ann t with
   | false=>none
   | true=>match stepT (denote tb) p w s t with
    | some (s',t')=>qgf tb p w n₀ ann n s' t'
    | none=>none
theorem qe1 {tb:String→Option Builtin} {p:Program} {w:World} {n₀:Nat} {ann:Option Value}:∀ {n:Nat} {s s':SharedT} {t:Thread},qgf tb p w n₀ ann n s t=some s'→topRun tb p w n₀ ann n s.abs t=some s'.abs
 | 0,_,_,_,h=>by cases h
 | n + 1,s,s',t,h=>by
  unfold qgf at h
  unfold topRun
  cases he:through t with
  | true=>rw [he] at h;cases h;rfl
  | false =>
   rw [he] at h
   cases hk:stepOk n₀ ann t with
   | false=>rw [hk] at h;cases h
   | true =>
    rw [hk] at h
    cases hs:stepT (denote tb) p w s t with
    | none=>rw [hs] at h;cases h
    | some r=>obtain ⟨s₂,t₂⟩:=r;rw [hs] at h;rw [stepT_spec hs];exact qe1 h
def qcK:List Obj→Nat→BT→BT
 | [],_,t=>t
 | o::r,n,t=>qcK r (n + 1) (t.ins n o)
noncomputable def qfr (P:Params) (os:OsState):SharedT:=⟨qcK (boot_heap P).objs.toList 0 .nil,(boot_heap P).objs.size,(boot_heap P).life,Array.mk [],boot_drawn,boot_toks,os⟩
theorem boot_abs (P:Params):absHeap (qcK (boot_heap P).objs.toList 0 .nil) (boot_heap P).objs.size (boot_heap P).life=boot_heap P:=by kernel_rfl
noncomputable def lookT (p q:Program) (Xt:Shared→Bool) {α:Type} (Yf:Shared→α) (N:Nat) (w:World) (os:OsState):=match (boot_heap w.params).isNs mainGlobals&&(Array.mk []:Array GenState).size==0 with
 | true=>(qgf treeTable p w (boot_heap w.params).objs.size ((boot_heap w.params).nsMap mainGlobals "__annotations__") N (qfr w.params os) (topStub p)).bind fun s=>match staticsOk (importedModules p.main.body) (boot_heap w.params) s.abs.heap&&namesBound p s.abs.heap&&gensDone s.abs&&laidKept (boot_heap w.params) s.abs.heap with
   | true=>some (openSeen q [] (importedModules p.main.body) Xt true s.abs,Yf s.abs)
   | false=>none
 | false=>none
theorem left_of {p q:Program} {Xt:Shared→Bool} {α:Type} {Yf:Shared→α} {Ya:World→α} {N:Nat} (e:opening p=plainProg p.main.scope.names) (hN:Nat.ble 600 N=true) (f:∀ s,fenceModules? p s=some s)
  (h:∀ w os,lookT p q Xt Yf N w os=some (openGood q [],Ya w)):LeftO p q [] Xt Yf Ya N:=fun w=>by
 obtain ⟨⟨h0,gs,d,k,os⟩,e1,e2⟩:=Option.map_eq_some_iff.mp (boot_open e hN f w)
 obtain ⟨rfl,rfl,rfl,rfl⟩:h0=boot_heap w.params∧gs=Array.mk []∧d=boot_drawn∧k=boot_toks:=by simpa using e2
 have hh:=h w os
 unfold lookT at hh
 unfold openEnds
 rw [e1]
 show (topFrom treeTable p w N _).map _=_
 unfold topFrom
 dsimp only
 split at hh
 ·rename_i z
  rw [z]
  obtain ⟨s,hs,q2⟩:=Option.bind_eq_some_iff.mp hh
  have r:=qe1 hs
  have ba:(qfr w.params os).abs=⟨boot_heap w.params,Array.mk [],boot_drawn,boot_toks,os⟩:=by
   unfold qfr SharedT.abs
   dsimp only
   rw [boot_abs]
  rw [ba] at r
  dsimp only
  rw [r]
  split at q2
  ·rename_i z2
   show ((match staticsOk (importedModules p.main.body) (boot_heap w.params) s.abs.heap&&namesBound p s.abs.heap&&gensDone s.abs&&laidKept (boot_heap w.params) s.abs.heap with | true=>some s.abs | false=>none):Option Shared).map _=_
   rw [z2]
   exact q2
  ·cases q2
 ·cases hh
end Hd
namespace K68
open PySem L2 PyProof.Rows PySem.W
abbrev NN:Nat:=20000
noncomputable def Q:Program:=view PySem.Challenge.pw_onceroad_k68_twins_and_roads_ahead [0,2,3,4,5,6,7,8,9,10,12,13,14,15,17,18,20,21,22,23,24,25,26,27,29,30,31,33,34,35,36,37,38,39,40,41,42,43,44,45,46,47,48,49,50,51,52,53]
def en (P:Params) (k:Str) (t:Tok) (v:Value):DictEntry:=⟨PyData.keyHash P k,.str k t,v⟩
noncomputable def Kf (P:Params):Frag:=
 (nat_lit 2,(⟨.none,none,.dict #[] 0,#[]⟩:Obj)) ::
 (nat_lit 3,(⟨(.type "dict"),none,.dict #[en P "__name__" 165 (.str "law_onceroad_k68_twins_and_roads_ahead" 843),en P "__doc__" 166 .none,en P "__package__" 167 .none,en P "__loader__" 168 (.builtin "__main__.__loader__#opaque"),en P "__spec__" 169 .none,en P "__annotations__" 170 (.ref 6),en P "__builtins__" 171 (.ref 4),en P "__file__" 173 (.str "/claim/cut.py" 172),en P "__cached__" 174 .none,en P "_wall" 193 (.ref 21),en P "OnceError" 221 (.ref 38),en P "NoName" 246 (.ref 58),en P "Twice" 271 (.ref 77),en P "NoPlace" 296 (.ref 96),en P "NoTie" 321 (.ref 115),en P "TooMany" 346 (.ref 134),en P "NoMove" 371 (.ref 153),en P "NoBack" 394 (.ref 172),en P "NoNumbers" 419 (.ref 191),en P "LONGEST_NAME" 423 (.int 6 422),en P "is_whole" 430 (.ref 200),en P "is_within" 439 (.ref 207),en P "is_name" 445 (.ref 212),en P "Walk" 542 (.ref 292),en P "count_from" 552 (.ref 303),en P "MOST_PLACES" 556 (.int 14 555),en P "MOST_TIES" 558 (.int 30 557),en P "Web" 717 (.ref 430),en P "has_bit" 725 (.ref 441),en P "is_place" 733 (.ref 448),en P "are_two_places" 742 (.ref 455),en P "numbers_of" 751 (.ref 462),en P "near_of" 763 (.ref 469),en P "MOST_MOVES_ON" 767 (.int 4 766),en P "Road" 834 (.ref 522),en P "roads_within" 842 (.ref 531),en P "_law_cell_at" 852 (.ref 538),en P "_law_box" 862 (.ref 545),en P "_law_take" 871 (.ref 552),en P "_law_names" 887 (.ref 559),en P "_law_drawn" 893 (.ref 564),en P "_law_web" 899 (.ref 569),en P "_law_gone" 905 (.ref 574),en P "_law_moves" 911 (.ref 579),en P "_law_named" 917 (.ref 584),en P "_law_texts" 925 (.ref 591),en P "_law_places_told" 931 (.ref 596),en P "_law_ties_told" 937 (.ref 601),en P "_law_told" 948 (.ref 608),en P "_law_moved" 961 (.ref 615),en P "_law_web_told" 967 (.ref 620),en P "_law_count" 978 (.ref 627),en P "_law_counted" 991 (.ref 634),en P "_law_no_numbers" 1000 (.ref 641),en P "_law_all_told" 1012 (.ref 648),en P "_law_to_the_start" 1022 (.ref 655),en P "law" 1028 (.ref 660)] 57,#[]⟩:Obj)) ::
 (nat_lit 34,(⟨(.type "code"),none,.fields #[(.str "__init__" 208),(.str "OnceError.__init__" 209),(.str "/claim/cut.py" 210),(.int 7 0),(.int 2 0),(.int 0 0),(.int 0 0),(.int 3 0),(.ref 29),(.bool true),(.int 181 0),(.ref 30),.none,(.ref 31),(.ref 32),(.ref 33),(.int 213 0),(.int 7 0),(.str "/claim/cut.py" 214)],#[]⟩:Obj)) ::
 (nat_lit 35,(⟨(.type "function"),none,.func (fnOf "__init__" "OnceError.__init__" (qj qU) (qh qU) (qb qU) .none .none .none (.str "onceroad.errors" 194) none (.ref 34) .none),#[]⟩:Obj)) ::
 (nat_lit 37,(⟨(.type "dict"),none,.dict #[en P "__module__" 203 (.str "onceroad.errors" 194),en P "__firstlineno__" 207 (.int 5 206),en P "__init__" 215 (.ref 35),en P "__static_attributes__" 216 (.ref 36),en P "__weakref__" 218 (.ref 39),en P "__doc__" 219 .none] 3,#[]⟩:Obj)) ::
 (nat_lit 38,(⟨(.type "type"),none,.cls { name:="OnceError",bases:=[(.type "ValueError")],mro:=[(.ref 38),(.type "ValueError"),(.type "Exception"),(.type "BaseException"),(.type "object")],ns:=37,qualname:="OnceError",hasDict:=true,slotNames:=[],subclasses:=[(.ref 58),(.ref 77),(.ref 96),(.ref 115),(.ref 134),(.ref 153),(.ref 172),(.ref 191)],abstract:=false,collection:=none,hasDel:=false },#[(some (.ref 22)),none,(some (.str "OnceError" 196)),(some (.str "OnceError" 204)),(some (.builtin "ValueError.__new__")),(some (.bool true))]⟩:Obj)) ::
 (nat_lit 54,(⟨(.type "code"),none,.fields #[(.str "__init__" 234),(.str "NoName.__init__" 235),(.str "/claim/cut.py" 236),(.int 11 0),(.int 2 0),(.int 0 0),(.int 0 0),(.int 3 0),(.ref 49),(.bool true),(.int 181 0),(.ref 50),.none,(.ref 51),(.ref 52),(.ref 53),(.int 239 0),(.int 11 0),(.str "/claim/cut.py" 240)],#[]⟩:Obj)) ::
 (nat_lit 55,(⟨(.type "function"),none,.func (fnOf "__init__" "NoName.__init__" (qj jy) (qh jy) (qb jy) .none .none .none (.str "onceroad.errors" 194) none (.ref 54) .none),#[]⟩:Obj)) ::
 (nat_lit 57,(⟨(.type "dict"),none,.dict #[en P "__module__" 229 (.str "onceroad.errors" 194),en P "__firstlineno__" 233 (.int 9 232),en P "__init__" 241 (.ref 55),en P "__static_attributes__" 243 (.ref 56),en P "__doc__" 244 .none] 2,#[]⟩:Obj)) ::
 (nat_lit 58,(⟨(.type "type"),none,.cls { name:="NoName",bases:=[(.ref 38)],mro:=[(.ref 58),(.ref 38),(.type "ValueError"),(.type "Exception"),(.type "BaseException"),(.type "object")],ns:=57,qualname:="NoName",hasDict:=true,slotNames:=[],subclasses:=[],abstract:=false,collection:=none,hasDel:=false },#[(some (.ref 42)),none,(some (.str "NoName" 222)),(some (.str "NoName" 230)),(some (.builtin "ValueError.__new__")),(some (.bool true))]⟩:Obj)) ::
 (nat_lit 73,(⟨(.type "code"),none,.fields #[(.str "__init__" 259),(.str "Twice.__init__" 260),(.str "/claim/cut.py" 261),(.int 16 0),(.int 2 0),(.int 0 0),(.int 0 0),(.int 3 0),(.ref 68),(.bool true),(.int 181 0),(.ref 69),.none,(.ref 70),(.ref 71),(.ref 72),(.int 264 0),(.int 16 0),(.str "/claim/cut.py" 265)],#[]⟩:Obj)) ::
 (nat_lit 74,(⟨(.type "function"),none,.func (fnOf "__init__" "Twice.__init__" (qj jJ) (qh jJ) (qb jJ) .none .none .none (.str "onceroad.errors" 194) none (.ref 73) .none),#[]⟩:Obj)) ::
 (nat_lit 76,(⟨(.type "dict"),none,.dict #[en P "__module__" 254 (.str "onceroad.errors" 194),en P "__firstlineno__" 258 (.int 14 257),en P "__init__" 266 (.ref 74),en P "__static_attributes__" 268 (.ref 75),en P "__doc__" 269 .none] 2,#[]⟩:Obj)) ::
 (nat_lit 77,(⟨(.type "type"),none,.cls { name:="Twice",bases:=[(.ref 38)],mro:=[(.ref 77),(.ref 38),(.type "ValueError"),(.type "Exception"),(.type "BaseException"),(.type "object")],ns:=76,qualname:="Twice",hasDict:=true,slotNames:=[],subclasses:=[],abstract:=false,collection:=none,hasDel:=false },#[(some (.ref 61)),none,(some (.str "Twice" 247)),(some (.str "Twice" 255)),(some (.builtin "ValueError.__new__")),(some (.bool true))]⟩:Obj)) ::
 (nat_lit 92,(⟨(.type "code"),none,.fields #[(.str "__init__" 284),(.str "NoPlace.__init__" 285),(.str "/claim/cut.py" 286),(.int 21 0),(.int 2 0),(.int 0 0),(.int 0 0),(.int 3 0),(.ref 87),(.bool true),(.int 181 0),(.ref 88),.none,(.ref 89),(.ref 90),(.ref 91),(.int 289 0),(.int 21 0),(.str "/claim/cut.py" 290)],#[]⟩:Obj)) ::
 (nat_lit 93,(⟨(.type "function"),none,.func (fnOf "__init__" "NoPlace.__init__" (qj jm) (qh jm) (qb jm) .none .none .none (.str "onceroad.errors" 194) none (.ref 92) .none),#[]⟩:Obj)) ::
 (nat_lit 95,(⟨(.type "dict"),none,.dict #[en P "__module__" 279 (.str "onceroad.errors" 194),en P "__firstlineno__" 283 (.int 19 282),en P "__init__" 291 (.ref 93),en P "__static_attributes__" 293 (.ref 94),en P "__doc__" 294 .none] 2,#[]⟩:Obj)) ::
 (nat_lit 96,(⟨(.type "type"),none,.cls { name:="NoPlace",bases:=[(.ref 38)],mro:=[(.ref 96),(.ref 38),(.type "ValueError"),(.type "Exception"),(.type "BaseException"),(.type "object")],ns:=95,qualname:="NoPlace",hasDict:=true,slotNames:=[],subclasses:=[],abstract:=false,collection:=none,hasDel:=false },#[(some (.ref 80)),none,(some (.str "NoPlace" 272)),(some (.str "NoPlace" 280)),(some (.builtin "ValueError.__new__")),(some (.bool true))]⟩:Obj)) ::
 (nat_lit 111,(⟨(.type "code"),none,.fields #[(.str "__init__" 309),(.str "NoTie.__init__" 310),(.str "/claim/cut.py" 311),(.int 26 0),(.int 2 0),(.int 0 0),(.int 0 0),(.int 3 0),(.ref 106),(.bool true),(.int 181 0),(.ref 107),.none,(.ref 108),(.ref 109),(.ref 110),(.int 314 0),(.int 26 0),(.str "/claim/cut.py" 315)],#[]⟩:Obj)) ::
 (nat_lit 112,(⟨(.type "function"),none,.func (fnOf "__init__" "NoTie.__init__" (qj jK) (qh jK) (qb jK) .none .none .none (.str "onceroad.errors" 194) none (.ref 111) .none),#[]⟩:Obj)) ::
 (nat_lit 114,(⟨(.type "dict"),none,.dict #[en P "__module__" 304 (.str "onceroad.errors" 194),en P "__firstlineno__" 308 (.int 24 307),en P "__init__" 316 (.ref 112),en P "__static_attributes__" 318 (.ref 113),en P "__doc__" 319 .none] 2,#[]⟩:Obj)) ::
 (nat_lit 115,(⟨(.type "type"),none,.cls { name:="NoTie",bases:=[(.ref 38)],mro:=[(.ref 115),(.ref 38),(.type "ValueError"),(.type "Exception"),(.type "BaseException"),(.type "object")],ns:=114,qualname:="NoTie",hasDict:=true,slotNames:=[],subclasses:=[],abstract:=false,collection:=none,hasDel:=false },#[(some (.ref 99)),none,(some (.str "NoTie" 297)),(some (.str "NoTie" 305)),(some (.builtin "ValueError.__new__")),(some (.bool true))]⟩:Obj)) ::
 (nat_lit 130,(⟨(.type "code"),none,.fields #[(.str "__init__" 334),(.str "TooMany.__init__" 335),(.str "/claim/cut.py" 336),(.int 31 0),(.int 2 0),(.int 0 0),(.int 0 0),(.int 3 0),(.ref 125),(.bool true),(.int 181 0),(.ref 126),.none,(.ref 127),(.ref 128),(.ref 129),(.int 339 0),(.int 31 0),(.str "/claim/cut.py" 340)],#[]⟩:Obj)) ::
 (nat_lit 131,(⟨(.type "function"),none,.func (fnOf "__init__" "TooMany.__init__" (qj jo) (qh jo) (qb jo) .none .none .none (.str "onceroad.errors" 194) none (.ref 130) .none),#[]⟩:Obj)) ::
 (nat_lit 133,(⟨(.type "dict"),none,.dict #[en P "__module__" 329 (.str "onceroad.errors" 194),en P "__firstlineno__" 333 (.int 29 332),en P "__init__" 341 (.ref 131),en P "__static_attributes__" 343 (.ref 132),en P "__doc__" 344 .none] 2,#[]⟩:Obj)) ::
 (nat_lit 134,(⟨(.type "type"),none,.cls { name:="TooMany",bases:=[(.ref 38)],mro:=[(.ref 134),(.ref 38),(.type "ValueError"),(.type "Exception"),(.type "BaseException"),(.type "object")],ns:=133,qualname:="TooMany",hasDict:=true,slotNames:=[],subclasses:=[],abstract:=false,collection:=none,hasDel:=false },#[(some (.ref 118)),none,(some (.str "TooMany" 322)),(some (.str "TooMany" 330)),(some (.builtin "ValueError.__new__")),(some (.bool true))]⟩:Obj)) ::
 (nat_lit 149,(⟨(.type "code"),none,.fields #[(.str "__init__" 359),(.str "NoMove.__init__" 360),(.str "/claim/cut.py" 361),(.int 36 0),(.int 2 0),(.int 0 0),(.int 0 0),(.int 3 0),(.ref 144),(.bool true),(.int 181 0),(.ref 145),.none,(.ref 146),(.ref 147),(.ref 148),(.int 364 0),(.int 36 0),(.str "/claim/cut.py" 365)],#[]⟩:Obj)) ::
 (nat_lit 150,(⟨(.type "function"),none,.func (fnOf "__init__" "NoMove.__init__" (qj jz) (qh jz) (qb jz) .none .none .none (.str "onceroad.errors" 194) none (.ref 149) .none),#[]⟩:Obj)) ::
 (nat_lit 152,(⟨(.type "dict"),none,.dict #[en P "__module__" 354 (.str "onceroad.errors" 194),en P "__firstlineno__" 358 (.int 34 357),en P "__init__" 366 (.ref 150),en P "__static_attributes__" 368 (.ref 151),en P "__doc__" 369 .none] 2,#[]⟩:Obj)) ::
 (nat_lit 153,(⟨(.type "type"),none,.cls { name:="NoMove",bases:=[(.ref 38)],mro:=[(.ref 153),(.ref 38),(.type "ValueError"),(.type "Exception"),(.type "BaseException"),(.type "object")],ns:=152,qualname:="NoMove",hasDict:=true,slotNames:=[],subclasses:=[],abstract:=false,collection:=none,hasDel:=false },#[(some (.ref 137)),none,(some (.str "NoMove" 347)),(some (.str "NoMove" 355)),(some (.builtin "ValueError.__new__")),(some (.bool true))]⟩:Obj)) ::
 (nat_lit 168,(⟨(.type "code"),none,.fields #[(.str "__init__" 384),(.str "NoBack.__init__" 385),(.str "/claim/cut.py" 386),(.int 41 0),(.int 1 0),(.int 0 0),(.int 0 0),(.int 3 0),(.ref 163),(.bool true),(.int 181 0),(.ref 164),.none,(.ref 165),(.ref 166),(.ref 167),(.int 388 0),(.int 41 0),(.str "/claim/cut.py" 389)],#[]⟩:Obj)) ::
 (nat_lit 169,(⟨(.type "function"),none,.func (fnOf "__init__" "NoBack.__init__" (qj jA) (qh jA) (qb jA) .none .none .none (.str "onceroad.errors" 194) none (.ref 168) .none),#[]⟩:Obj)) ::
 (nat_lit 171,(⟨(.type "dict"),none,.dict #[en P "__module__" 379 (.str "onceroad.errors" 194),en P "__firstlineno__" 383 (.int 39 382),en P "__init__" 390 (.ref 169),en P "__static_attributes__" 391 (.ref 170),en P "__doc__" 392 .none] 2,#[]⟩:Obj)) ::
 (nat_lit 172,(⟨(.type "type"),none,.cls { name:="NoBack",bases:=[(.ref 38)],mro:=[(.ref 172),(.ref 38),(.type "ValueError"),(.type "Exception"),(.type "BaseException"),(.type "object")],ns:=171,qualname:="NoBack",hasDict:=true,slotNames:=[],subclasses:=[],abstract:=false,collection:=none,hasDel:=false },#[(some (.ref 156)),none,(some (.str "NoBack" 372)),(some (.str "NoBack" 380)),(some (.builtin "ValueError.__new__")),(some (.bool true))]⟩:Obj)) ::
 (nat_lit 187,(⟨(.type "code"),none,.fields #[(.str "__init__" 407),(.str "NoNumbers.__init__" 408),(.str "/claim/cut.py" 409),(.int 45 0),(.int 2 0),(.int 0 0),(.int 0 0),(.int 3 0),(.ref 182),(.bool true),(.int 181 0),(.ref 183),.none,(.ref 184),(.ref 185),(.ref 186),(.int 412 0),(.int 45 0),(.str "/claim/cut.py" 413)],#[]⟩:Obj)) ::
 (nat_lit 188,(⟨(.type "function"),none,.func (fnOf "__init__" "NoNumbers.__init__" (qj qV) (qh qV) (qb qV) .none .none .none (.str "onceroad.errors" 194) none (.ref 187) .none),#[]⟩:Obj)) ::
 (nat_lit 190,(⟨(.type "dict"),none,.dict #[en P "__module__" 402 (.str "onceroad.errors" 194),en P "__firstlineno__" 406 (.int 43 405),en P "__init__" 414 (.ref 188),en P "__static_attributes__" 416 (.ref 189),en P "__doc__" 417 .none] 2,#[]⟩:Obj)) ::
 (nat_lit 191,(⟨(.type "type"),none,.cls { name:="NoNumbers",bases:=[(.ref 38)],mro:=[(.ref 191),(.ref 38),(.type "ValueError"),(.type "Exception"),(.type "BaseException"),(.type "object")],ns:=190,qualname:="NoNumbers",hasDict:=true,slotNames:=[],subclasses:=[],abstract:=false,collection:=none,hasDel:=false },#[(some (.ref 175)),none,(some (.str "NoNumbers" 395)),(some (.str "NoNumbers" 403)),(some (.builtin "ValueError.__new__")),(some (.bool true))]⟩:Obj)) ::
 (nat_lit 199,(⟨(.type "code"),none,.fields #[(.str "is_whole" 424),(.str "is_whole" 425),(.str "/claim/cut.py" 426),(.int 50 0),(.int 1 0),(.int 0 0),(.int 0 0),(.int 3 0),(.ref 194),(.bool true),(.int 181 0),(.ref 195),.none,(.ref 196),(.ref 197),(.ref 198),(.int 428 0),(.int 50 0),(.str "/claim/cut.py" 429)],#[]⟩:Obj)) ::
 (nat_lit 200,(⟨(.type "function"),none,.func (fnOf "is_whole" "is_whole" (qj zi) (qh zi) (qb zi) .none .none .none (.str "onceroad.names" 420) none (.ref 199) .none),#[]⟩:Obj)) ::
 (nat_lit 206,(⟨(.type "code"),none,.fields #[(.str "is_within" 431),(.str "is_within" 432),(.str "/claim/cut.py" 433),(.int 52 0),(.int 3 0),(.int 0 0),(.int 0 0),(.int 3 0),(.ref 201),(.bool true),(.int 181 0),(.ref 202),.none,(.ref 203),(.ref 204),(.ref 205),(.int 437 0),(.int 52 0),(.str "/claim/cut.py" 438)],#[]⟩:Obj)) ::
 (nat_lit 207,(⟨(.type "function"),none,.func (fnOf "is_within" "is_within" (qj jZ) (qh jZ) (qb jZ) .none .none .none (.str "onceroad.names" 420) none (.ref 206) .none),#[]⟩:Obj)) ::
 (nat_lit 211,(⟨(.type "code"),none,.fields #[(.str "is_name" 440),(.str "is_name" 441),(.str "/claim/cut.py" 442),(.int 54 0),(.int 1 0),(.int 0 0),(.int 0 0),(.int 3 0),(.ref 208),(.bool true),(.int 181 0),(.ref 209),.none,.none,.none,(.ref 210),(.int 443 0),(.int 54 0),(.str "/claim/cut.py" 444)],#[]⟩:Obj)) ::
 (nat_lit 212,(⟨(.type "function"),none,.func (fnOf "is_name" "is_name" (qj zk) (qh zk) (qb zk) .none .none .none (.str "onceroad.names" 420) none (.ref 211) .none),#[]⟩:Obj)) ::
 (nat_lit 225,(⟨(.type "code"),none,.fields #[(.str "__init__" 460),(.str "Walk.__init__" 461),(.str "/claim/cut.py" 462),(.int 61 0),(.int 3 0),(.int 0 0),(.int 0 0),(.int 3 0),(.ref 220),(.bool true),(.int 181 0),(.ref 221),.none,(.ref 222),(.ref 223),(.ref 224),(.int 466 0),(.int 61 0),(.str "/claim/cut.py" 467)],#[]⟩:Obj)) ::
 (nat_lit 226,(⟨(.type "function"),none,.func (fnOf "__init__" "Walk.__init__" (qj jV) (qh jV) (qb jV) .none .none .none (.str "onceroad.walks" 446) none (.ref 225) .none),#[]⟩:Obj)) ::
 (nat_lit 232,(⟨(.type "code"),none,.fields #[(.str "web" 469),(.str "Walk.web" 470),(.str "/claim/cut.py" 471),(.int 67 0),(.int 1 0),(.int 0 0),(.int 0 0),(.int 3 0),(.ref 227),(.bool true),(.int 181 0),(.ref 228),.none,(.ref 229),(.ref 230),(.ref 231),(.int 473 0),(.int 67 0),(.str "/claim/cut.py" 474)],#[]⟩:Obj)) ::
 (nat_lit 233,(⟨(.type "function"),none,.func (fnOf "web" "Walk.web" (qj zh) (qh zh) (qb zh) .none .none .none (.str "onceroad.walks" 446) none (.ref 232) .none),#[]⟩:Obj)) ::
 (nat_lit 239,(⟨(.type "code"),none,.fields #[(.str "stands_at" 476),(.str "Walk.stands_at" 477),(.str "/claim/cut.py" 478),(.int 70 0),(.int 1 0),(.int 0 0),(.int 0 0),(.int 3 0),(.ref 234),(.bool true),(.int 181 0),(.ref 235),.none,(.ref 236),(.ref 237),(.ref 238),(.int 480 0),(.int 70 0),(.str "/claim/cut.py" 481)],#[]⟩:Obj)) ::
 (nat_lit 240,(⟨(.type "function"),none,.func (fnOf "stands_at" "Walk.stands_at" (qj qX) (qh qX) (qb qX) .none .none .none (.str "onceroad.walks" 446) none (.ref 239) .none),#[]⟩:Obj)) ::
 (nat_lit 246,(⟨(.type "code"),none,.fields #[(.str "gone" 483),(.str "Walk.gone" 484),(.str "/claim/cut.py" 485),(.int 73 0),(.int 1 0),(.int 0 0),(.int 0 0),(.int 3 0),(.ref 241),(.bool true),(.int 181 0),(.ref 242),.none,(.ref 243),(.ref 244),(.ref 245),(.int 487 0),(.int 73 0),(.str "/claim/cut.py" 488)],#[]⟩:Obj)) ::
 (nat_lit 247,(⟨(.type "function"),none,.func (fnOf "gone" "Walk.gone" (qj jW) (qh jW) (qb jW) .none .none .none (.str "onceroad.walks" 446) none (.ref 246) .none),#[]⟩:Obj)) ::
 (nat_lit 260,(⟨(.type "code"),none,.fields #[(.str "hand" 497),(.str "Walk.hand" 498),(.str "/claim/cut.py" 499),(.int 79 0),(.int 1 0),(.int 0 0),(.int 0 0),(.int 3 0),(.ref 255),(.bool true),(.int 181 0),(.ref 256),.none,(.ref 257),(.ref 258),(.ref 259),(.int 501 0),(.int 79 0),(.str "/claim/cut.py" 502)],#[]⟩:Obj)) ::
 (nat_lit 261,(⟨(.type "function"),none,.func (fnOf "hand" "Walk.hand" (qj jX) (qh jX) (qb jX) .none .none .none (.str "onceroad.walks" 446) none (.ref 260) .none),#[]⟩:Obj)) ::
 (nat_lit 267,(⟨(.type "code"),none,.fields #[(.str "ended" 504),(.str "Walk.ended" 505),(.str "/claim/cut.py" 506),(.int 82 0),(.int 1 0),(.int 0 0),(.int 0 0),(.int 3 0),(.ref 262),(.bool true),(.int 181 0),(.ref 263),.none,(.ref 264),(.ref 265),(.ref 266),(.int 508 0),(.int 82 0),(.str "/claim/cut.py" 509)],#[]⟩:Obj)) ::
 (nat_lit 268,(⟨(.type "function"),none,.func (fnOf "ended" "Walk.ended" (qj jO) (qh jO) (qb jO) .none .none .none (.str "onceroad.walks" 446) none (.ref 267) .none),#[]⟩:Obj)) ::
 (nat_lit 274,(⟨(.type "code"),none,.fields #[(.str "loser" 511),(.str "Walk.loser" 512),(.str "/claim/cut.py" 513),(.int 85 0),(.int 1 0),(.int 0 0),(.int 0 0),(.int 3 0),(.ref 269),(.bool true),(.int 181 0),(.ref 270),.none,(.ref 271),(.ref 272),(.ref 273),(.int 515 0),(.int 85 0),(.str "/claim/cut.py" 516)],#[]⟩:Obj)) ::
 (nat_lit 275,(⟨(.type "function"),none,.func (fnOf "loser" "Walk.loser" (qj jP) (qh jP) (qb jP) .none .none .none (.str "onceroad.walks" 446) none (.ref 274) .none),#[]⟩:Obj)) ::
 (nat_lit 281,(⟨(.type "code"),none,.fields #[(.str "move_to" 518),(.str "Walk.move_to" 519),(.str "/claim/cut.py" 520),(.int 88 0),(.int 2 0),(.int 0 0),(.int 0 0),(.int 3 0),(.ref 276),(.bool true),(.int 181 0),(.ref 277),.none,(.ref 278),(.ref 279),(.ref 280),(.int 523 0),(.int 88 0),(.str "/claim/cut.py" 524)],#[]⟩:Obj)) ::
 (nat_lit 282,(⟨(.type "function"),none,.func (fnOf "move_to" "Walk.move_to" (qj jq) (qh jq) (qb jq) .none .none .none (.str "onceroad.walks" 446) none (.ref 281) .none),#[]⟩:Obj)) ::
 (nat_lit 288,(⟨(.type "code"),none,.fields #[(.str "back" 526),(.str "Walk.back" 527),(.str "/claim/cut.py" 528),(.int 93 0),(.int 1 0),(.int 0 0),(.int 0 0),(.int 3 0),(.ref 283),(.bool true),(.int 181 0),(.ref 284),.none,(.ref 285),(.ref 286),(.ref 287),(.int 530 0),(.int 93 0),(.str "/claim/cut.py" 531)],#[]⟩:Obj)) ::
 (nat_lit 289,(⟨(.type "function"),none,.func (fnOf "back" "Walk.back" (qj jY) (qh jY) (qb jY) .none .none .none (.str "onceroad.walks" 446) none (.ref 288) .none),#[]⟩:Obj)) ::
 (nat_lit 291,(⟨(.type "dict"),none,.dict #[en P "__module__" 455 (.str "onceroad.walks" 446),en P "__firstlineno__" 459 (.int 59 458),en P "__init__" 468 (.ref 226),en P "web" 475 (.ref 233),en P "stands_at" 482 (.ref 240),en P "gone" 489 (.ref 247),en P "moves" 496 (.ref 254),en P "hand" 503 (.ref 261),en P "ended" 510 (.ref 268),en P "loser" 517 (.ref 275),en P "move_to" 525 (.ref 282),en P "back" 532 (.ref 289),en P "__static_attributes__" 535 (.ref 290),en P "__dict__" 537 (.ref 293),en P "__weakref__" 539 (.ref 294),en P "__doc__" 540 .none] 4,#[]⟩:Obj)) ::
 (nat_lit 292,(⟨(.type "type"),none,.cls { name:="Walk",bases:=[(.type "object")],mro:=[(.ref 292),(.type "object")],ns:=291,qualname:="Walk",hasDict:=true,slotNames:=[],subclasses:=[(.ref 522)],abstract:=false,collection:=none,hasDel:=false },#[none,none,(some (.str "Walk" 448)),(some (.str "Walk" 456)),(some (.builtin "object.__new__")),(some (.bool true))]⟩:Obj)) ::
 (nat_lit 302,(⟨(.type "code"),none,.fields #[(.str "count_from" 543),(.str "count_from" 544),(.str "/claim/cut.py" 545),(.int 97 0),(.int 2 0),(.int 0 0),(.int 0 0),(.int 3 0),(.ref 297),(.bool true),(.int 181 0),(.ref 298),.none,(.ref 299),(.ref 300),(.ref 301),(.int 550 0),(.int 97 0),(.str "/claim/cut.py" 551)],#[]⟩:Obj)) ::
 (nat_lit 303,(⟨(.type "function"),none,.func (fnOf "count_from" "count_from" (qj jQ) (qh jQ) (qb jQ) .none .none .none (.str "onceroad.walks" 446) none (.ref 302) .none),#[]⟩:Obj)) ::
 (nat_lit 316,(⟨(.type "code"),none,.fields #[(.str "__init__" 571),(.str "Web.__init__" 572),(.str "/claim/cut.py" 573),(.int 110 0),(.int 3 0),(.int 0 0),(.int 0 0),(.int 3 0),(.ref 311),(.bool true),(.int 181 0),(.ref 312),.none,(.ref 313),(.ref 314),(.ref 315),(.int 577 0),(.int 110 0),(.str "/claim/cut.py" 578)],#[]⟩:Obj)) ::
 (nat_lit 317,(⟨(.type "function"),none,.func (fnOf "__init__" "Web.__init__" (qj zd) (qh zd) (qb zd) .none .none .none (.str "onceroad.webs" 553) none (.ref 316) .none),#[]⟩:Obj)) ::
 (nat_lit 323,(⟨(.type "code"),none,.fields #[(.str "places" 580),(.str "Web.places" 581),(.str "/claim/cut.py" 582),(.int 115 0),(.int 1 0),(.int 0 0),(.int 0 0),(.int 3 0),(.ref 318),(.bool true),(.int 181 0),(.ref 319),.none,(.ref 320),(.ref 321),(.ref 322),(.int 584 0),(.int 115 0),(.str "/claim/cut.py" 585)],#[]⟩:Obj)) ::
 (nat_lit 324,(⟨(.type "function"),none,.func (fnOf "places" "Web.places" (qj jM) (qh jM) (qb jM) .none .none .none (.str "onceroad.webs" 553) none (.ref 323) .none),#[]⟩:Obj)) ::
 (nat_lit 330,(⟨(.type "code"),none,.fields #[(.str "ties" 587),(.str "Web.ties" 588),(.str "/claim/cut.py" 589),(.int 118 0),(.int 1 0),(.int 0 0),(.int 0 0),(.int 3 0),(.ref 325),(.bool true),(.int 181 0),(.ref 326),.none,(.ref 327),(.ref 328),(.ref 329),(.int 594 0),(.int 118 0),(.str "/claim/cut.py" 595)],#[]⟩:Obj)) ::
 (nat_lit 331,(⟨(.type "function"),none,.func (fnOf "ties" "Web.ties" (qj ze) (qh ze) (qb ze) .none .none .none (.str "onceroad.webs" 553) none (.ref 330) .none),#[]⟩:Obj)) ::
 (nat_lit 344,(⟨(.type "code"),none,.fields #[(.str "has_place" 604),(.str "Web.has_place" 605),(.str "/claim/cut.py" 606),(.int 129 0),(.int 2 0),(.int 0 0),(.int 0 0),(.int 3 0),(.ref 339),(.bool true),(.int 181 0),(.ref 340),.none,(.ref 341),(.ref 342),(.ref 343),(.int 609 0),(.int 129 0),(.str "/claim/cut.py" 610)],#[]⟩:Obj)) ::
 (nat_lit 345,(⟨(.type "function"),none,.func (fnOf "has_place" "Web.has_place" (qj jh) (qh jh) (qb jh) .none .none .none (.str "onceroad.webs" 553) none (.ref 344) .none),#[]⟩:Obj)) ::
 (nat_lit 358,(⟨(.type "code"),none,.fields #[(.str "number_of" 620),(.str "Web.number_of" 621),(.str "/claim/cut.py" 622),(.int 135 0),(.int 2 0),(.int 0 0),(.int 0 0),(.int 3 0),(.ref 353),(.bool true),(.int 181 0),(.ref 354),.none,(.ref 355),(.ref 356),(.ref 357),(.int 625 0),(.int 135 0),(.str "/claim/cut.py" 626)],#[]⟩:Obj)) ::
 (nat_lit 359,(⟨(.type "function"),none,.func (fnOf "number_of" "Web.number_of" (qj ji) (qh ji) (qb ji) .none .none .none (.str "onceroad.webs" 553) none (.ref 358) .none),#[]⟩:Obj)) ::
 (nat_lit 365,(⟨(.type "code"),none,.fields #[(.str "beside" 628),(.str "Web.beside" 629),(.str "/claim/cut.py" 630),(.int 140 0),(.int 2 0),(.int 0 0),(.int 0 0),(.int 3 0),(.ref 360),(.bool true),(.int 181 0),(.ref 361),.none,(.ref 362),(.ref 363),(.ref 364),(.int 633 0),(.int 140 0),(.str "/claim/cut.py" 634)],#[]⟩:Obj)) ::
 (nat_lit 366,(⟨(.type "function"),none,.func (fnOf "beside" "Web.beside" (qj jN) (qh jN) (qb jN) .none .none .none (.str "onceroad.webs" 553) none (.ref 365) .none),#[]⟩:Obj)) ::
 (nat_lit 372,(⟨(.type "code"),none,.fields #[(.str "bits_beside" 636),(.str "Web.bits_beside" 637),(.str "/claim/cut.py" 638),(.int 143 0),(.int 2 0),(.int 0 0),(.int 0 0),(.int 3 0),(.ref 367),(.bool true),(.int 181 0),(.ref 368),.none,(.ref 369),(.ref 370),(.ref 371),(.int 641 0),(.int 143 0),(.str "/claim/cut.py" 642)],#[]⟩:Obj)) ::
 (nat_lit 373,(⟨(.type "function"),none,.func (fnOf "bits_beside" "Web.bits_beside" (qj qP) (qh qP) (qb qP) .none .none .none (.str "onceroad.webs" 553) none (.ref 372) .none),#[]⟩:Obj)) ::
 (nat_lit 393,(⟨(.type "code"),none,.fields #[(.str "told" 660),(.str "Web.told" 661),(.str "/claim/cut.py" 662),(.int 152 0),(.int 1 0),(.int 0 0),(.int 0 0),(.int 3 0),(.ref 388),(.bool true),(.int 181 0),(.ref 389),.none,(.ref 390),(.ref 391),(.ref 392),(.int 664 0),(.int 152 0),(.str "/claim/cut.py" 665)],#[]⟩:Obj)) ::
 (nat_lit 394,(⟨(.type "function"),none,.func (fnOf "told" "Web.told" (qj zf) (qh zf) (qb zf) .none .none .none (.str "onceroad.webs" 553) none (.ref 393) .none),#[]⟩:Obj)) ::
 (nat_lit 398,(⟨(.type "code"),none,.fields #[(.str "names_in" 667),(.str "Web.names_in" 668),(.str "/claim/cut.py" 669),(.int 155 0),(.int 2 0),(.int 0 0),(.int 0 0),(.int 3 0),(.ref 395),(.bool true),(.int 181 0),(.ref 396),.none,.none,.none,(.ref 397),(.int 670 0),(.int 155 0),(.str "/claim/cut.py" 671)],#[]⟩:Obj)) ::
 (nat_lit 399,(⟨(.type "function"),none,.func (fnOf "names_in" "Web.names_in" (qj jd) (qh jd) (qb jd) .none .none .none (.str "onceroad.webs" 553) none (.ref 398) .none),#[]⟩:Obj)) ::
 (nat_lit 429,(⟨(.type "dict"),none,.dict #[en P "__module__" 566 (.str "onceroad.webs" 553),en P "__firstlineno__" 570 (.int 108 569),en P "__init__" 579 (.ref 317),en P "places" 586 (.ref 324),en P "ties" 596 (.ref 331),en P "how_many" 603 (.ref 338),en P "has_place" 611 (.ref 345),en P "has_tie" 619 (.ref 352),en P "number_of" 627 (.ref 359),en P "beside" 635 (.ref 366),en P "bits_beside" 643 (.ref 373),en P "tied" 652 (.ref 380),en P "pieces" 659 (.ref 387),en P "told" 666 (.ref 394),en P "names_in" 672 (.ref 399),en P "without" 680 (.ref 406),en P "with_place" 688 (.ref 413),en P "with_tie" 697 (.ref 420),en P "without_tie" 706 (.ref 427),en P "__static_attributes__" 710 (.ref 428),en P "__dict__" 712 (.ref 431),en P "__weakref__" 714 (.ref 432),en P "__doc__" 715 .none] 4,#[]⟩:Obj)) ::
 (nat_lit 430,(⟨(.type "type"),none,.cls { name:="Web",bases:=[(.type "object")],mro:=[(.ref 430),(.type "object")],ns:=429,qualname:="Web",hasDict:=true,slotNames:=[],subclasses:=[],abstract:=false,collection:=none,hasDel:=false },#[none,none,(some (.str "Web" 559)),(some (.str "Web" 567)),(some (.builtin "object.__new__")),(some (.bool true))]⟩:Obj)) ::
 (nat_lit 440,(⟨(.type "code"),none,.fields #[(.str "has_bit" 718),(.str "has_bit" 719),(.str "/claim/cut.py" 720),(.int 169 0),(.int 2 0),(.int 0 0),(.int 0 0),(.int 3 0),(.ref 435),(.bool true),(.int 181 0),(.ref 436),.none,(.ref 437),(.ref 438),(.ref 439),(.int 723 0),(.int 169 0),(.str "/claim/cut.py" 724)],#[]⟩:Obj)) ::
 (nat_lit 441,(⟨(.type "function"),none,.func (fnOf "has_bit" "has_bit" (qj zD) (qh zD) (qb zD) .none .none .none (.str "onceroad.webs" 553) none (.ref 440) .none),#[]⟩:Obj)) ::
 (nat_lit 447,(⟨(.type "code"),none,.fields #[(.str "is_place" 726),(.str "is_place" 727),(.str "/claim/cut.py" 728),(.int 171 0),(.int 2 0),(.int 0 0),(.int 0 0),(.int 3 0),(.ref 442),(.bool true),(.int 181 0),(.ref 443),.none,(.ref 444),(.ref 445),(.ref 446),(.int 731 0),(.int 171 0),(.str "/claim/cut.py" 732)],#[]⟩:Obj)) ::
 (nat_lit 448,(⟨(.type "function"),none,.func (fnOf "is_place" "is_place" (qj zc) (qh zc) (qb zc) .none .none .none (.str "onceroad.webs" 553) none (.ref 447) .none),#[]⟩:Obj)) ::
 (nat_lit 454,(⟨(.type "code"),none,.fields #[(.str "are_two_places" 734),(.str "are_two_places" 735),(.str "/claim/cut.py" 736),(.int 173 0),(.int 2 0),(.int 0 0),(.int 0 0),(.int 3 0),(.ref 449),(.bool true),(.int 181 0),(.ref 450),.none,(.ref 451),(.ref 452),(.ref 453),(.int 740 0),(.int 173 0),(.str "/claim/cut.py" 741)],#[]⟩:Obj)) ::
 (nat_lit 455,(⟨(.type "function"),none,.func (fnOf "are_two_places" "are_two_places" (qj qW) (qh qW) (qb qW) .none .none .none (.str "onceroad.webs" 553) none (.ref 454) .none),#[]⟩:Obj)) ::
 (nat_lit 461,(⟨(.type "code"),none,.fields #[(.str "numbers_of" 743),(.str "numbers_of" 744),(.str "/claim/cut.py" 745),(.int 178 0),(.int 1 0),(.int 0 0),(.int 0 0),(.int 3 0),(.ref 456),(.bool true),(.int 181 0),(.ref 457),.none,(.ref 458),(.ref 459),(.ref 460),(.int 749 0),(.int 178 0),(.str "/claim/cut.py" 750)],#[]⟩:Obj)) ::
 (nat_lit 462,(⟨(.type "function"),none,.func (fnOf "numbers_of" "numbers_of" (qj jL) (qh jL) (qb jL) .none .none .none (.str "onceroad.webs" 553) none (.ref 461) .none),#[]⟩:Obj)) ::
 (nat_lit 468,(⟨(.type "code"),none,.fields #[(.str "near_of" 752),(.str "near_of" 753),(.str "/claim/cut.py" 754),(.int 191 0),(.int 2 0),(.int 0 0),(.int 0 0),(.int 3 0),(.ref 463),(.bool true),(.int 181 0),(.ref 464),.none,(.ref 465),(.ref 466),(.ref 467),(.int 761 0),(.int 191 0),(.str "/claim/cut.py" 762)],#[]⟩:Obj)) ::
 (nat_lit 469,(⟨(.type "function"),none,.func (fnOf "near_of" "near_of" (qj zE) (qh zE) (qb zE) .none .none .none (.str "onceroad.webs" 553) none (.ref 468) .none),#[]⟩:Obj)) ::
 (nat_lit 480,(⟨(.type "code"),none,.fields #[(.str "ties_gone" 780),(.str "Road.ties_gone" 781),(.str "/claim/cut.py" 782),(.int 211 0),(.int 1 0),(.int 0 0),(.int 0 0),(.int 3 0),(.ref 477),(.bool true),(.int 181 0),(.ref 478),.none,.none,.none,(.ref 479),(.int 783 0),(.int 211 0),(.str "/claim/cut.py" 784)],#[]⟩:Obj)) ::
 (nat_lit 481,(⟨(.type "function"),none,.func (fnOf "ties_gone" "Road.ties_gone" (qj qM) (qh qM) (qb qM) .none .none .none (.str "onceroad.roads" 764) none (.ref 480) .none),#[]⟩:Obj)) ::
 (nat_lit 485,(⟨(.type "code"),none,.fields #[(.str "ties_left" 786),(.str "Road.ties_left" 787),(.str "/claim/cut.py" 788),(.int 214 0),(.int 1 0),(.int 0 0),(.int 0 0),(.int 3 0),(.ref 482),(.bool true),(.int 181 0),(.ref 483),.none,.none,.none,(.ref 484),(.int 789 0),(.int 214 0),(.str "/claim/cut.py" 790)],#[]⟩:Obj)) ::
 (nat_lit 486,(⟨(.type "function"),none,.func (fnOf "ties_left" "Road.ties_left" (qj qN) (qh qN) (qb qN) .none .none .none (.str "onceroad.roads" 764) none (.ref 485) .none),#[]⟩:Obj)) ::
 (nat_lit 490,(⟨(.type "code"),none,.fields #[(.str "moves" 792),(.str "Road.moves" 793),(.str "/claim/cut.py" 794),(.int 218 0),(.int 1 0),(.int 0 0),(.int 0 0),(.int 3 0),(.ref 487),(.bool true),(.int 181 0),(.ref 488),.none,.none,.none,(.ref 489),(.int 795 0),(.int 218 0),(.str "/claim/cut.py" 796)],#[]⟩:Obj)) ::
 (nat_lit 491,(⟨(.type "function"),none,.func (fnOf "moves" "Road.moves" (qj jw) (qh jw) (qb jw) .none .none .none (.str "onceroad.roads" 764) none (.ref 490) .none),#[]⟩:Obj)) ::
 (nat_lit 497,(⟨(.type "code"),none,.fields #[(.str "tie_between" 798),(.str "Road.tie_between" 799),(.str "/claim/cut.py" 800),(.int 223 0),(.int 3 0),(.int 0 0),(.int 0 0),(.int 3 0),(.ref 492),(.bool true),(.int 181 0),(.ref 493),.none,(.ref 494),(.ref 495),(.ref 496),(.int 805 0),(.int 223 0),(.str "/claim/cut.py" 806)],#[]⟩:Obj)) ::
 (nat_lit 498,(⟨(.type "function"),none,.func (fnOf "tie_between" "Road.tie_between" (qj qK) (qh qK) (qb qK) .none .none .none (.str "onceroad.roads" 764) none (.ref 497) .none),#[]⟩:Obj)) ::
 (nat_lit 504,(⟨(.type "code"),none,.fields #[(.str "go" 808),(.str "Road.go" 809),(.str "/claim/cut.py" 810),(.int 227 0),(.int 2 0),(.int 0 0),(.int 0 0),(.int 3 0),(.ref 499),(.bool true),(.int 181 0),(.ref 500),.none,(.ref 501),(.ref 502),(.ref 503),(.int 813 0),(.int 227 0),(.str "/claim/cut.py" 814)],#[]⟩:Obj)) ::
 (nat_lit 505,(⟨(.type "function"),none,.func (fnOf "go" "Road.go" (qj zG) (qh zG) (qb zG) .none .none .none (.str "onceroad.roads" 764) none (.ref 504) .none),#[]⟩:Obj)) ::
 (nat_lit 511,(⟨(.type "code"),none,.fields #[(.str "web_left" 816),(.str "Road.web_left" 817),(.str "/claim/cut.py" 818),(.int 230 0),(.int 1 0),(.int 0 0),(.int 0 0),(.int 3 0),(.ref 506),(.bool true),(.int 181 0),(.ref 507),.none,(.ref 508),(.ref 509),(.ref 510),(.int 820 0),(.int 230 0),(.str "/claim/cut.py" 821)],#[]⟩:Obj)) ::
 (nat_lit 512,(⟨(.type "function"),none,.func (fnOf "web_left" "Road.web_left" (qj jj) (qh jj) (qb jj) .none .none .none (.str "onceroad.roads" 764) none (.ref 511) .none),#[]⟩:Obj)) ::
 (nat_lit 518,(⟨(.type "code"),none,.fields #[(.str "twin" 823),(.str "Road.twin" 824),(.str "/claim/cut.py" 825),(.int 233 0),(.int 1 0),(.int 0 0),(.int 0 0),(.int 3 0),(.ref 513),(.bool true),(.int 181 0),(.ref 514),.none,(.ref 515),(.ref 516),(.ref 517),(.int 828 0),(.int 233 0),(.str "/claim/cut.py" 829)],#[]⟩:Obj)) ::
 (nat_lit 519,(⟨(.type "function"),none,.func (fnOf "twin" "Road.twin" (qj j1) (qh j1) (qb j1) .none .none .none (.str "onceroad.roads" 764) none (.ref 518) .none),#[]⟩:Obj)) ::
 (nat_lit 521,(⟨(.type "dict"),none,.dict #[en P "__module__" 775 (.str "onceroad.roads" 764),en P "__firstlineno__" 779 (.int 209 778),en P "ties_gone" 785 (.ref 481),en P "ties_left" 791 (.ref 486),en P "moves" 797 (.ref 491),en P "tie_between" 807 (.ref 498),en P "go" 815 (.ref 505),en P "web_left" 822 (.ref 512),en P "twin" 830 (.ref 519),en P "__static_attributes__" 831 (.ref 520),en P "__doc__" 832 .none] 2,#[]⟩:Obj)) ::
 (nat_lit 522,(⟨(.type "type"),none,.cls { name:="Road",bases:=[(.ref 292)],mro:=[(.ref 522),(.ref 292),(.type "object")],ns:=521,qualname:="Road",hasDict:=true,slotNames:=[],subclasses:=[],abstract:=false,collection:=none,hasDel:=false },#[(some (.ref 470)),none,(some (.str "Road" 768)),(some (.str "Road" 776)),(some (.builtin "object.__new__")),(some (.bool true))]⟩:Obj)) ::
 (nat_lit 530,(⟨(.type "code"),none,.fields #[(.str "roads_within" 835),(.str "roads_within" 836),(.str "/claim/cut.py" 837),(.int 237 0),(.int 2 0),(.int 0 0),(.int 0 0),(.int 3 0),(.ref 525),(.bool true),(.int 181 0),(.ref 526),.none,(.ref 527),(.ref 528),(.ref 529),(.int 840 0),(.int 237 0),(.str "/claim/cut.py" 841)],#[]⟩:Obj)) ::
 (nat_lit 531,(⟨(.type "function"),none,.func (fnOf "roads_within" "roads_within" (qj je) (qh je) (qb je) .none .none .none (.str "onceroad.roads" 764) none (.ref 530) .none),#[]⟩:Obj)) ::
 (nat_lit 537,(⟨(.type "code"),none,.fields #[(.str "_law_cell_at" 845),(.str "_law_cell_at" 846),(.str "/claim/cut.py" 847),(.int 242 0),(.int 2 0),(.int 0 0),(.int 0 0),(.int 3 0),(.ref 532),(.bool true),(.int 181 0),(.ref 533),.none,(.ref 534),(.ref 535),(.ref 536),(.int 850 0),(.int 242 0),(.str "/claim/cut.py" 851)],#[]⟩:Obj)) ::
 (nat_lit 538,(⟨(.type "function"),none,.func (fnOf "_law_cell_at" "_law_cell_at" (qj j0) (qh j0) (qb j0) .none .none .none (.str "law_onceroad_k68_twins_and_roads_ahead" 843) none (.ref 537) .none),#[]⟩:Obj)) ::
 (nat_lit 544,(⟨(.type "code"),none,.fields #[(.str "_law_box" 853),(.str "_law_box" 854),(.str "/claim/cut.py" 855),(.int 246 0),(.int 1 0),(.int 0 0),(.int 0 0),(.int 3 0),(.ref 539),(.bool true),(.int 181 0),(.ref 540),.none,(.ref 541),(.ref 542),(.ref 543),(.int 860 0),(.int 246 0),(.str "/claim/cut.py" 861)],#[]⟩:Obj)) ::
 (nat_lit 545,(⟨(.type "function"),none,.func (fnOf "_law_box" "_law_box" (qj qaR) (qh qaR) (qb qaR) .none .none .none (.str "law_onceroad_k68_twins_and_roads_ahead" 843) none (.ref 544) .none),#[]⟩:Obj)) ::
 (nat_lit 551,(⟨(.type "code"),none,.fields #[(.str "_law_take" 863),(.str "_law_take" 864),(.str "/claim/cut.py" 865),(.int 255 0),(.int 2 0),(.int 0 0),(.int 0 0),(.int 3 0),(.ref 546),(.bool true),(.int 181 0),(.ref 547),.none,(.ref 548),(.ref 549),(.ref 550),(.int 869 0),(.int 255 0),(.str "/claim/cut.py" 870)],#[]⟩:Obj)) ::
 (nat_lit 552,(⟨(.type "function"),none,.func (fnOf "_law_take" "_law_take" (qj qam) (qh qam) (qb qam) .none .none .none (.str "law_onceroad_k68_twins_and_roads_ahead" 843) none (.ref 551) .none),#[]⟩:Obj)) ::
 (nat_lit 558,(⟨(.type "code"),none,.fields #[(.str "_law_names" 872),(.str "_law_names" 873),(.str "/claim/cut.py" 874),(.int 259 0),(.int 2 0),(.int 0 0),(.int 0 0),(.int 3 0),(.ref 553),(.bool true),(.int 181 0),(.ref 554),.none,(.ref 555),(.ref 556),(.ref 557),(.int 885 0),(.int 259 0),(.str "/claim/cut.py" 886)],#[]⟩:Obj)) ::
 (nat_lit 559,(⟨(.type "function"),none,.func (fnOf "_law_names" "_law_names" (qj qR) (qh qR) (qb qR) .none .none .none (.str "law_onceroad_k68_twins_and_roads_ahead" 843) none (.ref 558) .none),#[]⟩:Obj)) ::
 (nat_lit 563,(⟨(.type "code"),none,.fields #[(.str "_law_drawn" 888),(.str "_law_drawn" 889),(.str "/claim/cut.py" 890),(.int 277 0),(.int 2 0),(.int 0 0),(.int 0 0),(.int 3 0),(.ref 560),(.bool true),(.int 181 0),(.ref 561),.none,.none,.none,(.ref 562),(.int 891 0),(.int 277 0),(.str "/claim/cut.py" 892)],#[]⟩:Obj)) ::
 (nat_lit 564,(⟨(.type "function"),none,.func (fnOf "_law_drawn" "_law_drawn" (qj zn) (qh zn) (qb zn) .none .none .none (.str "law_onceroad_k68_twins_and_roads_ahead" 843) none (.ref 563) .none),#[]⟩:Obj)) ::
 (nat_lit 568,(⟨(.type "code"),none,.fields #[(.str "_law_web" 894),(.str "_law_web" 895),(.str "/claim/cut.py" 896),(.int 292 0),(.int 2 0),(.int 0 0),(.int 0 0),(.int 3 0),(.ref 565),(.bool true),(.int 181 0),(.ref 566),.none,.none,.none,(.ref 567),(.int 897 0),(.int 292 0),(.str "/claim/cut.py" 898)],#[]⟩:Obj)) ::
 (nat_lit 569,(⟨(.type "function"),none,.func (fnOf "_law_web" "_law_web" (qj qai) (qh qai) (qb qai) .none .none .none (.str "law_onceroad_k68_twins_and_roads_ahead" 843) none (.ref 568) .none),#[]⟩:Obj)) ::
 (nat_lit 573,(⟨(.type "code"),none,.fields #[(.str "_law_gone" 900),(.str "_law_gone" 901),(.str "/claim/cut.py" 902),(.int 298 0),(.int 1 0),(.int 0 0),(.int 0 0),(.int 3 0),(.ref 570),(.bool true),(.int 181 0),(.ref 571),.none,.none,.none,(.ref 572),(.int 903 0),(.int 298 0),(.str "/claim/cut.py" 904)],#[]⟩:Obj)) ::
 (nat_lit 574,(⟨(.type "function"),none,.func (fnOf "_law_gone" "_law_gone" (qj zX) (qh zX) (qb zX) .none .none .none (.str "law_onceroad_k68_twins_and_roads_ahead" 843) none (.ref 573) .none),#[]⟩:Obj)) ::
 (nat_lit 578,(⟨(.type "code"),none,.fields #[(.str "_law_moves" 906),(.str "_law_moves" 907),(.str "/claim/cut.py" 908),(.int 300 0),(.int 2 0),(.int 0 0),(.int 0 0),(.int 3 0),(.ref 575),(.bool true),(.int 181 0),(.ref 576),.none,.none,.none,(.ref 577),(.int 909 0),(.int 300 0),(.str "/claim/cut.py" 910)],#[]⟩:Obj)) ::
 (nat_lit 579,(⟨(.type "function"),none,.func (fnOf "_law_moves" "_law_moves" (qj zo) (qh zo) (qb zo) .none .none .none (.str "law_onceroad_k68_twins_and_roads_ahead" 843) none (.ref 578) .none),#[]⟩:Obj)) ::
 (nat_lit 583,(⟨(.type "code"),none,.fields #[(.str "_law_named" 912),(.str "_law_named" 913),(.str "/claim/cut.py" 914),(.int 305 0),(.int 2 0),(.int 0 0),(.int 0 0),(.int 3 0),(.ref 580),(.bool true),(.int 181 0),(.ref 581),.none,.none,.none,(.ref 582),(.int 915 0),(.int 305 0),(.str "/claim/cut.py" 916)],#[]⟩:Obj)) ::
 (nat_lit 584,(⟨(.type "function"),none,.func (fnOf "_law_named" "_law_named" (qj zp) (qh zp) (qb zp) .none .none .none (.str "law_onceroad_k68_twins_and_roads_ahead" 843) none (.ref 583) .none),#[]⟩:Obj)) ::
 (nat_lit 590,(⟨(.type "code"),none,.fields #[(.str "_law_texts" 918),(.str "_law_texts" 919),(.str "/claim/cut.py" 920),(.int 307 0),(.int 2 0),(.int 0 0),(.int 0 0),(.int 3 0),(.ref 585),(.bool true),(.int 181 0),(.ref 586),.none,(.ref 587),(.ref 588),(.ref 589),(.int 923 0),(.int 307 0),(.str "/claim/cut.py" 924)],#[]⟩:Obj)) ::
 (nat_lit 591,(⟨(.type "function"),none,.func (fnOf "_law_texts" "_law_texts" (qj zH) (qh zH) (qb zH) .none .none .none (.str "law_onceroad_k68_twins_and_roads_ahead" 843) none (.ref 590) .none),#[]⟩:Obj)) ::
 (nat_lit 595,(⟨(.type "code"),none,.fields #[(.str "_law_places_told" 926),(.str "_law_places_told" 927),(.str "/claim/cut.py" 928),(.int 312 0),(.int 4 0),(.int 0 0),(.int 0 0),(.int 3 0),(.ref 592),(.bool true),(.int 181 0),(.ref 593),.none,.none,.none,(.ref 594),(.int 929 0),(.int 312 0),(.str "/claim/cut.py" 930)],#[]⟩:Obj)) ::
 (nat_lit 596,(⟨(.type "function"),none,.func (fnOf "_law_places_told" "_law_places_told" (qj qJ) (qh qJ) (qb qJ) .none .none .none (.str "law_onceroad_k68_twins_and_roads_ahead" 843) none (.ref 595) .none),#[]⟩:Obj)) ::
 (nat_lit 600,(⟨(.type "code"),none,.fields #[(.str "_law_ties_told" 932),(.str "_law_ties_told" 933),(.str "/claim/cut.py" 934),(.int 324 0),(.int 4 0),(.int 0 0),(.int 0 0),(.int 3 0),(.ref 597),(.bool true),(.int 181 0),(.ref 598),.none,.none,.none,(.ref 599),(.int 935 0),(.int 324 0),(.str "/claim/cut.py" 936)],#[]⟩:Obj)) ::
 (nat_lit 601,(⟨(.type "function"),none,.func (fnOf "_law_ties_told" "_law_ties_told" (qj jk) (qh jk) (qb jk) .none .none .none (.str "law_onceroad_k68_twins_and_roads_ahead" 843) none (.ref 600) .none),#[]⟩:Obj)) ::
 (nat_lit 607,(⟨(.type "code"),none,.fields #[(.str "_law_told" 938),(.str "_law_told" 939),(.str "/claim/cut.py" 940),(.int 332 0),(.int 5 0),(.int 0 0),(.int 0 0),(.int 3 0),(.ref 602),(.bool true),(.int 181 0),(.ref 603),.none,(.ref 604),(.ref 605),(.ref 606),(.int 946 0),(.int 332 0),(.str "/claim/cut.py" 947)],#[]⟩:Obj)) ::
 (nat_lit 608,(⟨(.type "function"),none,.func (fnOf "_law_told" "_law_told" (qj qan) (qh qan) (qb qan) .none .none .none (.str "law_onceroad_k68_twins_and_roads_ahead" 843) none (.ref 607) .none),#[]⟩:Obj)) ::
 (nat_lit 614,(⟨(.type "code"),none,.fields #[(.str "_law_moved" 949),(.str "_law_moved" 950),(.str "/claim/cut.py" 951),(.int 336 0),(.int 5 0),(.int 0 0),(.int 0 0),(.int 3 0),(.ref 609),(.bool true),(.int 181 0),(.ref 610),.none,(.ref 611),(.ref 612),(.ref 613),(.int 959 0),(.int 336 0),(.str "/claim/cut.py" 960)],#[]⟩:Obj)) ::
 (nat_lit 615,(⟨(.type "function"),none,.func (fnOf "_law_moved" "_law_moved" (qj zJ) (qh zJ) (qb zJ) .none .none .none (.str "law_onceroad_k68_twins_and_roads_ahead" 843) none (.ref 614) .none),#[]⟩:Obj)) ::
 (nat_lit 619,(⟨(.type "code"),none,.fields #[(.str "_law_web_told" 962),(.str "_law_web_told" 963),(.str "/claim/cut.py" 964),(.int 345 0),(.int 3 0),(.int 0 0),(.int 0 0),(.int 3 0),(.ref 616),(.bool true),(.int 181 0),(.ref 617),.none,.none,.none,(.ref 618),(.int 965 0),(.int 345 0),(.str "/claim/cut.py" 966)],#[]⟩:Obj)) ::
 (nat_lit 620,(⟨(.type "function"),none,.func (fnOf "_law_web_told" "_law_web_told" (qj jx) (qh jx) (qb jx) .none .none .none (.str "law_onceroad_k68_twins_and_roads_ahead" 843) none (.ref 619) .none),#[]⟩:Obj)) ::
 (nat_lit 626,(⟨(.type "code"),none,.fields #[(.str "_law_count" 968),(.str "_law_count" 969),(.str "/claim/cut.py" 970),(.int 348 0),(.int 3 0),(.int 0 0),(.int 0 0),(.int 3 0),(.ref 621),(.bool true),(.int 181 0),(.ref 622),.none,(.ref 623),(.ref 624),(.ref 625),(.int 976 0),(.int 348 0),(.str "/claim/cut.py" 977)],#[]⟩:Obj)) ::
 (nat_lit 627,(⟨(.type "function"),none,.func (fnOf "_law_count" "_law_count" (qj zI) (qh zI) (qb zI) .none .none .none (.str "law_onceroad_k68_twins_and_roads_ahead" 843) none (.ref 626) .none),#[]⟩:Obj)) ::
 (nat_lit 633,(⟨(.type "code"),none,.fields #[(.str "_law_counted" 979),(.str "_law_counted" 980),(.str "/claim/cut.py" 981),(.int 355 0),(.int 4 0),(.int 0 0),(.int 0 0),(.int 3 0),(.ref 628),(.bool true),(.int 181 0),(.ref 629),.none,(.ref 630),(.ref 631),(.ref 632),(.int 989 0),(.int 355 0),(.str "/claim/cut.py" 990)],#[]⟩:Obj)) ::
 (nat_lit 634,(⟨(.type "function"),none,.func (fnOf "_law_counted" "_law_counted" (qj j2) (qh j2) (qb j2) .none .none .none (.str "law_onceroad_k68_twins_and_roads_ahead" 843) none (.ref 633) .none),#[]⟩:Obj)) ::
 (nat_lit 640,(⟨(.type "code"),none,.fields #[(.str "_law_no_numbers" 992),(.str "_law_no_numbers" 993),(.str "/claim/cut.py" 994),(.int 362 0),(.int 2 0),(.int 0 0),(.int 0 0),(.int 3 0),(.ref 635),(.bool true),(.int 181 0),(.ref 636),.none,(.ref 637),(.ref 638),(.ref 639),(.int 998 0),(.int 362 0),(.str "/claim/cut.py" 999)],#[]⟩:Obj)) ::
 (nat_lit 641,(⟨(.type "function"),none,.func (fnOf "_law_no_numbers" "_law_no_numbers" (qj jr) (qh jr) (qb jr) .none .none .none (.str "law_onceroad_k68_twins_and_roads_ahead" 843) none (.ref 640) .none),#[]⟩:Obj)) ::
 (nat_lit 647,(⟨(.type "code"),none,.fields #[(.str "_law_all_told" 1001),(.str "_law_all_told" 1002),(.str "/claim/cut.py" 1003),(.int 370 0),(.int 4 0),(.int 0 0),(.int 0 0),(.int 3 0),(.ref 642),(.bool true),(.int 181 0),(.ref 643),.none,(.ref 644),(.ref 645),(.ref 646),(.int 1010 0),(.int 370 0),(.str "/claim/cut.py" 1011)],#[]⟩:Obj)) ::
 (nat_lit 648,(⟨(.type "function"),none,.func (fnOf "_law_all_told" "_law_all_told" (qj jR) (qh jR) (qb jR) .none .none .none (.str "law_onceroad_k68_twins_and_roads_ahead" 843) none (.ref 647) .none),#[]⟩:Obj)) ::
 (nat_lit 654,(⟨(.type "code"),none,.fields #[(.str "_law_to_the_start" 1013),(.str "_law_to_the_start" 1014),(.str "/claim/cut.py" 1015),(.int 375 0),(.int 4 0),(.int 0 0),(.int 0 0),(.int 3 0),(.ref 649),(.bool true),(.int 181 0),(.ref 650),.none,(.ref 651),(.ref 652),(.ref 653),(.int 1020 0),(.int 375 0),(.str "/claim/cut.py" 1021)],#[]⟩:Obj)) ::
 (nat_lit 655,(⟨(.type "function"),none,.func (fnOf "_law_to_the_start" "_law_to_the_start" (qj qY) (qh qY) (qb qY) .none .none .none (.str "law_onceroad_k68_twins_and_roads_ahead" 843) none (.ref 654) .none),#[]⟩:Obj)) ::
 (nat_lit 659,(⟨(.type "code"),none,.fields #[(.str "law" 1023),(.str "law" 1024),(.str "/claim/cut.py" 1025),(.int 380 0),(.int 1 0),(.int 0 0),(.int 0 0),(.int 3 0),(.ref 656),(.bool true),(.int 181 0),(.ref 657),.none,.none,.none,(.ref 658),(.int 1026 0),(.int 380 0),(.str "/claim/cut.py" 1027)],#[]⟩:Obj)) ::
 (nat_lit 660,(⟨(.type "function"),none,.func (fnOf "law" "law" (qj qbq) (qh qbq) (qb qbq) .none .none .none (.str "law_onceroad_k68_twins_and_roads_ahead" 843) none (.ref 659) .none),#[]⟩:Obj)) ::
 []
def ks:List Addr:=[2,3,34,35,37,38,54,55,57,58,73,74,76,77,92,93,95,96,111,112,114,115,130,131,133,134,149,150,152,153,168,169,171,172,187,188,190,191,199,200,206,207,211,212,225,226,232,233,239,240,246,247,260,261,267,268,274,275,281,282,288,289,291,292,302,303,316,317,323,324,330,331,344,345,358,359,365,366,372,373,393,394,398,399,429,430,440,441,447,448,454,455,461,462,468,469,480,481,485,486,490,491,497,498,504,505,511,512,518,519,521,522,530,531,537,538,544,545,551,552,558,559,563,564,568,569,573,574,578,579,583,584,590,591,595,596,600,601,607,608,614,615,619,620,626,627,633,634,640,641,647,648,654,655,659,660]
theorem ks_eq:∀ P,ks=(Kf P).map (·.1):=fun P=>by kernel_rfl
noncomputable abbrev Hk:Hook:=kHook Kf ks ks_eq
noncomputable abbrev Xt (s:Shared):Bool:=xlAt Q [] s&&recOk [] s
noncomputable def runAt (w:World) (os:OsState):=Hd.lookT PySem.Challenge.pw_onceroad_k68_twins_and_roads_ahead Q Xt (fun s=>ks.map s.heap.get?) NN w os
noncomputable def goodAt (w:World) (_:OsState):=some (openGood Q [],(Kf w.params).map fun p=>some p.2)
def tag {α:Type} (f g:World→OsState→α):Bool:=true
theorem tag1:tag runAt goodAt=true:=by k_qdec
theorem hl1 (w:World) (os:OsState):runAt w os=goodAt w os:=by
 rw [PySem.W.Fast.te9173856984712160879,PySem.W.Fast.te16103952645709570803]
 kernel_rfl
theorem hl:LeftO PySem.Challenge.pw_onceroad_k68_twins_and_roads_ahead Q [] Xt (Hook.obs Hk) (Hook.val Hk) NN:=Hd.left_of (by kernel_rfl) (by decide) (fun s=>by kernel_rfl) fun w os=>hl1 w os
end K68
namespace L2
open PySem PySem.Spec PyProof.Rows
abbrev Key:=Sum Int Str
def qcu:Key→Value→Bool
 | .inl k,v=>Value.isInt k v
 | .inr x,v=>Value.isStrOf x v
def keyH (w:World):Key→Int
 | .inl k=>hashInt k
 | .inr x=>hashStr w x
theorem jc:∀ {k:Key} {v:Value},qcu k v=true→(∃ i t,k=Sum.inl i∧v=Value.int i t)∨(∃ x t,k=Sum.inr x∧v=Value.str x t)
 | .inl i,v,h=>by
  obtain ⟨t,e⟩:=Value.isInt_shape (k:=i) (v:=v) h
  exact .inl ⟨i,t,rfl,e⟩
 | .inr x,v,h=>by
  obtain ⟨t,e⟩:=Value.isStrOf_shape (x:=x) (v:=v) h
  exact .inr ⟨x,t,rfl,e⟩
theorem keyIs_int (i:Int) (t:Tok):qcu (.inl i) (.int i t)=true:=by simp [qcu,Value.isInt]
theorem keyIs_str (x:Str) (t:Tok):qcu (.inr x) (.str x t)=true:=by simp [qcu,Value.isStrOf]
theorem key_ll (a b:Int):decide ((Sum.inl a:Key)=Sum.inl b)=(a==b):=by
 by_cases e:a=b
 ·subst e;simp
 ·have h:¬ (Sum.inl a:Key)=Sum.inl b:=fun q=>e (Sum.inl.inj q)
  rw [decide_eq_false h]
  exact (beq_eq_false_iff_ne.mpr e).symm
theorem key_rr (a b:Str):decide ((Sum.inr a:Key)=Sum.inr b)=decide (a=b):=by
 by_cases e:a=b
 ·subst e;simp
 ·have h:¬ (Sum.inr a:Key)=Sum.inr b:=fun q=>e (Sum.inr.inj q)
  rw [decide_eq_false h,decide_eq_false e]
theorem key_lr (a:Int) (b:Str):decide ((Sum.inl a:Key)=Sum.inr b)=false:=decide_eq_false (fun q=>nomatch q)
theorem key_rl (a:Str) (b:Int):decide ((Sum.inr a:Key)=Sum.inl b)=false:=decide_eq_false (fun q=>nomatch q)
def jS (prog:Program) (w:World):PySem.KeyKind prog w Key where
 is:=qcu
 hash:=keyH w
 inj:=fun v a b ha hb=>by
  rcases jc ha with ⟨i,t,rfl,rfl⟩ | ⟨x,t,rfl,rfl⟩
  ·rcases jc hb with ⟨j,u,rfl,e⟩ | ⟨y,u,rfl,e⟩
   ·injection e with e1 _;rw [e1]
   ·exact nomatch e
  ·rcases jc hb with ⟨j,u,rfl,e⟩ | ⟨y,u,rfl,e⟩
   ·exact nomatch e
   ·injection e with e1 _;rw [e1]
 byValue:=fun k v h=>by
  rcases jc h with ⟨i,t,rfl,rfl⟩ | ⟨x,t,rfl,rfl⟩<;>rfl
 pyHash:=fun hv h=>by
  rcases jc hv with ⟨i,t,rfl,rfl⟩ | ⟨x,t,rfl,rfl⟩
  ·exact wpAny_pyHash_int h
  ·exact wpAny_pyHash_str h
 eqBool:=fun hu hv h=>by
  rcases jc hu with ⟨i,t,rfl,rfl⟩ | ⟨x,t,rfl,rfl⟩
  ·rcases jc hv with ⟨j,u,rfl,rfl⟩ | ⟨y,u,rfl,rfl⟩
   ·rw [key_ll] at h;exact wpAny_eqBool_int h
   ·rw [key_lr] at h;exact SeqAt.EqAt.int_str i t y u _ _ _ _ h
  ·rcases jc hv with ⟨j,u,rfl,rfl⟩ | ⟨y,u,rfl,rfl⟩
   ·rw [key_rl] at h;exact SeqAt.EqAt.str_int x t j u _ _ _ _ h
   ·rw [key_rr] at h;exact wpAny_eqBool_str h
 «strs»:=fun k x t v h=>by
  rcases jc h with ⟨i,u,rfl,e⟩ | ⟨y,u,rfl,e⟩
  ·exact nomatch e
  ·injection e with e1 _
   subst e1
   cases v<;>rfl
theorem mixKind_int (prog:Program) (w:World) (i:Int) (t:Tok):(jS prog w).is (.inl i) (.int i t)=true:=keyIs_int i t
theorem mixKind_str (prog:Program) (w:World) (x:Str) (t:Tok):(jS prog w).is (.inr x) (.str x t)=true:=keyIs_str x t
end L2
namespace L2
open PySem PySem.Spec PyProof.Rows
inductive V where
 | non | bl (b:Bool) | int (i:Int) | str (x:Str) | byt (b:Array UInt8) | flt (b:UInt64) | ref (a:Addr) | ty (n:String)
 deriving DecidableEq
def RelV:V→Value→Prop
 | .non,u=>u=Value.none
 | .bl b,u=>u=Value.bool b
 | .int i,u=>∃ t,u=Value.int i t
 | .str x,u=>∃ t,u=Value.str x t
 | .byt b,u=>∃ t,u=Value.bytes b t
 | .flt b,u=>∃ t,u=Value.float b t
 | .ref a,u=>u=Value.ref a
 | .ty n,u=>u=Value.type n
abbrev Vals:List V→List Value→Prop:=Paired RelV
theorem Vals.length {xs:List V} {us:List Value} (r:Vals xs us):xs.length=us.length:=Paired.length r
theorem Vals.get:∀ {xs:List V} {us:List Value} {i:Nat} {x:V},Vals xs us→xs[i]?=some x→∃ u,us[i]?=some u∧RelV x u
 | _,_,_,_,.nil,e=>by simp at e
 | _,_,0,_,.cons r _,e=>by simp at e;subst e;exact ⟨_,rfl,r⟩
 | _,_,i + 1,x,.cons _ t,e=>by
  obtain ⟨u,h1,h2⟩:=Vals.get (i:=i) (x:=x) t (by simpa using e)
  exact ⟨u,by simpa using h1,h2⟩
theorem Vals.set {x:V} {u:Value} (r:RelV x u):∀ {xs:List V} {us:List Value} (i:Nat),Vals xs us→Vals (xs.set i x) (us.set i u)
 | _,_,_,.nil=>.nil
 | _,_,0,.cons _ t=>.cons r t
 | _,_,i + 1,.cons q t=>.cons q (Vals.set r i t)
theorem Vals.append:∀ {xs ys:List V} {us ws:List Value},Vals xs us→Vals ys ws→Vals (xs++ys) (us++ws)
 | _,_,_,_,.nil,s=>s
 | _,_,_,_,.cons r t,s=>.cons r (Vals.append t s)
theorem Vals.take:∀ {xs:List V} {us:List Value} (n:Nat),Vals xs us→Vals (xs.take n) (us.take n)
 | _,_,0,_=>.nil
 | _,_,_ + 1,.nil=>.nil
 | _,_,n + 1,.cons r t=>.cons r (Vals.take n t)
theorem Vals.drop:∀ {xs:List V} {us:List Value} (n:Nat),Vals xs us→Vals (xs.drop n) (us.drop n)
 | _,_,0,r=>r
 | _,_,_ + 1,.nil=>.nil
 | _,_,n + 1,.cons _ t=>Vals.drop n t
def RelO:Option V→Option Value→Prop
 | some v,some u=>RelV v u
 | none,none=>True
 | _,_=>False
def KV {κ:Type}:List (κ×V)→List (κ×Value)→Prop:=Paired fun (p:κ×V) (q:κ×Value)=>p.1=q.1∧RelV p.2 q.2
def kV:Key→V
 | .inl i=>.int i
 | .inr x=>.str x
inductive HO where
 /-- a list -/
 | lst (xs:List V)
 /-- a tuple (never changes) -/
 | tup (xs:List V)
 /-- a dict whose keys are ints and texts;one whose keys are tuples of ints and texts (the empty one is both) -/
 | dK (kvs:List (Key×V)) | dT (kvs:List (List Key×V))
 /-- a set of ints: its members,its size -/
 | set (S:Int→Bool) (n:Nat)
 /-- an instance of the class at C,its dict at dx,its attributes -/
 | ins (C dx:Addr) (fs:List (Str×V))
 /-- the dict of the instance at x -/
 | own (x:Addr)
 /-- the dict of an exception -/
 | xd (fs:List (Str×V))
 /-- a bound method,f of x -/
 | met (f x:Addr)
 /-- a range object lo,lo + 1,.. below hi -/
 | rng (lo hi:Int)
 /-- a thing that is known to the object (the script;a dict while a loop walks it): read,never written while it is so -/
 | frz (o:Obj) (u:HO)
 /-- a code object's table -/
 | tbl (ps:Array Value)
 /-- any other thing,by what is true of its one object (a def of one's own: SetO a S n:=HO.ext fun h=>..) -/
 | ext (φ:Heap→Prop)
abbrev Hp:=Addr→Option HO
def upd (H:Hp) (a:Addr) (o:HO):Hp:=fun b=>if b=a then some o else H b
theorem qd {H:Hp} {a:Addr} {o:HO}:upd H a o a=some o:=by unfold upd;rw [if_pos rfl]
theorem qi {H:Hp} {a b:Addr} {o:HO} (h:b≠a):upd H a o b=H b:=by unfold upd;rw [if_neg h]
theorem qat {H:Hp} {a b:Addr} {o u:HO} (h:H a=some o) (h':H b=some u) (d:o≠u):a≠b:=by
 intro e;subst e;rw [h] at h';exact d (Option.some.inj h')
theorem qC {H:Hp} {a b:Addr} {o:HO} (h:H a=some o) (h':H b=none):a≠b:=by
 intro e;subst e;rw [h] at h';cases h'
section
variable (P:Program) (w:World)
def ObjOk (H:Hp) (h:Heap) (a:Addr):HO→Prop
 | .lst xs=>xs.length≤sizeLine∧∃ (its:List Value) (n:Nat),Vals xs its∧h.get? a=some { cls:=.type "list",data:=.seq its.toArray n }
 | .tup xs=>xs.length≤sizeLine∧∃ its:List Value,Vals xs its∧IsTup h a its.toArray
 | .dK kvs=>kvs.length≤sizeLine∧(a==sysModules)=false∧∃ vs,KV kvs vs∧h.DictOf (jS P w) a vs
 | .dT kvs=>kvs.length≤sizeLine∧(a==sysModules)=false∧∃ xs:List (List Key×Addr×Value),
   Paired (fun (p:List Key×V) (q:List Key×Addr×Value)=>p.1=q.1∧H q.2.1=some (.tup (p.1.map kV))∧RelV p.2 q.2.2) kvs xs ∧
   ∃ o es ep,h.get? a=some o∧o.ExactDict∧o.data=.dict es ep∧es.toList=xs.map (entryOfKey (tupleKind (jS P w)))∧(xs.map (·.1)).Nodup
 | .set S n=>h.SetOf (intKind P w) a S n
 | .ins C dx fs=>H dx=some (.own a)∧fs.length≤1000∧dx≠a∧h.get? a=some (PySem.W.instObj C dx) ∧
   ∃ mA,h.Ns1 dx mA∧(∀ f,RelO (fs.lookup f) (mA f))∧PySem.Within mA (fs.map (·.1))
 | .own _=>∃ o,h.get? a=some o
 | .xd fs=>∃ mA,h.Ns1 a mA∧∀ f,RelO (fs.lookup f) (mA f)
 | .rng lo hi=>∃ t u v,h.get? a=some { cls:=.type "range",data:=.fields #[.int lo t,.int hi u,.int 1 v] }
 | .frz o u=>h.get? a=some o∧ObjOk H h a u
 | .tbl ps=>h.get? a=some { cls:=.none,data:=.fields ps }
 | .met f x=>h.get? a=some (PySem.W.methodObj (.ref f) (.ref x))
 | .ext φ=>φ h∧(∃ o,h.get? a=some o)∧∀ h1 h2:Heap,φ h1→(∀ o,h1.get? a=some o→h2.get? a=some o)→φ h2
def HOk (H:Hp) (h:Heap):Prop:=∀ a o,H a=some o→ObjOk P w H h a o
end
section
variable {P:Program} {w:World} {H H':Hp} {h h':Heap} {a:Addr} {o:HO}
theorem ObjOk.lt (x:ObjOk P w H h a o):a < h.objs.size:=by
 cases o with
 | lst xs=>obtain ⟨_,_,_,_,e⟩:=x;exact Heap.lt_size e
 | tup xs=>obtain ⟨_,_,_,p⟩:=x;exact p.lt
 | dK kvs=>obtain ⟨_,_,_,_,o,_,_,e,_⟩:=x;exact Heap.lt_size e
 | dT kvs=>obtain ⟨_,_,_,_,o,_,_,e,_⟩:=x;exact Heap.lt_size e
 | set S n=>obtain ⟨o,_,_,_,e,_⟩:=x;exact Heap.lt_size e
 | ins C dx fs=>obtain ⟨_,_,_,e,_⟩:=x;exact Heap.lt_size e
 | own y=>obtain ⟨_,e⟩:=x;exact Heap.lt_size e
 | xd fs=>obtain ⟨_,⟨_,_,_,e,_⟩,_⟩:=x;exact Heap.lt_size e
 | rng lo hi=>obtain ⟨_,_,_,e⟩:=x;exact Heap.lt_size e
 | frz ob u=>obtain ⟨e,_⟩:=x;exact Heap.lt_size e
 | tbl ps=>exact Heap.lt_size (show h.get? a=some _ from x)
 | met f y=>exact Heap.lt_size (show h.get? a=some _ from x)
 | ext φ=>obtain ⟨_,⟨_,e⟩,_⟩:=x;exact Heap.lt_size e
theorem Paired.mapP {α β:Type} {F G:α→β→Prop}:∀ {l₁:List α} {l₂:List β},Paired F l₁ l₂→(∀ a b,F a b→G a b)→Paired G l₁ l₂
 | _,_,.nil,_=>.nil
 | _,_,.cons r t,f=>.cons (f _ _ r) (Paired.mapP t f)
theorem ObjOk.stay (x:ObjOk P w H h a o) (k:∀ b u,(b=a∨H b=some (.own a))→h.get? b=some u→h'.get? b=some u)
  (ho:∀ b,H b=some (.own a)→H' b=some (.own a)) (ht:∀ b xs,H b=some (.tup xs)→H' b=some (.tup xs)):ObjOk P w H' h' a o:=by
 induction o with
 | lst xs=>obtain ⟨z,its,n,r,e⟩:=x;exact ⟨z,its,n,r,k _ _ (.inl rfl) e⟩
 | tup xs=>obtain ⟨z,its,r,ob,e,c⟩:=x;exact ⟨z,its,r,ob,k _ _ (.inl rfl) e,c⟩
 | dK kvs=>obtain ⟨z,y,vs,r,ob,es,ep,e,c⟩:=x;exact ⟨z,y,vs,r,ob,es,ep,k _ _ (.inl rfl) e,c⟩
 | dT kvs =>
  obtain ⟨z,y,xs,r,ob,es,ep,e,c⟩:=x
  exact ⟨z,y,xs,Paired.mapP r fun p q z=>⟨z.1,ht _ _ z.2.1,z.2.2⟩,ob,es,ep,k _ _ (.inl rfl) e,c⟩
 | set S n=>obtain ⟨ob,es,ep,t,e,c⟩:=x;exact ⟨ob,es,ep,t,k _ _ (.inl rfl) e,c⟩
 | ins C dx fs =>
  obtain ⟨d,z,ne,e,mA,⟨od,es,ep,e2,c⟩,r⟩:=x
  exact ⟨ho _ d,z,ne,k _ _ (.inl rfl) e,mA,⟨od,es,ep,k _ _ (.inr d) e2,c⟩,r⟩
 | own y=>obtain ⟨ob,e⟩:=x;exact ⟨ob,k _ _ (.inl rfl) e⟩
 | xd fs=>obtain ⟨mA,⟨od,es,ep,e,c⟩,r⟩:=x;exact ⟨mA,⟨od,es,ep,k _ _ (.inl rfl) e,c⟩,r⟩
 | rng lo hi=>obtain ⟨t,u,v,e⟩:=x;exact ⟨t,u,v,k _ _ (.inl rfl) e⟩
 | frz ob u ih=>obtain ⟨e,q⟩:=x;exact ⟨k _ _ (.inl rfl) e,ih q⟩
 | tbl ps =>
  have e:h.get? a=some { cls:=.none,data:=.fields ps }:=x
  show h'.get? a=some { cls:=.none,data:=.fields ps }
  exact k a _ (.inl rfl) e
 | met f y =>
  have e:h.get? a=some (PySem.W.methodObj (.ref f) (.ref y)):=x
  show h'.get? a=some (PySem.W.methodObj (.ref f) (.ref y))
  exact k a _ (.inl rfl) e
 | ext φ=>obtain ⟨p,⟨o,e⟩,st⟩:=x;exact ⟨st _ _ p fun o q=>k _ _ (.inl rfl) q,⟨o,k _ _ (.inl rfl) e⟩,st⟩
theorem HOk.lt (x:HOk P w H h) (e:H a=some o):a < h.objs.size:=(x a o e).lt
theorem HOk.fresh (x:HOk P w H h) (e:h.objs.size≤a):H a=none:=by
 cases q:H a with
 | none=>rfl
 | some u=>exact absurd (Nat.lt_of_lt_of_le (x.lt q) e) (Nat.lt_irrefl _)
theorem HOk.kept (x:HOk P w H h) (k:∀ b u,h.get? b=some u→h'.get? b=some u):HOk P w H h':=fun a o e =>
 (x a o e).stay (fun b u _ q=>k b u q) (fun _ q=>q) fun _ _ q=>q
theorem HOk.laid (x:HOk P w H h) (k:∀ b u,h.get? b=some u→h'.get? b=some u) (hp:h.objs.size≤a) (new:ObjOk P w (upd H a o) h' a o):HOk P w (upd H a o) h':=fun b u e=>by
 have hn:=x.fresh hp
 by_cases hb:b=a
 ·subst hb;rw [qd] at e;cases e;exact new
 ·rw [qi hb] at e
  exact (x b u e).stay (fun c v _ q=>k c v q) (fun c q=>by rw [qi (qC q hn)];exact q) fun c xs q=>by rw [qi (qC q hn)];exact q
end
def Rd (H:Hp) (a:Addr) (u:HO):Prop:=H a=some u∨∃ o,H a=some (.frz o u)
theorem Rd.ok {P:Program} {w:World} {H:Hp} {h:Heap} {a:Addr} {u:HO} (r:Rd H a u) (x:HOk P w H h):ObjOk P w H h a u:=by
 rcases r with r | ⟨o,r⟩
 ·exact x a u r
 ·obtain ⟨_,q⟩:=x a _ r
  exact q
def Mut:Option HO→Prop
 | some (.lst _)=>True
 | some (.dK _)=>True
 | some (.dT _)=>True
 | some (.set _ _)=>True
 | some (.ins _ _ _)=>True
 | some (.ext _)=>True
 | _=>False
section
variable {P:Program} {w:World} {H:Hp} {h h':Heap} {x e:Addr} {o':HO}
theorem HOk.write (ok:HOk P w H h) (mu:Mut (H x)) (he:e=x∨H e=some (.own x)) (k:∀ b u,b≠e→h.get? b=some u→h'.get? b=some u) (heo:∃ u,h'.get? e=some u)
  (new:ObjOk P w (upd H x o') h' x o'):HOk P w (upd H x o') h':=fun b u q=>by
 have nown:∀ c y,H c=some (.own y)→c≠x:=fun c y r z=>by subst z;rw [r] at mu;exact mu
 have ntup:∀ c xs,H c=some (.tup xs)→c≠x:=fun c xs r z=>by subst z;rw [r] at mu;exact mu
 by_cases hb:b=x
 ·subst hb;rw [qd] at q;cases q;exact new
 ·rw [qi hb] at q
  by_cases hbe:b=e
  ·have q':H b=some (.own x):=by
    rcases he with z | z
    ·exact absurd (hbe.trans z) hb
    ·rw [hbe];exact z
   rw [q] at q';cases q'
   obtain ⟨v,hv⟩:=heo
   exact ⟨v,by rw [hbe];exact hv⟩
  ·refine (ok b u q).stay (fun c v hc r=>k c v ?_ r) (fun c r=>by rw [qi (nown c b r)];exact r) fun c xs r=>by rw [qi (ntup c xs r)];exact r
   rcases hc with rfl | hc
   ·exact hbe
   ·rintro rfl
    rcases he with z | z
    ·exact nown c b hc z
    ·rw [hc] at z;cases z;exact hb rfl
end
structure Un (fs ex:List Addr) (H H':Hp) (h h':Heap):Prop where
 keep:∀ b o,h.get? b=some o→H b=none→b∉fs→b∉ex→h'.get? b=some o
 slot:∀ b o,h.get? b=some o→H b=none→b∈fs→b∉ex→∃ sl,h'.get? b=some { o with slots:=sl }
 free:∀ b o,h.get? b=some o→H b=none→b∉ex→H' b=none
 there:∀ b o,h.get? b=some o→b∉ex→∃ o',h'.get? b=some o'
 tups:∀ b xs,H b=some (.tup xs)→H' b=some (.tup xs)
 frzs:∀ b o u,H b=some (.frz o u)→H' b=some (.frz o u)
 tbls:∀ b ps,H b=some (.tbl ps)→∃ more,H' b=some (.tbl (ps++more))
section
variable {fs fs' ex ex':List Addr} {H H1 H2:Hp} {h h1 h2 h':Heap} {a x e:Addr} {o:HO}
theorem Un.any (u:Un fs ex H H1 h h1) {b:Addr} {ob:Obj} (q:h.get? b=some ob) (n:H b=none) (hx:b∉ex):∃ sl,h1.get? b=some { ob with slots:=sl }:=by
 by_cases hb:b∈fs
 ·exact u.slot b ob q n hb hx
 ·exact ⟨ob.slots,u.keep b ob q n hb hx⟩
theorem Un.kept (k:∀ b u,h.get? b=some u→h'.get? b=some u):Un fs ex H H h h':=
 ⟨fun b ob q _ _ _=>k b ob q,fun b ob q _ _ _=>⟨ob.slots,k b ob q⟩,fun _ _ _ n _=>n,fun b ob q _=>⟨ob,k b ob q⟩,fun _ _ q=>q,fun _ _ _ q=>q,fun _ ps q=>⟨#[],by rw [q];simp⟩⟩
theorem Un.refl:Un fs ex H H h h:=Un.kept fun _ _ q=>q
theorem Un.laid (k:∀ b u,h.get? b=some u→h'.get? b=some u) (hp:h.objs.size≤a) (hn:H a=none):Un fs ex H (upd H a o) h h' where
 keep:=fun b u q _ _ _=>k b u q
 slot:=fun b u q _ _ _=>⟨u.slots,k b u q⟩
 free:=fun b u q n _=>by rw [qi (Nat.ne_of_lt (Nat.lt_of_lt_of_le (Heap.lt_size q) hp))];exact n
 there:=fun b u q _=>⟨u,k b u q⟩
 tups:=fun b xs q=>by rw [qi (qC q hn)];exact q
 frzs:=fun b u xs q=>by rw [qi (qC q hn)];exact q
 tbls:=fun b ps q=>⟨#[],by rw [qi (qC q hn),q];simp⟩
theorem Un.write (mu:Mut (H x)) (he:e=x∨H e=some (.own x)) (k:∀ b u,b≠e→h.get? b=some u→h'.get? b=some u) (heo:∃ u,h'.get? e=some u):Un fs ex H (upd H x o) h h':=by
 have hx:∀ b,H b=none→b≠x:=fun b n z=>by subst z;rw [n] at mu;exact mu
 have hb:∀ b,H b=none→b≠e:=fun b n z=>by
  subst z
  rcases he with r | r
  ·exact hx b n r
  ·rw [n] at r;cases r
 have hm:∀ b u,H b=some u→¬ Mut (some u)→b≠x:=fun b u q nm z=>by subst z;rw [q] at mu;exact nm mu
 refine ⟨fun b u q n _ _=>k b u (hb b n) q,fun b u q n _ _=>⟨u.slots,k b u (hb b n) q⟩,fun b u q n _=>by rw [qi (hx b n)];exact n,fun b u q _=>?_,
  fun b xs q=>by rw [qi (hm b _ q fun z=>z)];exact q,fun b u xs q=>by rw [qi (hm b _ q fun z=>z)];exact q,fun b ps q=>⟨#[],by rw [qi (hm b _ q fun z=>z),q];simp⟩⟩
 by_cases hbe:b=e
 ·subst hbe;exact heo
 ·exact ⟨u,k b u hbe q⟩
end
def trk (h:Heap) (H:Hp):List Addr:=(List.range h.objs.size).filter fun a=>(H a).isSome
def qee (h:Heap) (H:Hp):Heap:=PySem.W.hideAll h (trk h H)
theorem hidT_size (h:Heap) (H:Hp):(qee h H).objs.size=h.objs.size:=PySem.W.hideAll_size _ _
theorem hidT_get {h:Heap} {H:Hp} {b:Addr} {o:Obj} (e:h.get? b=some o) (n:H b=none):(qee h H).get? b=some o:=
 PySem.W.hideAll_get _ e fun hm=>by
  have q:(H b).isSome=true:=(List.mem_filter.mp hm).2
  rw [n] at q;simp at q
theorem of_hidT {h:Heap} {H:Hp} {b:Addr} {o:Obj} (e:(qee h H).get? b=some o):h.get? b=some o∧H b=none:=by
 have e':h.get? b=some o:=PySem.W.of_hideAll (trk h H) e
 refine ⟨e',?_⟩
 cases q:H b with
 | none=>rfl
 | some x =>
  have hm:b∈trk h H:=List.mem_filter.mpr ⟨List.mem_range.mpr (Heap.lt_size e'),by simp [q]⟩
  have z:(qee h H).get? b=none:=PySem.W.hideAll_none (trk h H) hm
  rw [z] at e;cases e
def allNews (g h:Heap) (L:Addr):List (Addr×Obj):=(List.range h.objs.size).filterMap fun a=>if a=L∨(g.get? a).isSome=true then none else (h.get? a).map fun o=>(a,o)
def rest (g h:Heap) (L d:Addr):List (Addr×Obj):=(allNews g h L).filter fun p=>decide (p.1≠d)
end L2
namespace L2
open PySem PySem.Spec PyProof.Rows
structure Mod (K:PySem.W.Frag) (mg:Str→Option Value) (base:Heap):Prop where
 kin:K.In base
 glob:base.Ns mainGlobals mg
 blt:∃ mb,base.Ns builtinsNs mb∧∀ x:Str,x≠"__name__"→mb x=bootBuiltins x
 nolimit:base.NoLimit
structure Cx where
 prog:Program
 w:World
 K:PySem.W.Frag
 mg:Str→Option Value
 base:Heap
 A:Around
 N:List Str
 s₀:Shared
 H₀:Hp
 env:Env
 outer:List Env
 stack:List Env
 ex:List Addr
 fn:Str→Bool
 calm:Bool
 pn:List (Addr×Obj)
 xe:Value→Shared→Prop
def frs (l:List Env):List Addr:=l.filterMap (·.frame)
abbrev Cx.fs (X:Cx):List Addr:=frs X.outer
def Vis (sc:Scope) (x:Str):Prop:=sc.names.lookup x=some .local∨sc.names.lookup x=some .cell∨sc.names.lookup x=some .free
def Loc (sc:Scope) (x:Str):Prop:=sc.names.lookup x=some .local∨sc.names.lookup x=some .cell
def Look (env:Env) (h:Heap) (m:Str→Option Value) (x:Str) (u:Value):Prop:=
 (env.kindOf x=some .local∧m x=some u)∨((env.kindOf x=some .cell∨env.kindOf x=some .free)∧∃ c,env.cells.lookup x=some c∧h.IsCell c (some u))
structure Cx.Ok (X:Cx):Prop where
 mod:Mod X.K X.mg X.base
 kind:X.env.scope.kind=.function
 glob:X.env.globals=mainGlobals
 blt:X.env.builtins=builtinsNs
 above:X.s₀.heap.objs.size≤X.env.locals
 inj:∀ x y c,X.env.cells.lookup x=some c→X.env.cells.lookup y=some c→x=y
 has:∀ x,(X.env.kindOf x=some .cell∨X.env.kindOf x=some .free)→∃ c,X.env.cells.lookup x=some c
 cab:∀ x c,X.fn x=true→X.env.cells.lookup x=some c→X.s₀.heap.objs.size≤c
 hd:X.calm=true→X.A.handled=none
 frames:X.A.frames=some X.stack
 stk:X.stack=X.outer∨(X.stack=X.env::X.outer∧X.env.frame=some X.env.locals)
 exf:∀ b∈X.ex,b≠X.env.locals∧∀ x c,X.env.cells.lookup x=some c→c≠b
 bs:∀ b o,X.base.get? b=some o→X.s₀.heap.get? b=some o∧X.H₀ b=none
 bsz:X.base.objs.size≤X.s₀.heap.objs.size
 noex:∀ b o,X.base.get? b=some o→b∉X.ex
 exfs:∀ b∈X.ex,b∉X.fs
 funs:X.s₀.heap.FunFrames X.base X.outer
 frf:∀ b∈X.fs,X.H₀ b=none
structure Inv (X:Cx) (pins:List (Addr×Obj)) (σ:List (Option V)) (H:Hp) (s:Shared):Prop where
 ok:X.Ok
 os:s.os=X.s₀.os
 bare:AllBare s.gens
 base:Un X.fs X.ex X.H₀ H X.s₀.heap s.heap
 loc:∃ m,s.heap.Ns X.env.locals m∧∀ (i:Nat) (x:Str) (v:V),X.N[i]?=some x→σ[i]?=some (some v)→Vis X.env.scope x→∃ u,RelV v u∧Look X.env s.heap m x u
 cell:∀ x c,X.env.cells.lookup x=some c→∃ v,s.heap.IsCell c v
 free:H X.env.locals=none
 freeC:∀ x c,X.env.cells.lookup x=some c→H c=none
 pin:∀ p∈X.pn++pins,s.heap.get? p.1=some p.2∧H p.1=none∧p.1≠X.env.locals∧p.1∉X.fs∧∀ v,p.2.data≠.cell v
 hok:HOk X.prog X.w H s.heap
 len:σ.length=X.N.length
section
variable {X:Cx} {pins:List (Addr×Obj)} {σ:List (Option V)} {H H':Hp} {s:Shared} {h':Heap}
theorem Cx.Ok.nofr (ok:X.Ok) {b:Addr} {o:Obj} (e:X.base.get? b=some o):b∉X.fs:=fun hb=>by
 have:=(ok.funs.mem hb).1
 rw [e] at this;cases this
theorem Inv.bs (I:Inv X pins σ H s):∀ b o,X.base.get? b=some o→s.heap.get? b=some o∧H b=none:=fun b o e =>
 ⟨I.base.keep b o (I.ok.bs b o e).1 (I.ok.bs b o e).2 (I.ok.nofr e) (I.ok.noex b o e),I.base.free b o (I.ok.bs b o e).1 (I.ok.bs b o e).2 (I.ok.noex b o e)⟩
theorem Inv.bk (I:Inv X pins σ H s):∀ b o,X.base.get? b=some o→s.heap.get? b=some o:=fun b o e=>(I.bs b o e).1
theorem Inv.mod (I:Inv X pins σ H s):Mod X.K X.mg X.base:=I.ok.mod
theorem Inv.kIn (I:Inv X pins σ H s):X.K.In s.heap:=I.ok.mod.kin.keeps I.bk
theorem Inv.lt (I:Inv X pins σ H s):X.env.locals < s.heap.objs.size:=let ⟨_,hn,_⟩:=I.loc;hn.lt
theorem Inv.sz (I:Inv X pins σ H s):X.s₀.heap.objs.size≤s.heap.objs.size:=Nat.le_trans I.ok.above (Nat.le_of_lt I.lt)
theorem Inv.nofs (I:Inv X pins σ H s) {a:Addr} (h:s.heap.objs.size≤a):a∉X.fs:=fun hb=>by
 obtain ⟨_,o,ho,_⟩:=I.ok.funs.mem hb
 exact absurd (Nat.lt_of_lt_of_le (Heap.lt_size ho) (Nat.le_trans I.sz h)) (Nat.lt_irrefl _)
theorem Inv.cne (I:Inv X pins σ H s):∀ x c,X.env.cells.lookup x=some c→c≠X.env.locals:=fun x c e z=>by
 obtain ⟨v,o,ho,hd⟩:=I.cell x c e
 obtain ⟨m,⟨o',es,ep,ho',hd',_⟩,_⟩:=I.loc
 rw [z,ho'] at ho;cases ho;rw [hd'] at hd;cases hd
theorem Inv.funs (I:Inv X pins σ H s):s.heap.FunFrames X.base X.outer:=by
 have all:∀ (l:List Env),(∀ b∈frs l,b∈X.fs)→X.s₀.heap.FunFrames X.base l→s.heap.FunFrames X.base l:=by
  intro l
  induction l with
  | nil=>intro _ _;trivial
  | cons env r ih =>
   intro hs hl
   obtain ⟨hk,⟨L,o,hf,hn,ho,hd⟩,hr⟩:=hl
   have hL:L∈X.fs:=hs L (by unfold frs;rw [List.filterMap_cons,hf];exact List.mem_cons_self)
   obtain ⟨sl,e⟩:=I.base.slot L o ho (I.ok.frf L hL) hL fun z=>I.ok.exfs L z hL
   exact ⟨hk,⟨L,_,hf,hn,e,hd⟩,ih (fun b hb=>hs b (by unfold frs;rw [List.filterMap_cons,hf];exact List.mem_cons_of_mem _ hb)) hr⟩
 exact all X.outer (fun _ hb=>hb) I.ok.funs
theorem Inv.stack (I:Inv X pins σ H s):s.heap.FunFrames X.base X.stack:=by
 rcases I.ok.stk with e | ⟨e,hf⟩
 ·rw [e];exact I.funs
 ·rw [e]
  obtain ⟨m,hn,_⟩:=I.loc
  refine .cons (by rw [I.ok.kind];decide) hf hn ?_ I.funs
  exact Heap.get?_none_of_le (Nat.le_trans I.ok.bsz I.ok.above)
theorem Inv.stkSub (I:Inv X pins σ H s):∀ b∈frs X.stack,b∈X.env.locals::X.fs:=fun b hb=>by
 rcases I.ok.stk with e | ⟨e,hf⟩
 ·rw [e] at hb;exact List.mem_cons_of_mem _ hb
 ·rw [e] at hb
  unfold frs at hb
  rw [List.filterMap_cons,hf] at hb
  exact hb
theorem Inv.stkFree (I:Inv X pins σ H s):∀ b∈frs X.stack,H b=none:=fun b hb=>by
 rcases List.mem_cons.mp (I.stkSub b hb) with e | hb
 ·rw [e];exact I.free
 ·obtain ⟨_,o,ho,_⟩:=I.ok.funs.mem hb
  exact I.base.free b o ho (I.ok.frf b hb) fun z=>I.ok.exfs b z hb
theorem Inv.step {g':Array GenState} {t':Nat} {d':Drawn} {ch:List Addr} (I:Inv X pins σ H s)
  (hch:∀ b∈ch,(b∈X.ex∨X.s₀.heap.objs.size≤b)∧b≠X.env.locals∧(∀ x c,X.env.cells.lookup x=some c→c≠b)∧∀ p∈X.pn++pins,p.1≠b)
  (keep:∀ b o,b≠X.env.locals→b∉X.fs→b∉ch→s.heap.get? b=some o→H b=none→h'.get? b=some o)
  (slot:∀ b o,b≠X.env.locals→b∈X.fs→b∉ch→s.heap.get? b=some o→H b=none→∃ sl,h'.get? b=some { o with slots:=sl }) (free:∀ b o,b∉ch→s.heap.get? b=some o→H b=none→H' b=none)
  (there:∀ b o,b∉ch→s.heap.get? b=some o→∃ o',h'.get? b=some o')
  (tups:∀ b xs,H b=some (.tup xs)→H' b=some (.tup xs)) (frzs:∀ b o u,H b=some (.frz o u)→H' b=some (.frz o u)) (tbls:∀ b ps,H b=some (.tbl ps)→∃ more,H' b=some (.tbl (ps++more)))
  (ns:∀ m,s.heap.Ns X.env.locals m→h'.Ns X.env.locals m) (hok:HOk X.prog X.w H' h') (hg:AllBare g') :
  Inv X pins σ H' { s with heap:=h',gens:=g',drawn:=d',toks:=t' }:=by
 have neL:∀ b o,X.s₀.heap.get? b=some o→b≠X.env.locals:=fun b o e=>Nat.ne_of_lt (Nat.lt_of_lt_of_le (Heap.lt_size e) I.ok.above)
 have neC:∀ b o,X.s₀.heap.get? b=some o→b∉X.ex→b∉ch:=fun b o e hx hb=>by
  rcases (hch b hb).1 with z | z
  ·exact hx z
  ·exact absurd (Nat.lt_of_lt_of_le (Heap.lt_size e) z) (Nat.lt_irrefl _)
 have cellK:∀ x c,X.env.cells.lookup x=some c→∀ v,s.heap.IsCell c v→h'.IsCell c v:=fun x c e v ⟨o,ho,hd⟩=>by
  have nch:c∉ch:=fun z=>(hch c z).2.2.1 x c e rfl
  by_cases hc:c∈X.fs
  ·obtain ⟨sl,q⟩:=slot c o (I.cne x c e) hc nch ho (I.freeC x c e)
   exact ⟨_,q,hd⟩
  ·exact ⟨o,keep c o (I.cne x c e) hc nch ho (I.freeC x c e),hd⟩
 refine ⟨I.ok,I.os,hg,⟨fun b o e n hb hx=>?_,fun b o e n hb hx=>?_,fun b o e n hx=>?_,fun b o e hx=>?_,fun b xs e=>tups b xs (I.base.tups b xs e),fun b o xs e=>frzs b o xs (I.base.frzs b o xs e),fun b ps e=>?_⟩,?_,fun x c e=>?_,?_,fun x c e=>?_,fun p hp=>?_,hok,I.len⟩
 ·exact keep b o (neL b o e) hb (neC b o e hx) (I.base.keep b o e n hb hx) (I.base.free b o e n hx)
 ·obtain ⟨sl,e1⟩:=I.base.slot b o e n hb hx
  obtain ⟨sl',e2⟩:=slot b _ (neL b o e) hb (neC b o e hx) e1 (I.base.free b o e n hx)
  exact ⟨sl',e2⟩
 ·obtain ⟨o',e1⟩:=I.base.there b o e hx
  exact free b o' (neC b o e hx) e1 (I.base.free b o e n hx)
 ·obtain ⟨o',e1⟩:=I.base.there b o e hx
  exact there b o' (neC b o e hx) e1
 ·obtain ⟨m1,e1⟩:=I.base.tbls b ps e
  obtain ⟨m2,e2⟩:=tbls b _ e1
  exact ⟨m1++m2,by rw [e2,Array.append_assoc]⟩
 ·obtain ⟨m,hn,hl⟩:=I.loc
  refine ⟨m,ns m hn,fun i x v e1 e2 e3=>?_⟩
  obtain ⟨u,r,l⟩:=hl i x v e1 e2 e3
  refine ⟨u,r,?_⟩
  rcases l with l | ⟨k,c,e,z⟩
  ·exact .inl l
  ·exact .inr ⟨k,c,e,cellK x c e _ z⟩
 ·obtain ⟨v,z⟩:=I.cell x c e
  exact ⟨v,cellK x c e v z⟩
 ·obtain ⟨m,⟨o,_,_,ho,_⟩,_⟩:=I.loc
  exact free _ o (fun z=>(hch _ z).2.1 rfl) ho I.free
 ·obtain ⟨v,o,ho,hd⟩:=I.cell x c e
  exact free c o (fun z=>(hch c z).2.2.1 x c e rfl) ho (I.freeC x c e)
 ·obtain ⟨e,n,ne,nf,d⟩:=I.pin p hp
  have nch:p.1∉ch:=fun z=>(hch p.1 z).2.2.2 p hp rfl
  exact ⟨keep p.1 p.2 ne nf nch e n,free p.1 p.2 nch e n,ne,nf,d⟩
theorem Inv.un {t':Nat} (I:Inv X pins σ H s) (u:Un X.fs [] H H' s.heap h') (hok:HOk X.prog X.w H' h'):Inv X pins σ H' { s with heap:=h',toks:=t' }:=by
 obtain ⟨m,⟨o,es,ep,ho,r⟩,_⟩:=id I.loc
 obtain ⟨sl,hL⟩:=u.any ho I.free (by simp)
 exact I.step (g':=s.gens) (d':=s.drawn) (ch:=[]) (fun _ z=>nomatch z) (fun b o _ hb _ e n=>u.keep b o e n hb (by simp)) (fun b o _ hb _ e n=>u.slot b o e n hb (by simp)) (fun b o _ e n=>u.free b o e n (by simp)) (fun b o _ e=>u.there b o e (by simp)) u.tups u.frzs u.tbls (fun m' hm=>by
  obtain ⟨o',es',ep',ho',r'⟩:=hm
  rw [ho] at ho';cases ho'
  exact ⟨_,es',ep',hL,r'⟩) hok I.bare
theorem Inv.call {g':Array GenState} {t':Nat} {d':Drawn} {ch:List Addr} (I:Inv X pins σ H s) (u:Un (frs X.stack) ch H H' s.heap h') (hok:HOk X.prog X.w H' h') (hg:AllBare g')
  (hch:∀ b∈ch,(b∈X.ex∨X.s₀.heap.objs.size≤b)∧b≠X.env.locals∧(∀ x c,X.env.cells.lookup x=some c→c≠b)∧∀ p∈X.pn++pins,p.1≠b) :
  Inv X pins σ H' { s with heap:=h',gens:=g',drawn:=d',toks:=t' }:=by
 obtain ⟨m,⟨o,es,ep,ho,r⟩,_⟩:=id I.loc
 obtain ⟨sl,hL⟩:=u.any ho I.free fun z=>(hch _ z).2.1 rfl
 exact I.step (ch:=ch) hch (fun b o hL hb hc e n=>u.keep b o e n (fun z=>(List.mem_cons.mp (I.stkSub b z)).elim hL hb) hc) (fun b o _ _ hc e n=>u.any e n hc) (fun b o hc e n=>u.free b o e n hc) (fun b o hc e=>u.there b o e hc) u.tups u.frzs u.tbls (fun m' hm=>by
  obtain ⟨o',es',ep',ho',r'⟩:=hm
  rw [ho] at ho';cases ho'
  exact ⟨_,es',ep',hL,r'⟩) hok hg
theorem Inv.turned {t':Nat} {it:Addr} (I:Inv X pins σ H s) (k:∀ b o,b≠it→s.heap.get? b=some o→h'.get? b=some o) (hn:H it=none) (hL:it≠X.env.locals)
  (h1:it∈X.ex∨X.s₀.heap.objs.size≤it) (h2:∀ x c,X.env.cells.lookup x=some c→c≠it) (h3:∀ p∈X.pn++pins,p.1≠it):Inv X pins σ H { s with heap:=h',toks:=t' }:=by
 have nit:∀ b u,H b=some u→b≠it:=fun b u e z=>by rw [z,hn] at e;cases e
 refine I.step (g':=s.gens) (d':=s.drawn) (ch:=[it]) (fun b hb=>?_) (fun b o _ _ hc e _=>k b o (fun z=>hc (by simp [z])) e) (fun b o _ _ hc e _=>⟨o.slots,k b o (fun z=>hc (by simp [z])) e⟩) (fun _ _ _ _ n=>n)
  (fun b o hc e=>⟨o,k b o (fun z=>hc (by simp [z])) e⟩) (fun _ _ e=>e) (fun _ _ _ e=>e) (fun b ps e=>⟨#[],by rw [e];simp⟩) (fun m hm=>?_) (fun b u e=>?_) I.bare
 ·have e:b=it:=by simpa using hb
  subst e
  exact ⟨h1,hL,h2,h3⟩
 ·obtain ⟨o,es,ep,ho,r⟩:=hm
  exact ⟨o,es,ep,k _ o (Ne.symm hL) ho,r⟩
 ·refine (I.hok b u e).stay (fun c v hc q=>k c v ?_ q) (fun _ q=>q) fun _ _ q=>q
  rcases hc with z | z
  ·rw [z];exact nit b u e
  ·exact nit c _ z
theorem Inv.tok (I:Inv X pins σ H s) (t:Nat):Inv X pins σ H { s with toks:=t }:=I.un (h':=s.heap) (t':=t) Un.refl I.hok
theorem Inv.kept {t':Nat} (I:Inv X pins σ H s) (k:∀ b u,s.heap.get? b=some u→h'.get? b=some u):Inv X pins σ H { s with heap:=h',toks:=t' }:=I.un (Un.kept k) (I.hok.kept k)
theorem Inv.laid {a:Addr} {o:HO} {t':Nat} (I:Inv X pins σ H s) (k:∀ b u,s.heap.get? b=some u→h'.get? b=some u) (hp:s.heap.objs.size≤a) (new:ObjOk X.prog X.w (upd H a o) h' a o) :
  Inv X pins σ (upd H a o) { s with heap:=h',toks:=t' }:=I.un (Un.laid k hp (I.hok.fresh hp)) (I.hok.laid k hp new)
theorem Inv.write {x e:Addr} {o:HO} {t':Nat} (I:Inv X pins σ H s) (mu:Mut (H x)) (he:e=x∨H e=some (.own x)) (k:∀ b u,b≠e→s.heap.get? b=some u→h'.get? b=some u) (heo:∃ u,h'.get? e=some u)
  (new:ObjOk X.prog X.w (upd H x o) h' x o):Inv X pins σ (upd H x o) { s with heap:=h',toks:=t' }:=I.un (Un.write mu he k heo) (I.hok.write mu he k heo new)
theorem Inv.weak {σ':List (Option V)} (I:Inv X pins σ H s) (hl:σ'.length=σ.length) (w:∀ (i:Nat) v,σ'[i]?=some (some v)→σ[i]?=some (some v)):Inv X pins σ' H s:=
 ⟨I.ok,I.os,I.bare,I.base,let ⟨m,hn,hl'⟩:=I.loc;⟨m,hn,fun i x v e1 e2 e3=>hl' i x v e1 (w i v e2) e3⟩,I.cell,I.free,I.freeC,I.pin,I.hok,hl.trans I.len⟩
theorem Inv.pins_of {pins':List (Addr×Obj)} (I:Inv X pins σ H s) (h:∀ p∈pins',s.heap.get? p.1=some p.2∧H p.1=none∧p.1≠X.env.locals∧p.1∉X.fs∧∀ v,p.2.data≠.cell v):Inv X pins' σ H s:=
 ⟨I.ok,I.os,I.bare,I.base,I.loc,I.cell,I.free,I.freeC,fun p hp=>(List.mem_append.mp hp).elim (fun z=>I.pin p (List.mem_append_left _ z)) (h p),I.hok,I.len⟩
theorem qbC {N:List Str} (hN:N.Nodup) {i j:Nat} {x:Str} (a:N[i]?=some x) (b:N[j]?=some x):i=j:=by
 obtain ⟨h1,e1⟩:=List.getElem?_eq_some_iff.mp a
 obtain ⟨h2,e2⟩:=List.getElem?_eq_some_iff.mp b
 exact (List.getElem_inj hN).mp (e1.trans e2.symm)
theorem qbT {M:Model} {A:Around} {E:Value→Shared→Prop} {i:Nat} {x:Str} {v:V} {u:Value} {Q:Unit→Shared→Prop} (I:Inv X pins σ H s) (hN:X.N.Nodup) (hi:X.N[i]?=some x) (hx:Loc X.env.scope x) (r:RelV v u)
  (h:∀ s',Inv X pins (σ.set i (some v)) H s'→(∃ a,Heap.SameBut a s.heap s'.heap∧(a=X.env.locals∨X.env.cells.lookup x=some a))→Q () s') (hf:X.fn x=true∨X.env.scope.names.lookup x=some .local:=by first | exact .inl rfl | exact .inr rfl | assumption):wpAny M A (storeName X.env x u) Q E s:=by
 obtain ⟨m,hn,hl⟩:=id I.loc
 have hcls:(X.env.scope.kind==.class||(X.env.scope.kind==.module&&X.env.locals != X.env.globals))=false:=by rw [I.ok.kind];rfl
 have hiσ:i < σ.length:=by rw [I.len];exact (List.getElem?_eq_some_iff.mp hi).1
 have cne:=I.cne
 have tracked:∀ {a:Addr} {h':Heap},(∃ o,s.heap.get? a=some o∧H a=none)→Heap.SameBut a s.heap h'→HOk X.prog X.w H h':=fun {a h'} ha hs b ob e=>by
  obtain ⟨_,_,hfree⟩:=ha
  refine (I.hok b ob e).stay (fun c w' hc q=>(hs.2 c ?_).trans q) (fun _ q=>q) fun _ _ q=>q
  rintro rfl
  rcases hc with rfl | hc
  ·rw [hfree] at e;cases e
  ·rw [hfree] at hc;cases hc
 rcases hx with hk | hk
 ·refine wpAny_storeName_local hk hn (fun h' hn' hs=>?_) hcls
  obtain ⟨oL,_,_,hoL,_⟩:=id hn
  refine h _ ⟨I.ok,I.os,I.bare,⟨fun b o e n hb hx=>?_,fun b o e n hb hx=>?_,I.base.free,fun b o e hx=>?_,I.base.tups,I.base.frzs,I.base.tbls⟩,⟨_,hn',fun j y v' e1 e2 e3=>?_⟩,fun y c e=>?_,I.free,I.freeC,fun p hp=>?_,tracked ⟨oL,hoL,I.free⟩ hs,by simpa using I.len⟩ ⟨_,hs,.inl rfl⟩
  ·exact (hs.2 b (Nat.ne_of_lt (Nat.lt_of_lt_of_le (Heap.lt_size e) I.ok.above))).trans (I.base.keep b o e n hb hx)
  ·obtain ⟨sl,e1⟩:=I.base.slot b o e n hb hx
   exact ⟨sl,(hs.2 b (Nat.ne_of_lt (Nat.lt_of_lt_of_le (Heap.lt_size e) I.ok.above))).trans e1⟩
  ·obtain ⟨o',e1⟩:=I.base.there b o e hx
   exact ⟨o',(hs.2 b (Nat.ne_of_lt (Nat.lt_of_lt_of_le (Heap.lt_size e) I.ok.above))).trans e1⟩
  ·by_cases hj:j=i
   ·subst hj
    rw [hi] at e1;cases e1
    rw [List.getElem?_set_self hiσ] at e2
    cases e2
    exact ⟨u,r,.inl ⟨hk,by simp⟩⟩
   ·rw [List.getElem?_set_ne (Ne.symm hj)] at e2
    obtain ⟨u',r',q⟩:=hl j y v' e1 e2 e3
    refine ⟨u',r',?_⟩
    rcases q with ⟨k,e⟩ | ⟨k,c,e,z⟩
    ·refine .inl ⟨k,?_⟩
     have:y≠x:=fun e=>hj (qbC hN e1 (e ▸ hi))
     simp [this,e]
    ·exact .inr ⟨k,c,e,z.sameBut hs (cne y c e)⟩
  ·obtain ⟨w',z⟩:=I.cell y c e
   exact ⟨w',z.sameBut hs (cne y c e)⟩
  ·obtain ⟨e,n,ne,nf,d⟩:=I.pin p hp
   exact ⟨(hs.2 p.1 ne).trans e,n,ne,nf,d⟩
 ·have hfn:X.fn x=true:=by
   rcases hf with z | z
   ·exact z
   ·rw [z] at hk;cases hk
  obtain ⟨c,hc⟩:=I.ok.has x (.inl hk)
  obtain ⟨w',z⟩:=I.cell x c hc
  refine wpAny_storeName_cell I.ok.kind hk hc z (fun h' hc' hs=>?_)
  obtain ⟨oc,hoc,hocd⟩:=id z
  refine h { s with heap:=h' } ⟨I.ok,I.os,I.bare,⟨fun b o e n hb hx=>?_,fun b o e n hb hx=>?_,I.base.free,fun b o e hx=>?_,I.base.tups,I.base.frzs,I.base.tbls⟩,⟨m,hn.sameBut hs (Ne.symm (cne x c hc)),fun j y v' e1 e2 e3=>?_⟩,fun y c' e=>?_,I.free,I.freeC,fun p hp=>?_,tracked ⟨oc,hoc,I.freeC x c hc⟩ hs,by simpa using I.len⟩ ⟨c,hs,.inr hc⟩
  ·exact (hs.2 b (Nat.ne_of_lt (Nat.lt_of_lt_of_le (Heap.lt_size e) (I.ok.cab x c hfn hc)))).trans (I.base.keep b o e n hb hx)
  ·obtain ⟨sl,e1⟩:=I.base.slot b o e n hb hx
   exact ⟨sl,(hs.2 b (Nat.ne_of_lt (Nat.lt_of_lt_of_le (Heap.lt_size e) (I.ok.cab x c hfn hc)))).trans e1⟩
  ·obtain ⟨o',e1⟩:=I.base.there b o e hx
   exact ⟨o',(hs.2 b (Nat.ne_of_lt (Nat.lt_of_lt_of_le (Heap.lt_size e) (I.ok.cab x c hfn hc)))).trans e1⟩
  ·by_cases hj:j=i
   ·subst hj
    rw [hi] at e1;cases e1
    rw [List.getElem?_set_self hiσ] at e2
    cases e2
    exact ⟨u,r,.inr ⟨.inl hk,c,hc,hc'⟩⟩
   ·rw [List.getElem?_set_ne (Ne.symm hj)] at e2
    obtain ⟨u',r',q⟩:=hl j y v' e1 e2 e3
    refine ⟨u',r',?_⟩
    rcases q with q | ⟨k,c',e,z'⟩
    ·exact .inl q
    ·refine .inr ⟨k,c',e,z'.sameBut hs ?_⟩
     rintro rfl
     exact hj (qbC hN e1 (I.ok.inj _ _ _ e hc ▸ hi))
  ·by_cases hcc:c'=c
   ·subst hcc;exact ⟨_,hc'⟩
   ·obtain ⟨w2,z2⟩:=I.cell y c' e
    exact ⟨w2,z2.sameBut hs hcc⟩
  ·obtain ⟨e,n,ne,nf,d⟩:=I.pin p hp
   refine ⟨(hs.2 p.1 ?_).trans e,n,ne,nf,d⟩
   intro q
   rw [q,hoc] at e
   have q':oc=p.2:=Option.some.inj e
   exact d w' (by rw [← q'];exact hocd)
theorem qaw {M:Model} {A:Around} {E:Value→Shared→Prop} {i:Nat} {x:Str} {v:V} {u:Value} {Q:Unit→Shared→Prop} (I:Inv X pins σ H s) (hN:X.N.Nodup) (hi:X.N[i]?=some x) (hx:Loc X.env.scope x) (r:RelV v u)
  (h:∀ s',Inv X pins (σ.set i (some v)) H s'→Q () s') (hf:X.fn x=true∨X.env.scope.names.lookup x=some .local:=by first | exact .inl rfl | exact .inr rfl | assumption):wpAny M A (storeName X.env x u) Q E s:=
 qbT I hN hi hx r (fun s' I' _=>h s' I') hf
theorem Inv.call' {s':Shared} {ch:List Addr} (I:Inv X pins σ H s) (ho:s'.os=s.os) (u:Un (frs X.stack) ch H H' s.heap s'.heap) (hok:HOk X.prog X.w H' s'.heap) (hg:AllBare s'.gens)
  (hch:∀ b∈ch,(b∈X.ex∨X.s₀.heap.objs.size≤b)∧b≠X.env.locals∧(∀ x c,X.env.cells.lookup x=some c→c≠b)∧∀ p∈X.pn++pins,p.1≠b):Inv X pins σ H' s':=by
 obtain ⟨h',g',d',t',o'⟩:=s'
 have e:o'=s.os:=ho
 subst e
 exact I.call (g':=g') (t':=t') (d':=d') u hok hg hch
end
abbrev XK:=Value→Option Addr→Hp→Prop
abbrev St:=List (Option V)
abbrev VK:=V→Hp→Prop
abbrev TE:=St→Hp→VK→Prop
abbrev TT:=St→Hp→(Bool→Hp→Prop)→Prop
abbrev TA:=St→Hp→(List V→Hp→Prop)→Prop
structure Ends where
 nx:St→Hp→Prop
 rt:VK
 bk:St→Hp→Prop:=fun _ _=>False
 ct:St→Hp→Prop:=fun _ _=>False
abbrev TS:=Ends→St→Hp→Prop
def EP (X:Cx) (pins:List (Addr×Obj)) (σ:St) (Q:VK) (u:Value) (s':Shared):Prop:=∃ v H',Inv X pins σ H' s'∧RelV v u∧Q v H'
def TP (X:Cx) (pins:List (Addr×Obj)) (σ:St) (Q:Bool→Hp→Prop) (b:Bool) (s':Shared):Prop:=∃ H',Inv X pins σ H' s'∧Q b H'
def AP (X:Cx) (pins:List (Addr×Obj)) (σ:St) (Q:List V→Hp→Prop) (us:List Value) (s':Shared):Prop:=∃ vs H',Inv X pins σ H' s'∧Vals vs us∧Q vs H'
def SP (X:Cx) (pins:List (Addr×Obj)) (D:Ends) (f:Flow) (s':Shared):Prop:=
 match f with
 | .next=>∃ σ' H',Inv X pins σ' H' s'∧D.nx σ' H'
 | .brk=>∃ σ' H',Inv X pins σ' H' s'∧D.bk σ' H'
 | .cont=>∃ σ' H',Inv X pins σ' H' s'∧D.ct σ' H'
 | .ret u=>∃ v σ' H',Inv X pins σ' H' s'∧RelV v u∧D.rt v H'
def PE (X:Cx) (e:Expr) (t:TE):Prop:=
 ∀ (pins:List (Addr×Obj)) (s:Shared) (σ:St) (H:Hp) (Q:VK),Inv X pins σ H s→t σ H Q→wpAny (model X.prog X.w) X.A (eval e X.env) (EP X pins σ Q) X.xe s
def PT (X:Cx) (e:Expr) (t:TT):Prop:=
 ∀ (pins:List (Addr×Obj)) (s:Shared) (σ:St) (H:Hp) (Q:Bool→Hp→Prop),Inv X pins σ H s→t σ H Q→wpAny (model X.prog X.w) X.A (isTrue e X.env (eval e X.env)) (TP X pins σ Q) X.xe s
def PW (X:Cx) (e:Expr) (t:TT):Prop:=
 ∀ (whole:Sem Value) (pins:List (Addr×Obj)) (s:Shared) (σ:St) (H:Hp) (Q:Bool→Hp→Prop),Inv X pins σ H s→t σ H Q→wpAny (model X.prog X.w) X.A (isTrue e X.env whole) (TP X pins σ Q) X.xe s
theorem PW.pt {X:Cx} {e:Expr} {t:TT} (h:PW X e t):PT X e t:=h _
def PA (X:Cx) (es:List Expr) (t:TA):Prop:=
 ∀ (pos:Pos) (pins:List (Addr×Obj)) (s:Shared) (σ:St) (H:Hp) (Q:List V→Hp→Prop),Inv X pins σ H s→t σ H Q→wpAny (model X.prog X.w) X.A (spliced (backTo pos (starEach es X.env))) (AP X pins σ Q) X.xe s
def PS (X:Cx) (st:Stmt) (t:TS):Prop:=
 ∀ (pins:List (Addr×Obj)) (s:Shared) (σ:St) (H:Hp) (D:Ends),Inv X pins σ H s→t D σ H→wpAny (model X.prog X.w) X.A (exec st X.env) (SP X pins D) X.xe s
def PSs (X:Cx) (st:List Stmt) (t:TS):Prop:=
 ∀ (pins:List (Addr×Obj)) (s:Shared) (σ:St) (H:Hp) (D:Ends),Inv X pins σ H s→t D σ H→wpAny (model X.prog X.w) X.A (execs st X.env) (SP X pins D) X.xe s
theorem thn {α:Type} {t:Sem α} {Q Q':α→Shared→Prop} {M:Model} {A:Around} {E:Value→Shared→Prop} {s:Shared} (h:wpAny M A t Q E s) (hQ:∀ a s,Q a s→Q' a s):wpAny M A t Q' E s:=wpAny_mono h hQ fun _ _ x=>x
end L2
namespace L2
open PySem PySem.Spec PyProof.Rows
section
variable {X:Cx}
def qbr (i:Nat):TE:=fun σ H Q=>∃ v,σ[i]?=some (some v)∧Q v H
def tC (v:V):TE:=fun _ H Q=>Q v H
theorem pe_var {i:Nat} {x:Str} {pos:Pos} (hN:X.N[i]?=some x) (hv:Vis X.env.scope x) (hd:(x==("__debug__":Str))=false:=by decide) (hcd:(x==("__classdict__":Str))=false:=by decide):PE X (.Name x pos) (qbr i):=by
 intro pins s σ H Q I h
 obtain ⟨v,e,h⟩:=h
 obtain ⟨m,hn,hl⟩:=I.loc
 obtain ⟨u,r,l⟩:=hl i x v hN e hv
 have fin:EP X pins σ Q u s:=⟨v,H,I,r,h⟩
 rcases l with ⟨hk,hm⟩ | ⟨hk,c,hc,hcell⟩
 ·exact wpAny_Name (wpAny_loadName_local I.ok.kind hk hn hm fin) hd
 ·rcases hk with hk | hk
  ·exact wpAny_Name (wpAny_loadName_cell I.ok.kind hk hc hcell fin) hd
  ·exact wpAny_Name (wpAny_loadName_free I.ok.kind hk hc hcell fin hcd) hd
theorem qg {i j pos}:PE X (.Constant (.int i) j pos) (tC (.int i)):=fun _ _ _ H _ I h=>wpAny_Constant_int ⟨.int i,H,I.tok _,⟨_,rfl⟩,h⟩
theorem jI {b j pos}:PE X (.Constant (.bool b) j pos) (tC (.bl b)):=fun _ _ _ H _ I h=>Constant_bool ⟨.bl b,H,I,rfl,h⟩
theorem qcL {j pos}:PE X (.Constant .none j pos) (tC .non):=fun _ _ _ H _ I h=>Constant_none ⟨.non,H,I,rfl,h⟩
theorem zq {x j pos}:PE X (.Constant (.str x) j pos) (tC (.str x)):=fun _ _ _ H _ I h=>Calls.Constant_str ⟨.str x,H,I.tok _,⟨_,rfl⟩,h⟩
def Gl (X:Cx) (x:Str):Prop:=X.env.kindOf x=some .globalImplicit
theorem qab {E:Value→Shared→Prop} {pins:List (Addr×Obj)} {s:Shared} {σ:St} {H:Hp} {x:Str} {u:Value} {pos:Pos} {Q:Value→Shared→Prop} (I:Inv X pins σ H s) (hg:Gl X x) (hm:X.mg x=some u) (h:Q u s)
  (hd:(x==("__debug__":Str))=false:=by decide):wpAny (model X.prog X.w) X.A (eval (.Name x pos) X.env) Q E s:=
 Calls.Name_function_global I.ok.kind hg (Calls.loadGlobal_global (by rw [I.ok.glob];exact I.mod.glob.keeps I.bk) hm h) hd
theorem qa4 {E:Value→Shared→Prop} {pins:List (Addr×Obj)} {s:Shared} {σ:St} {H:Hp} {x:Str} {u:Value} {pos:Pos} {Q:Value→Shared→Prop} (I:Inv X pins σ H s) (hg:Gl X x) (hm:X.mg x=none) (hv:bootBuiltins x=some u) (h:Q u s)
  (hn:x≠"__name__":=by decide) (hd:(x==("__debug__":Str))=false:=by decide):wpAny (model X.prog X.w) X.A (eval (.Name x pos) X.env) Q E s:=by
 obtain ⟨mb,h1,h2⟩:=I.mod.blt
 exact Calls.Name_function_global I.ok.kind hg (Calls.loadGlobal_builtin (by rw [I.ok.glob];exact I.mod.glob.keeps I.bk) hm (by rw [I.ok.blt];exact h1.keeps I.bk) ((h2 x hn).trans hv) h) hd
theorem qcv {x:Str} {v:V} {u:Value} {pos:Pos} (hg:Gl X x) (hm:X.mg x=some u) (r:RelV v u) (hd:(x==("__debug__":Str))=false:=by decide):PE X (.Name x pos) (tC v):=
 fun _ _ _ H _ I h=>qab I hg hm ⟨v,H,I,r,h⟩ hd
theorem jC {x:Str} {v:V} {u:Value} {pos:Pos} (hg:Gl X x) (hm:X.mg x=none) (hv:bootBuiltins x=some u) (r:RelV v u) (hn:x≠"__name__":=by decide) (hd:(x==("__debug__":Str))=false:=by decide):PE X (.Name x pos) (tC v):=
 fun _ _ _ H _ I h=>qa4 I hg hm hv ⟨v,H,I,r,h⟩ hn hd
variable {a b:Expr} {ta tb:TE} {pos:Pos}
def tB (t:TE):TT:=fun σ H Q=>t σ H fun x H1=>∃ c,x=.bl c∧Q c H1
theorem qI {e:Expr} {t:TE} (h:PE X e t) (he:∀ whole,isTrue e X.env whole=(do let v ← whole;standAt e.pos;holding [v] (truthy v)):=by intro _;rfl):PT X e (tB t):=by
 intro pins s σ H Q I hw
 refine isTrue_plain (thn (h pins s σ H _ I hw) fun v s1 ⟨x,H1,I1,r1,q1⟩=>?_) (he _)
 obtain ⟨d,rfl,q⟩:=q1
 cases r1
 exact wpAny_truthy_bool ⟨H1,I1,q⟩
variable {tA tB':TT} {rest:List Expr}
def qgB (t u:TT):TT:=fun σ H Q=>t σ H fun c H1=>if c=true then u σ H1 Q else Q false H1
def tOr (t u:TT):TT:=fun σ H Q=>t σ H fun c H1=>if c=true then Q true H1 else u σ H1 Q
def qgC (t:TT):TT:=fun σ H Q=>t σ H fun c H1=>Q (!c) H1
theorem qbD (ha:PT X a tA):PW X (.BoolOp .And [a] pos) tA:=by
 intro wh pins s σ H Q I h
 refine isTrue_and (thn (ha pins s σ H Q I h) fun c s1 e=>?_)
 cases c with
 | true=>exact isTrue_and_nil e
 | false=>exact e
theorem qap (ha:PT X a tA):PW X (.BoolOp .Or [a] pos) tA:=by
 intro wh pins s σ H Q I h
 refine isTrue_or (thn (ha pins s σ H Q I h) fun c s1 e=>?_)
 cases c with
 | false=>exact isTrue_or_nil e
 | true=>exact e
theorem qcM (ha:PT X a tA) (hb:PW X (.BoolOp .And (b::rest) pos) tB'):PW X (.BoolOp .And (a::b::rest) pos) (qgB tA tB'):=by
 intro wh pins s σ H Q I h
 refine isTrue_and (thn (ha pins s σ H _ I h) fun c s1 ⟨H1,I1,q1⟩=>?_)
 cases c with
 | true=>exact hb wh pins s1 σ H1 Q I1 q1
 | false=>exact ⟨H1,I1,q1⟩
theorem qaU (ha:PT X a tA) (hb:PW X (.BoolOp .Or (b::rest) pos) tB'):PW X (.BoolOp .Or (a::b::rest) pos) (tOr tA tB'):=by
 intro wh pins s σ H Q I h
 refine isTrue_or (thn (ha pins s σ H _ I h) fun c s1 ⟨H1,I1,q1⟩=>?_)
 cases c with
 | true=>exact ⟨H1,I1,q1⟩
 | false=>exact hb wh pins s1 σ H1 Q I1 q1
theorem qZ (ha:PT X a tA):PT X (.UnaryOp .Not a pos) (qgC tA):=by
 intro pins s σ H Q I h
 exact isTrue_not (ha pins s σ H (fun c H1=>Q (!c) H1) I h)
def qe2 (ta tb:TE):TE:=fun σ H Q=>ta σ H fun x H1=>∃ c,x=.bl c∧if c=true then tb σ H1 Q else Q (.bl false) H1
def qgD (ta tb:TE):TE:=fun σ H Q=>ta σ H fun x H1=>∃ c,x=.bl c∧if c=true then Q (.bl true) H1 else tb σ H1 Q
def qfx (ta:TE):TE:=fun σ H Q=>ta σ H fun x H1=>∃ c,x=.bl c∧Q (.bl (!c)) H1
theorem qaq {op} {t:TE} (h:PE X a t):PE X (.BoolOp op [a] pos) t:=fun pins s σ H Q I hw=>BoolOp_one (h pins s σ H Q I hw)
theorem qar (ha:PE X a ta) (hb:PE X (.BoolOp .And (b::rest) pos) tb):PE X (.BoolOp .And (a::b::rest) pos) (qe2 ta tb):=by
 intro pins s σ H Q I h
 refine BoolOp_and (thn (ha pins s σ H _ I h) fun v s1 ⟨x,H1,I1,r1,q1⟩=>?_)
 obtain ⟨c,rfl,q1⟩:=q1
 cases r1
 refine wpAny_truthy_bool ?_
 cases c with
 | true=>exact hb pins s1 σ H1 Q I1 q1
 | false=>exact ⟨.bl false,H1,I1,rfl,q1⟩
theorem pe_or (ha:PE X a ta) (hb:PE X (.BoolOp .Or (b::rest) pos) tb):PE X (.BoolOp .Or (a::b::rest) pos) (qgD ta tb):=by
 intro pins s σ H Q I h
 refine BoolOp_or (thn (ha pins s σ H _ I h) fun v s1 ⟨x,H1,I1,r1,q1⟩=>?_)
 obtain ⟨c,rfl,q1⟩:=q1
 cases r1
 refine wpAny_truthy_bool ?_
 cases c with
 | false=>exact hb pins s1 σ H1 Q I1 q1
 | true=>exact ⟨.bl true,H1,I1,rfl,q1⟩
theorem qcN (ha:PE X a ta):PE X (.UnaryOp .Not a pos) (qfx ta):=by
 intro pins s σ H Q I h
 refine UnaryOp_ (thn (ha pins s σ H _ I h) fun v s1 ⟨x,H1,I1,r1,q1⟩=>?_)
 obtain ⟨c,rfl,q1⟩:=q1
 cases r1
 exact not_of (wpAny_truthy_bool ⟨.bl (!c),H1,I1,rfl,q1⟩)
def tIf (t:TT) (ta tb:TE):TE:=fun σ H Q=>t σ H fun c H1=>if c=true then ta σ H1 Q else tb σ H1 Q
theorem qcO {c:Expr} (hc:PT X c tA) (ha:PE X a ta) (hb:PE X b tb):PE X (.IfExp c a b pos) (tIf tA ta tb):=by
 intro pins s σ H Q I h
 refine wpAny_IfExp (thn (hc pins s σ H _ I h) fun d s1 ⟨H1,I1,q1⟩=>?_)
 cases d with
 | true=>exact ha pins s1 σ H1 Q I1 q1
 | false=>exact hb pins s1 σ H1 Q I1 q1
end
end L2
namespace L2
open PySem PySem.Spec PyProof.Rows
def SqL (K:PySem.W.Frag) (H:Hp) (a:Addr) (xs:List V):Prop:=
 Rd H a (.lst xs) ∨
  ∃ (o:Obj) (its:Array Value) (n:Nat),K.lookup a=some o∧o.cls=.type "list"∧o.dict=none∧o.data=.seq its n∧its.size≤sizeLine∧Vals xs its.toList
def SqT (K:PySem.W.Frag) (H:Hp) (a:Addr) (xs:List V):Prop:=
 Rd H a (.tup xs) ∨
  ∃ (o:Obj) (its:Array Value) (n:Nat),K.lookup a=some o∧o.cls=.type "tuple"∧o.data=.seq its n∧its.size≤sizeLine∧Vals xs its.toList
def absV:Value→Option V
 | .none=>some .non
 | .bool b=>some (.bl b)
 | .int i _=>some (.int i)
 | .str x _=>some (.str x)
 | .bytes b _=>some (.byt b)
 | .float b _=>some (.flt b)
 | .ref a=>some (.ref a)
 | .type n=>some (.ty n)
 | _=>none
theorem RelV.abs {x:V} {u:Value} (r:RelV x u):absV u=some x:=by
 cases x with
 | non=>cases r;rfl
 | bl _=>cases r;rfl
 | int _=>obtain ⟨t,rfl⟩:=r;rfl
 | str _=>obtain ⟨t,rfl⟩:=r;rfl
 | byt _=>obtain ⟨t,rfl⟩:=r;rfl
 | flt _=>obtain ⟨t,rfl⟩:=r;rfl
 | ref _=>cases r;rfl
 | ty _=>cases r;rfl
theorem RelV.inj {x y:V} {u:Value} (r:RelV x u) (q:RelV y u):x=y:=Option.some.inj (r.abs.symm.trans q.abs)
theorem Vals.inj:∀ {xs ys:List V} {us:List Value},Vals xs us→Vals ys us→xs=ys
 | _,_,_,.nil,.nil=>rfl
 | _,_,_,.cons r t,.cons r' t'=>by rw [r.inj r',Vals.inj t t']
section
variable {X:Cx} {pins:List (Addr×Obj)} {σ:St} {H:Hp} {s:Shared} {a:Addr} {xs ys:List V}
theorem SqL.of {K:PySem.W.Frag} (h:H a=some (.lst xs)):SqL K H a xs:=.inl (.inl h)
theorem SqT.of {K:PySem.W.Frag} (h:H a=some (.tup xs)):SqT K H a xs:=.inl (.inl h)
theorem Inv.list (I:Inv X pins σ H s) (h:SqL X.K H a xs):∃ its:List Value,Vals xs its∧PlainL s.heap a its.toArray∧xs.length≤sizeLine:=by
 rcases h with h | ⟨o,its,n,hk,hc,hd,hs,hz,r⟩
 ·obtain ⟨z,its,n,r,e⟩:=h.ok I.hok
  exact ⟨its,r,⟨_,n,e,rfl,rfl,rfl⟩,z⟩
 ·refine ⟨its.toList,r,⟨o,n,I.kIn a o hk,hc,hd,by simpa using hs⟩,?_⟩
  have e:=r.length
  simp only [Array.length_toList] at e
  omega
theorem Inv.tuple (I:Inv X pins σ H s) (h:SqT X.K H a xs):∃ its:List Value,Vals xs its∧IsTup s.heap a its.toArray∧xs.length≤sizeLine:=by
 rcases h with h | ⟨o,its,n,hk,hc,hs,hz,r⟩
 ·obtain ⟨z,its,r,p⟩:=h.ok I.hok
  exact ⟨its,r,p,z⟩
 ·refine ⟨its.toList,r,⟨o,I.kIn a o hk,hc,n,by simpa using hs⟩,?_⟩
  have e:=r.length
  simp only [Array.length_toList] at e
  omega
theorem Inv.list_inj (I:Inv X pins σ H s) (h:SqL X.K H a xs) (h':SqL X.K H a ys):xs=ys:=by
 obtain ⟨its,r,⟨o,n,e,_,_,d⟩,_⟩:=I.list h
 obtain ⟨its',r',⟨o',n',e',_,_,d'⟩,_⟩:=I.list h'
 rw [e] at e';cases e'
 rw [d] at d'
 injection d' with d1 _
 have:its=its':=by simpa using congrArg Array.toList d1
 subst this
 exact r.inj r'
theorem Inv.tuple_inj (I:Inv X pins σ H s) (h:SqT X.K H a xs) (h':SqT X.K H a ys):xs=ys:=by
 obtain ⟨its,r,⟨o,e,_,n,d⟩,_⟩:=I.tuple h
 obtain ⟨its',r',⟨o',e',_,n',d'⟩,_⟩:=I.tuple h'
 rw [e] at e';cases e'
 rw [d] at d'
 injection d' with d1 _
 have:its=its':=by simpa using congrArg Array.toList d1
 subst this
 exact r.inj r'
end
abbrev Cx.wish (X:Cx) (E:Value→Shared→Prop):Cx:={ X with xe:=E }
abbrev Cx.nox (X:Cx):Cx:=X.wish fun _ _=>False
theorem Cx.Ok.wish {X:Cx} (ok:X.Ok) (E:Value→Shared→Prop):(X.wish E).Ok:=
 ⟨ok.mod,ok.kind,ok.glob,ok.blt,ok.above,ok.inj,ok.has,ok.cab,ok.hd,ok.frames,ok.stk,ok.exf,ok.bs,ok.bsz,ok.noex,ok.exfs,ok.funs,ok.frf⟩
theorem Cx.Ok.unwish {X:Cx} {E:Value→Shared→Prop} (ok:(X.wish E).Ok):X.Ok:=
 ⟨ok.mod,ok.kind,ok.glob,ok.blt,ok.above,ok.inj,ok.has,ok.cab,ok.hd,ok.frames,ok.stk,ok.exf,ok.bs,ok.bsz,ok.noex,ok.exfs,ok.funs,ok.frf⟩
section
variable {X:Cx} {pins:List (Addr×Obj)} {σ:St} {H:Hp} {s:Shared} {E:Value→Shared→Prop}
theorem Inv.wish (I:Inv X pins σ H s) (E:Value→Shared→Prop):Inv (X.wish E) pins σ H s:=⟨I.ok.wish E,I.os,I.bare,I.base,I.loc,I.cell,I.free,I.freeC,I.pin,I.hok,I.len⟩
theorem Inv.unwish (I:Inv (X.wish E) pins σ H s):Inv X pins σ H s:=⟨I.ok.unwish,I.os,I.bare,I.base,I.loc,I.cell,I.free,I.freeC,I.pin,I.hok,I.len⟩
theorem SP.unwish {D:Ends} {f:Flow} {s':Shared} (h:SP (X.wish E) pins D f s'):SP X pins D f s':=by
 cases f with
 | next=>obtain ⟨σ',H',I,q⟩:=h;exact ⟨σ',H',I.unwish,q⟩
 | brk=>obtain ⟨σ',H',I,q⟩:=h;exact ⟨σ',H',I.unwish,q⟩
 | cont=>obtain ⟨σ',H',I,q⟩:=h;exact ⟨σ',H',I.unwish,q⟩
 | ret u=>obtain ⟨v,σ',H',I,r,q⟩:=h;exact ⟨v,σ',H',I.unwish,r,q⟩
theorem PSs.nox {st:List Stmt} {t:TS} (h:PSs X.nox st t):PSs X st t:=fun pins s σ H D I hw =>
 wpAny_mono (h pins s σ H D (I.wish _) hw) (fun _ _ q=>q.unwish) fun _ _ z=>False.elim z
end
section
variable {X:Cx} {st:Stmt} {rest:List Stmt} {t u:TS} {e:Expr} {te:TE} {pos:Pos}
def qe3:TS:=fun D σ H=>D.nx σ H
def qfy (t u:TS):TS:=fun D σ H=>t { D with nx:=u D } σ H
theorem qr:PSs X [] qe3:=fun _ _ σ H _ I h=>wpAny_execs_nil ⟨σ,H,I,h⟩
theorem qe (h1:PS X st t) (h2:PSs X rest u):PSs X (st::rest) (qfy t u):=by
 intro pins s σ H D I h
 refine wpAny_execs_cons (thn (h1 pins s σ H { D with nx:=u D } I h) fun f s1 q=>?_)
 cases f with
 | next =>
  obtain ⟨σ',H',I',q⟩:=q
  exact h2 pins s1 σ' H' D I' q
 | ret v=>exact q
 | brk=>exact q
 | cont=>exact q
theorem qf (h1:PS X st t):PSs X [st] t:=by
 intro pins s σ H D I h
 refine wpAny_execs_cons (thn (h1 pins s σ H D I h) fun f s1 q=>?_)
 cases f with
 | next=>exact wpAny_execs_nil q
 | ret v=>exact q
 | brk=>exact q
 | cont=>exact q
theorem Inv.quiet {pins:List (Addr×Obj)} {σ:St} {H:Hp} {s:Shared} (I:Inv X pins σ H s):interactive X.env=false:=by simp [interactive,I.ok.kind]
def qef (te:TE):TS:=fun D σ H=>te σ H fun _ H1=>D.nx σ H1
theorem qL (he:PE X e te) (hs:swapsWith e none pos.line X.env=pure false:=by rfl):PS X (.Expr e pos) (qef te):=by
 intro pins s σ H D I h
 exact wpAny_Expr_any (thn (he pins s σ H _ I h) fun v s1 ⟨x,H1,I1,r1,q1⟩=>⟨σ,H1,I1,q1⟩) I.quiet hs
def qf4 (te:TE):TS:=fun D σ H=>te σ H D.rt
theorem qm (he:PE X e te):PS X (.Return (some e) pos) (qf4 te):=by
 intro pins s σ H D I h
 exact wpAny_Return_some (thn (he pins s σ H _ I h) fun v s1 ⟨x,H1,I1,r1,q1⟩=>⟨x,σ,H1,I1,r1,q1⟩)
def tRetN:TS:=fun D _ H=>D.rt .non H
def qgg (c:TT) (t u:TS):TS:=fun D σ H=>c σ H fun b H1=>if b=true then t D σ H1 else u D σ H1
theorem qO {c:Expr} {a b:List Stmt} {tc:TT} (hc:PT X c tc) (ha:PSs X a t) (hb:PSs X b u):PS X (.If c a b pos) (qgg tc t u):=by
 intro pins s σ H D I h
 refine wpAny_If (thn (hc pins s σ H _ I h) fun d s1 ⟨H1,I1,q1⟩=>?_)
 cases d with
 | true=>exact ha pins s1 σ H1 D I1 q1
 | false=>exact hb pins s1 σ H1 D I1 q1
def tNever:TS:=fun _ _ _=>False
theorem qaX:PS X st tNever:=fun _ _ _ _ _ _ h=>h.elim
end
abbrev TG:=V→St→Hp→(St→Hp→Prop)→Prop
abbrev TGs:=List V→St→Hp→(St→Hp→Prop)→Prop
def PG (X:Cx) (target:Expr) (t:TG):Prop:=
 ∀ (pins:List (Addr×Obj)) (s:Shared) (σ:St) (H:Hp) (v:V) (u:Value) (Q:St→Hp→Prop),Inv X pins σ H s→RelV v u→t v σ H Q →
  wpAny (model X.prog X.w) X.A (assign target X.env u) (fun _ s'=>∃ σ' H',Inv X pins σ' H' s'∧Q σ' H') X.xe s
def PGs (X:Cx) (ts:List Expr) (t:TGs):Prop:=
 ∀ (pins:List (Addr×Obj)) (s:Shared) (σ:St) (H:Hp) (vs:List V) (us:List Value) (Q:St→Hp→Prop),Inv X pins σ H s→Vals vs us→t vs σ H Q →
  wpAny (model X.prog X.w) X.A (assignInOrder ((assignEach ts X.env).map (·.2)) us) (fun _ s'=>∃ σ' H',Inv X pins σ' H' s'∧Q σ' H') X.xe s
abbrev qfz:=V→V→V→Hp→(Hp→Prop)→Prop
def qgh (X:Cx) (t:qfz):Prop:=
 ∀ (pins:List (Addr×Obj)) (s:Shared) (σ:St) (H:Hp) (o i v:V) (ov iv u:Value) (Q:Hp→Prop),Inv X pins σ H s→RelV o ov→RelV i iv→RelV v u→t o i v H Q →
  wpAny (model X.prog X.w) X.A (setItem ov iv u) (fun _ s'=>∃ H',Inv X pins σ H' s'∧Q H') X.xe s
abbrev TIp:=V→V→Hp→VK→Prop
def PIp (X:Cx) (op:Operator) (t:TIp):Prop:=
 ∀ (pins:List (Addr×Obj)) (s:Shared) (σ:St) (H:Hp) (x y:V) (v u:Value) (Q:VK),Inv X pins σ H s→RelV x v→RelV y u→t x y H Q →
  wpAny (model X.prog X.w) X.A (inplaceOp op v u) (EP X pins σ Q) X.xe s
section
variable {X:Cx} {pos:Pos}
def qbo (i:Nat):TG:=fun v σ H Q=>Q (σ.set i (some v)) H
theorem qt {i:Nat} {x:Str} (hN:X.N.Nodup) (hi:X.N[i]?=some x) (hx:Loc X.env.scope x) (hf:X.fn x=true∨X.env.scope.names.lookup x=some .local:=by first | exact .inl rfl | exact .inr rfl | assumption):PG X (.Name x pos) (qbo i):=by
 intro pins s σ H v u Q I r h
 exact wpAny_assign_Name (qaw I hN hi hx r (fun s' I'=>⟨_,H,I',h⟩) hf)
def qgE:TGs:=fun vs σ H Q=>vs=[]∧Q σ H
def qe4 (t:TG) (u:TGs):TGs:=fun vs σ H Q=>∃ v r,vs=v::r∧t v σ H fun σ' H'=>u r σ' H' Q
theorem zL:PGs X [] qgE:=by
 intro pins s σ H vs us Q I r h
 obtain ⟨e,h⟩:=h
 subst e
 cases r
 exact assignInOrder_nil ⟨σ,H,I,h⟩
theorem qS {e:Expr} {es:List Expr} {t:TG} {u:TGs} (h1:PG X e t) (h2:PGs X es u)
  (hs:(assignEach (e::es) X.env).map (·.2)=assign e X.env::(assignEach es X.env).map (·.2):=by rfl):PGs X (e::es) (qe4 t u):=by
 intro pins s σ H vs us Q I r h
 obtain ⟨v,vr,e1,h⟩:=h
 subst e1
 cases r with
 | cons r rr =>
  rw [hs]
  refine assignInOrder_cons (thn (h1 pins s σ H _ _ _ I r h) fun _ s1 ⟨σ1,H1,I1,q1⟩=>?_)
  exact h2 pins s1 σ1 H1 _ _ Q I1 rr q1
def qf5 (K:PySem.W.Frag) (n:Nat) (t:TGs):TG:=fun v σ H Q=>∃ a xs,v=.ref a∧SqT K H a xs∧xs.length=n∧t xs σ H Q
theorem qax {es:List Expr} {k:Nat} {t:TGs} {n:Nat} (hc:X.calm=true) (h:PGs X es t)
  (hn:(assignEach es X.env).length=n:=by rfl) (hst:(assignEach es X.env).findIdx? (·.1)=none:=by rfl):PG X (.Tuple es k pos) (qf5 X.K n t):=by
 intro pins s σ H v u Q I r hw
 obtain ⟨a,xs,e1,hq,hl,hw⟩:=hw
 subst e1
 cases r
 obtain ⟨its,rv,ht,hz⟩:=I.tuple hq
 refine assign_Tuple_tuple (I.ok.hd hc) ht (by simp [hn,← hl,rv.length]) hst fun h' hx=>?_
 have I1:Inv X pins σ H { s with heap:=h' }:=I.kept (t':=s.toks) fun b o e=>hx b o (Nat.ne_of_lt (Heap.lt_size e)) e
 exact h pins _ σ H xs _ Q I1 (by simpa using rv) hw
def qgF (to ti:TE) (t:qfz):TG:=fun v σ H Q=>to σ H fun o H1=>ti σ H1 fun i H2=>t o i v H2 fun H3=>Q σ H3
theorem qcP {o i:Expr} {to ti:TE} {t:qfz} (ho:PE X o to) (hi:PE X i ti) (hs:qgh X t)
  (ha:∀ v,assign (.Subscript o i pos) X.env v=(do
   let ov ← holding [v] (eval o X.env)
   let iv ← holding [v,ov] (eval i X.env)
   standAt pos
   holding [v,ov,iv] (setItem ov iv v)
   release [v,ov,iv] []):=by intro _;rfl):PG X (.Subscript o i pos) (qgF to ti t):=by
 intro pins s σ H v u Q I r h
 rw [ha]
 refine wpAny_bind (wpAny_holding (thn (ho pins s σ H _ I h) fun ov s1 ⟨x,H1,I1,r1,q1⟩=>?_))
 refine wpAny_bind (wpAny_holding (thn (hi pins s1 σ H1 _ I1 q1) fun iv s2 ⟨y,H2,I2,r2,q2⟩=>?_))
 refine wpAny_bind (wpAny_standAt (wpAny_bind (wpAny_holding (thn (hs pins s2 σ H2 x y v ov iv u _ I2 r1 r2 r q2) fun _ s3 ⟨H3,I3,q3⟩=>?_))))
 exact wpAny_release ⟨σ,H3,I3,q3⟩
def qe5 (te:TE) (g:TG):TS:=fun D σ H=>te σ H fun x H1=>g x σ H1 D.nx
theorem qbU {tg e:Expr} {te:TE} {g:TG} (he:PE X e te) (hg:PG X tg g) (hs:swapsWithSole [tg] e pos.line X.env=pure false:=by rfl) (hw:swappedStores [tg] e X.env=pure none:=by rfl)
  (h1:(assignEach [tg] X.env).map (·.2)=[assign tg X.env]:=by rfl):PS X (.Assign [tg] e pos) (qe5 te g):=by
 intro pins s σ H D I h
 refine wpAny_Assign_stores (thn (he pins s σ H _ I h) fun v s1 ⟨x,H1,I1,r1,q1⟩=>?_) hs hw
 rw [h1]
 exact thn (hg pins s1 σ H1 x v _ I1 r1 q1) fun _ s2 q=>q
theorem qw {i:Nat} {x:Str} {e:Expr} {te:TE} {pos':Pos} (hN:X.N.Nodup) (hi:X.N[i]?=some x) (hx:Loc X.env.scope x) (he:PE X e te) (hs:swapsWith e (some (.Name x pos')) pos.line X.env=pure false:=by rfl) (hf:X.fn x=true∨X.env.scope.names.lookup x=some .local:=by first | exact .inl rfl | exact .inr rfl | assumption) :
  PS X (.Assign [.Name x pos'] e pos) (qe5 te (qbo i)):=by
 intro pins s σ H D I h
 refine wpAny_Assign_Name (thn (he pins s σ H _ I h) fun v s1 ⟨y,H1,I1,r1,q1⟩=>?_) hs
 exact qaw I1 hN hi hx r1 (fun s2 I2=>⟨_,H1,I2,q1⟩) hf
def tAug (i:Nat) (te:TE) (ti:TIp):TS:=fun D σ H=>∃ x,σ[i]?=some (some x)∧te σ H fun y H1=>ti x y H1 fun z H2=>D.nx (σ.set i (some z)) H2
theorem ps_aug {i:Nat} {x:Str} {e:Expr} {te:TE} {op:Operator} {ti:TIp} {pos':Pos} (hN:X.N.Nodup) (hi:X.N[i]?=some x) (hx:Loc X.env.scope x) (he:PE X e te) (ho:PIp X op ti) (hf:X.fn x=true∨X.env.scope.names.lookup x=some .local:=by first | exact .inl rfl | exact .inr rfl | assumption) :
  PS X (.AugAssign (.Name x pos') op e pos) (tAug i te ti):=by
 intro pins s σ H D I h
 obtain ⟨v,e1,h⟩:=h
 obtain ⟨m,hn,hl⟩:=I.loc
 have vis:Vis X.env.scope x:=by rcases hx with k | k;exact .inl k;exact .inr (.inl k)
 obtain ⟨u,r,l⟩:=hl i x v hi e1 vis
 refine wpAny_AugAssign_Name ?_
 have go:wpAny (model X.prog X.w) X.A (eval e X.env) (fun w s₂=>wpAny (model X.prog X.w) X.A (inplaceOp op u w) (fun r s₃=>wpAny (model X.prog X.w) X.A (storeName X.env x r) (fun _=>SP X pins D .next) X.xe s₃) X.xe s₂) X.xe s:=by
  refine thn (he pins s σ H _ I h) fun w s1 ⟨y,H1,I1,r1,q1⟩=>?_
  refine thn (ho pins s1 σ H1 v y u w _ I1 r r1 q1) fun z s2 ⟨zv,H2,I2,r2,q2⟩=>?_
  exact qaw I2 hN hi hx r2 (fun s3 I3=>⟨_,H2,I3,q2⟩) hf
 rcases l with ⟨hk,hm⟩ | ⟨hk,c,hc,hcell⟩
 ·exact wpAny_loadName_local I.ok.kind hk hn hm go
 ·rcases hk with hk | hk
  ·exact wpAny_loadName_cell I.ok.kind hk hc hcell go
  ·rcases hx with k | k
   ·have:X.env.scope.names.lookup x=some .free:=hk
    rw [k] at this;cases this
   ·have:X.env.scope.names.lookup x=some .free:=hk
    rw [k] at this;cases this
def ipI (f:Int→Int→Int):TIp:=fun x y H Q=>∃ i j,x=.int i∧y=.int j∧Q (.int (f i j)) H
theorem ip_add:PIp X .Add (ipI fun i j=>i + j):=by
 intro pins s σ H x y v u Q I r1 r2 h
 obtain ⟨i,j,e1,e2,q⟩:=h
 subst e1;subst e2
 obtain ⟨t,rfl⟩:=r1
 obtain ⟨t',rfl⟩:=r2
 exact iadd_int ⟨.int _,H,I.tok _,⟨_,rfl⟩,q⟩
end
section
variable {X:Cx} {pos:Pos}
def tWhile (c:TT) (tb:TS):TS:=fun D σ H=>∃ W:Nat→St→Hp→Prop,(∃ m,W m σ H)∧∀ m σ H,W m σ H →
 c σ H fun b H1=>if b=true then ∃ N:St→Hp→Prop,(∀ σ' H',N σ' H'→∃ m',m' < m∧W m' σ' H')∧tb { D with nx:=N,ct:=N,bk:=D.nx } σ H1 else D.nx σ H1
theorem ps_while {c:Expr} {body:List Stmt} {tc:TT} {tb:TS} (hp:PassesOwn (model X.prog X.w) X.A X.env X.xe) (hc:PT X c tc) (hb:PSs X body tb):PS X (.While c body [] pos) (tWhile tc tb):=by
 intro pins s σ H D I h
 obtain ⟨W,⟨m0,w0⟩,turn⟩:=h
 refine wpAny_While (codeAny_whileLoop (fun n s'=>∃ σ' H',Inv X pins σ' H' s'∧W n σ' H') ?_ m0 ⟨σ,H,I,w0⟩)
 rintro n s1 ⟨σ1,H1,I1,w1⟩
 refine wpAny_passesOwn hp (thn (hc pins s1 σ1 H1 _ I1 (turn n σ1 H1 w1)) fun b s2 ⟨H2,I2,q2⟩=>?_)
 cases b with
 | true =>
  obtain ⟨N,hN,q2⟩:=q2
  rw [if_pos rfl]
  refine wpAny_passesOwn hp (thn (hb pins s2 σ1 H2 _ I2 q2) fun f s3 q3=>?_)
  cases f with
  | next =>
   obtain ⟨σ3,H3,I3,n3⟩:=q3
   obtain ⟨m',hm,w3⟩:=hN σ3 H3 n3
   exact ⟨m',hm,σ3,H3,I3,w3⟩
  | cont =>
   obtain ⟨σ3,H3,I3,n3⟩:=q3
   obtain ⟨m',hm,w3⟩:=hN σ3 H3 n3
   exact ⟨m',hm,σ3,H3,I3,w3⟩
  | brk=>exact q3
  | ret v=>exact q3
 | false =>
  rw [if_neg Bool.false_ne_true]
  exact wpAny_execs_nil ⟨σ1,H2,I2,q2⟩
end
structure It where
 go:Nat→Hp→Prop
 yld:Nat→Hp→V→Hp→Prop
 stop:Nat→Hp→Prop
def qcw (X:Cx) (pins:List (Addr×Obj)) (H:Hp) (b:Addr):Prop:=
 H b=none∧b≠X.env.locals∧b∉X.fs∧(b∈X.ex∨X.s₀.heap.objs.size≤b)∧(∀ x c,X.env.cells.lookup x=some c→c≠b)∧∀ p∈X.pn++pins,p.1≠b
theorem Inv.fpOk {X:Cx} {pins:List (Addr×Obj)} {σ:St} {H H':Hp} {s:Shared} {b:Addr} (I:Inv X pins σ H s) (hb:s.heap.objs.size≤b) (hn:H' b=none):qcw X pins H' b:=by
 refine ⟨hn,Nat.ne_of_gt (Nat.lt_of_lt_of_le I.lt hb),I.nofs hb,.inr (Nat.le_trans I.sz hb),fun x c e z=>?_,fun p hp z=>?_⟩
 ·obtain ⟨v,q⟩:=I.cell x c e
  exact absurd (Nat.lt_of_lt_of_le q.lt (by rw [z];exact hb)) (Nat.lt_irrefl _)
 ·exact absurd (Nat.lt_of_lt_of_le (Heap.lt_size (I.pin p hp).1) (by rw [z];exact hb)) (Nat.lt_irrefl _)
structure Turn (P:Program) (w:World) (K:PySem.W.Frag) (tg:Expr) (J:It) (fp:List Addr) (it:Addr) (tn:Nat→Heap→Prop):Prop where
 mem:it∈fp
 obj:∀ i h,tn i h→∀ b∈fp,∃ o,h.get? b=some o∧∀ v,o.data≠.cell v
 keep:∀ i h h',tn i h→(∀ b∈fp,∀ o,h.get? b=some o→h'.get? b=some o)→tn i h'
 item:∀ (X:Cx),X.prog=P→X.w=w→X.K=K→X.calm=true→∀ (i:Nat) (pins:List (Addr×Obj)) (s:Shared) (σ:St) (H:Hp) (E:Value→Shared→Prop),Inv X pins σ H s→(∀ b∈fp,qcw X pins H b)→tn i s.heap→J.go i H →
  wpAny (model P w) X.A (pyNext (.ref it)) (fun r s1=>∃ u,r=some u ∧
   wpAny (model P w) X.A (letOwnedTupleGo tg (.ref it) u) (fun _ s2=>∃ x H',Inv X pins σ H' s2∧RelV x u∧J.yld i H x H'∧tn (i + 1) s2.heap∧∀ b∈fp,H' b=none) E s1) E s
 done:∀ (X:Cx),X.prog=P→X.w=w→X.K=K→X.calm=true→∀ (i:Nat) (pins:List (Addr×Obj)) (s:Shared) (σ:St) (H:Hp) (E:Value→Shared→Prop),Inv X pins σ H s→(∀ b∈fp,qcw X pins H b)→tn i s.heap→J.stop i H →
  wpAny (model P w) X.A (pyNext (.ref it)) (fun r s1=>r=none∧Inv X pins σ H s1) E s
 self:∀ (A:Around) (i:Nat) (s:Shared) (Q:Value→Shared→Prop) (E:Value→Shared→Prop),tn i s.heap→Q (.ref it) s→wpAny (model P w) A (pyIter (.ref it)) Q E s
abbrev TI:=St→Hp→(It→Hp→Prop)→Prop
def PIE (X:Cx) (pins:List (Addr×Obj)) (σ:St) (tg:Expr) (R:It→Hp→Prop) (itv:Value) (s2:Shared):Prop:=
 ∃ (it:Addr) (fp:List Addr) (tn:Nat→Heap→Prop) (J:It) (H':Hp),itv=.ref it∧Inv X pins σ H' s2∧Turn X.prog X.w X.K tg J fp it tn∧tn 0 s2.heap∧(∀ b∈fp,qcw X pins H' b)∧R J H'
def PI (X:Cx) (tg iter:Expr) (wi:TI):Prop:=
 ∀ (pins:List (Addr×Obj)) (s:Shared) (σ:St) (H:Hp) (R:It→Hp→Prop),Inv X pins σ H s→wi σ H R →
  wpAny (model X.prog X.w) X.A (eval iter X.env) (fun v s1=>wpAny (model X.prog X.w) X.A (pyIter v) (PIE X pins σ tg R) X.xe s1) X.xe s
theorem qe6 {M:Model} {A:Around} {E:Value→Shared→Prop} {s:Shared} {tg:Expr} {it:Addr} {u:Value} {o:Obj} {n:String} {vs:Array Value} {Q:Unit→Shared→Prop} (ho:s.heap.get? it=some o) (hc:o.cls=.type n) (hd:o.data=.fields vs)
    (hn:["enumerate", "zip", "dict_itemiterator", "dict_reverseitemiterator", "odict_iterator", "itertools.zip_longest", "itertools.pairwise"].contains n=false) (hQ:Q () s):wpAny M A (letOwnedTupleGo tg (.ref it) u) Q E s:=by
  unfold letOwnedTupleGo
  cases tg<;>first
    | exact wpAny_pure hQ
    | (cases u<;>first
        | exact wpAny_pure hQ
        | (refine wpAny_bind (wpAny_load ho ?_)
           rw [hc,hd]
           show wpAny M A (if (["enumerate", "zip", "dict_itemiterator", "dict_reverseitemiterator", "odict_iterator", "itertools.zip_longest", "itertools.pairwise"].contains n&&vs[0]?==some (rawInt _))=true then _ else _) Q E s
           rw [if_neg (by intro h;rw [hn,Bool.false_and] at h;cases h)]
           exact wpAny_pure hQ))
def Itl (K:PySem.W.Frag) (a:Addr):It:=
 ⟨fun i H=>∃ xs x,SqL K H a xs∧xs[i]?=some x,fun i H x H'=>H'=H∧∀ xs,SqL K H a xs→xs[i]?=some x,fun i H=>∃ xs,SqL K H a xs∧xs.length≤i⟩
def Itt (K:PySem.W.Frag) (a:Addr):It:=
 ⟨fun i H=>∃ xs x,SqT K H a xs∧xs[i]?=some x,fun i H x H'=>H'=H∧∀ xs,SqT K H a xs→xs[i]?=some x,fun i H=>∃ xs,SqT K H a xs∧xs.length≤i⟩
def Itr (lo:Int) (n:Nat):It:=⟨fun i _=>i < n,fun i H x H'=>H'=H∧x=.int (lo + i),fun i _=>n≤i⟩
theorem qbV {P:Program} {w:World} {K:PySem.W.Frag} {tg:Expr} (a it:Addr):Turn P w K tg (Itl K a) [it] it (fun i h=>h.IsListIter it a i) where
 mem:=by simp
 obj:=fun i h st b hb=>by
  have e:b=it:=by simpa using hb
  subst e
  obtain ⟨o,e,c,d⟩:=st
  exact ⟨o,e,fun v z=>by rw [d] at z;cases z⟩
 keep:=fun i h h' st k=>st.at fun o e=>k it (by simp) o e
 item:=by
  intro X hP hw hK hc i pins s σ H E I hf st hg
  subst hP hw hK
  obtain ⟨xs,x,hq,hx⟩:=hg
  obtain ⟨its,rv,p,hz⟩:=I.list hq
  obtain ⟨u,hu,ru⟩:=rv.get hx
  obtain ⟨f0,f1,f2,f3,f4,f5⟩:=hf it (by simp)
  refine wpAny_pyNext_list_item st p.isList (x:=u) (by simpa using hu) fun h' st' sb=>?_
  have I1:Inv X pins σ H { s with heap:=h' }:=I.turned (t':=s.toks) (fun b o hb e=>(sb.2 b hb).trans e) f0 f1 f3 f4 f5
  obtain ⟨o,e,c,d⟩:=id st'
  exact ⟨u,rfl,qe6 (s:={ s with heap:=h' }) e c d (by decide) ⟨x,H,I1,ru,⟨rfl,fun ys hy=>by rw [I.list_inj hy hq];exact hx⟩,st',fun b hb=>(hf b hb).1⟩⟩
 done:=by
  intro X hP hw hK hc i pins s σ H E I hf st hg
  subst hP hw hK
  obtain ⟨xs,hq,hx⟩:=hg
  obtain ⟨its,rv,p,hz⟩:=I.list hq
  obtain ⟨f0,f1,f2,f3,f4,f5⟩:=hf it (by simp)
  have hl:=rv.length
  exact wpAny_pyNext_list_end (I.ok.hd hc) st p.isList (by simp;omega) fun h' eb=>⟨rfl,I.turned (t':=s.toks) (fun b o hb e=>eb b o hb e) f0 f1 f3 f4 f5⟩
 self:=fun _ _ _ _ _ st h=>wpAny_pyIter_listiter st h
theorem turn_tuple {P:Program} {w:World} {K:PySem.W.Frag} {tg:Expr} (a it:Addr):Turn P w K tg (Itt K a) [it] it (fun i h=>h.IsTupleIter it a i) where
 mem:=by simp
 obj:=fun i h st b hb=>by
  have e:b=it:=by simpa using hb
  subst e
  obtain ⟨o,e,c,d⟩:=st
  exact ⟨o,e,fun v z=>by rw [d] at z;cases z⟩
 keep:=fun i h h' st k=>st.at fun o e=>k it (by simp) o e
 item:=by
  intro X hP hw hK hc i pins s σ H E I hf st hg
  subst hP hw hK
  obtain ⟨xs,x,hq,hx⟩:=hg
  obtain ⟨its,rv,p,hz⟩:=I.tuple hq
  obtain ⟨u,hu,ru⟩:=rv.get hx
  obtain ⟨f0,f1,f2,f3,f4,f5⟩:=hf it (by simp)
  refine wpAny_pyNext_tuple_item st (show s.heap.IsTuple a its.toArray from p) (x:=u) (by simpa using hu) fun h' st' sb=>?_
  have I1:Inv X pins σ H { s with heap:=h' }:=I.turned (t':=s.toks) (fun b o hb e=>(sb.2 b hb).trans e) f0 f1 f3 f4 f5
  obtain ⟨o,e,c,d⟩:=id st'
  exact ⟨u,rfl,qe6 (s:={ s with heap:=h' }) e c d (by decide) ⟨x,H,I1,ru,⟨rfl,fun ys hy=>by rw [I.tuple_inj hy hq];exact hx⟩,st',fun b hb=>(hf b hb).1⟩⟩
 done:=by
  intro X hP hw hK hc i pins s σ H E I hf st hg
  subst hP hw hK
  obtain ⟨xs,hq,hx⟩:=hg
  obtain ⟨its,rv,p,hz⟩:=I.tuple hq
  obtain ⟨f0,f1,f2,f3,f4,f5⟩:=hf it (by simp)
  have hl:=rv.length
  exact wpAny_pyNext_tuple_end (I.ok.hd hc) st (show s.heap.IsTuple a its.toArray from p) (by simp;omega) fun h' eb=>⟨rfl,I.turned (t':=s.toks) (fun b o hb e=>eb b o hb e) f0 f1 f3 f4 f5⟩
 self:=fun _ _ _ _ _ st h=>wpAny_pyIter_tupleiter st h
theorem turn_range {P:Program} {w:World} {K:PySem.W.Frag} {tg:Expr} (it:Addr) (lo:Int) (n:Nat):Turn P w K tg (Itr lo n) [it] it (fun i h=>IsRangeIter h it (lo + (i:Nat) * 1) ((n:Int) - (i:Nat)) 1) where
 mem:=by simp
 obj:=fun i h st b hb=>by
  have e:b=it:=by simpa using hb
  subst e
  exact ⟨_,st,fun v z=>by
   have z':Data.fields _=Data.cell v:=z
   cases z'⟩
 keep:=fun i h h' st k=>k it (by simp) _ st
 item:=by
  intro X hP hw hK hc i pins s σ H E I hf st hg
  subst hP hw hK
  obtain ⟨f0,f1,f2,f3,f4,f5⟩:=hf it (by simp)
  have W:=Walks.range (prog:=X.prog) (w:=X.w) (I.ok.hd hc) it lo 1 n
  refine W.item i s _ _ hg st fun v h' tk hv st' kk=>?_
  obtain ⟨t,rfl⟩:=hv
  have I1:Inv X pins σ H { s with heap:=h',toks:=tk }:=I.turned (fun b o hb e=>kk b o (by simpa using hb) e) f0 f1 f3 f4 f5
  refine ⟨_,rfl,qe6 (s:={ s with heap:=h',toks:=tk }) (n:="range_iterator") st' rfl rfl (by decide) ⟨.int (lo + i),H,I1,⟨t,?_⟩,⟨rfl,rfl⟩,st',fun b hb=>(hf b hb).1⟩⟩
  rw [Int.mul_one]
 done:=by
  intro X hP hw hK hc i pins s σ H E I hf st hg
  subst hP hw hK
  obtain ⟨f0,f1,f2,f3,f4,f5⟩:=hf it (by simp)
  exact wpAny_pyNext_range_end (I.ok.hd hc) st (by have:n≤i:=hg;omega) fun h' eb=>⟨rfl,I.turned (t':=s.toks) (fun b o hb e=>eb b o hb e) f0 f1 f3 f4 f5⟩
 self:=fun _ _ _ _ _ st h=>wpAny_pyIter_rangeiter st h
end L2
namespace L2
open PySem PySem.Spec PyProof.Rows
section
variable {X:Cx} {tg:Expr}
theorem qcQ {pins:List (Addr×Obj)} {σ:St} {H:Hp} {s:Shared} {R:It→Hp→Prop} {E:Value→Shared→Prop} {lo hi:Int} {t u v:Tok} {tk:Nat} (I:Inv X pins σ H s) (h1:-(2 ^ 62)≤lo) (h2:lo < 2 ^ 62) (h3:-(2 ^ 62)≤hi) (h4:hi < 2 ^ 62)
  (q:R (Itr lo (hi - lo).toNat) H):wpAny (model X.prog X.w) X.A (pyIter (.ref s.heap.objs.size)) (PIE X pins σ tg R) E { s with heap:=s.heap.push { cls:=.type "range",data:=.fields #[.int lo t,.int hi u,.int 1 v] },toks:=tk }:=by
 refine wpAny_pyIter_range (IsRange.new ..) (small_one h1 h2 h3 h4) ?_
 have I1:Inv X pins σ H { s with heap:=s.heap.push { cls:=.type "range",data:=.fields #[.int lo t,.int hi u,.int 1 v] },toks:=tk }:=I.kept fun b o e=>Heap.get?_push_of_some _ e
 refine ⟨(s.heap.push { cls:=.type "range",data:=.fields #[.int lo t,.int hi u,.int 1 v] }).objs.size,[(s.heap.push { cls:=.type "range",data:=.fields #[.int lo t,.int hi u,.int 1 v] }).objs.size],_,_,H,rfl,
  I1.kept (t':=tk) fun b o e=>Heap.get?_push_of_some _ e,turn_range _ lo (hi - lo).toNat,?_,fun b hb=>?_,q⟩
 ·have e1:lo + ((0:Nat):Int) * 1=lo:=by simp
  have e2:(((hi - lo).toNat:Nat):Int) - ((0:Nat):Int)=Builtin.Range.rangeSize lo hi 1:=by rw [rangeSize_one];split<;>omega
  show IsRangeIter _ _ (lo + ((0:Nat):Int) * 1) ((((hi - lo).toNat:Nat):Int) - ((0:Nat):Int)) 1
  rw [e1,e2]
  exact Heap.get?_push_size _ rfl
 ·have e:b=(s.heap.push { cls:=.type "range",data:=.fields #[.int lo t,.int hi u,.int 1 v] }).objs.size:=by simpa using hb
  subst e
  exact I1.fpOk (Nat.le_refl _) (I1.hok.fresh (Nat.le_refl _))
def qfA (ta:TA):TI:=fun σ H R=>ta σ H fun vs H1=>∃ j:Int,vs=[.int j]∧-(2 ^ 62)≤j∧j < 2 ^ 62∧R (Itr 0 j.toNat) H1
def qfB (ta:TA):TI:=fun σ H R=>ta σ H fun vs H1=>∃ i j:Int,vs=[.int i,.int j]∧(-(2 ^ 62)≤i∧i < 2 ^ 62∧-(2 ^ 62)≤j∧j < 2 ^ 62)∧R (Itr i (j - i).toNat) H1
theorem zA {a:Expr} {ta:TA} {p pos:Pos} (hg:Gl X "range") (hm:X.mg "range"=none) (ha:PA X [a] ta) (hs:starEach [a] X.env=[(false,eval a X.env)]:=by rfl):PI X tg (.Call (.Name "range" p) [a] [] pos) (qfA ta):=by
 intro pins s σ H R I h
 refine Call_ (qa4 I hg hm boot_range (PyProof.Rows.callWith_type1 (thn (ha pos pins s σ H _ I h) fun us s1 ⟨vs,H1,I1,r1,q1⟩=>?_) hs rfl))
 obtain ⟨j,e,q1,q2,q⟩:=q1
 subst e
 cases r1 with
 | cons r rr =>
  cases rr
  obtain ⟨t,rfl⟩:=r
  exact call_range_1 (qcQ I1 (by omega) (by omega) q1 q2 (by simpa using q))
theorem pi_range2 {a b:Expr} {ta:TA} {p pos:Pos} (hg:Gl X "range") (hm:X.mg "range"=none) (ha:PA X [a,b] ta) (hs:starEach [a,b] X.env=[(false,eval a X.env),(false,eval b X.env)]:=by rfl) (hs2:starEach [b] X.env=[(false,eval b X.env)]:=by rfl) :
  PI X tg (.Call (.Name "range" p) [a,b] [] pos) (qfB ta):=by
 intro pins s σ H R I h
 refine Call_ (qa4 I hg hm boot_range (PyProof.Rows.callWith_type1 (thn (ha pos pins s σ H _ I h) fun us s1 ⟨vs,H1,I1,r1,q1⟩=>?_) (by rw [hs,hs2]) (by rw [hs2];rfl)))
 obtain ⟨i,j,e,⟨q1,q2,q3,q4⟩,q⟩:=q1
 subst e
 cases r1 with
 | cons r rr =>
  cases rr with
  | cons r' rr =>
   cases rr
   obtain ⟨t,rfl⟩:=r
   obtain ⟨t',rfl⟩:=r'
   exact call_range_2 (qcQ I1 q1 q2 q3 q4 q)
def qgG (wi:TI) (g:TG) (tb:TS):TS:=fun D σ H=>wi σ H fun J H1=>∃ W:Nat→Nat→St→Hp→Prop,(∃ m,W 0 m σ H1)∧∀ i m σ H,W i m σ H →
 (J.stop i H∧D.nx σ H)∨(J.go i H∧∃ N:St→Hp→Prop,(∀ σ' H',N σ' H'→∃ m',m' < m∧W (i + 1) m' σ' H')∧∀ x H',J.yld i H x H'→g x σ H' fun σ2 H2=>tb { D with nx:=N,ct:=N,bk:=D.nx } σ2 H2)
def qbW (fp:List Addr) (h:Heap):List (Addr×Obj):=fp.filterMap fun b=>(h.get? b).map fun o=>(b,o)
theorem qaj {fp:List Addr} {h:Heap} {b:Addr} {o:Obj} (hb:b∈fp) (e:h.get? b=some o):(b,o)∈qbW fp h:=List.mem_filterMap.mpr ⟨b,hb,by rw [e];rfl⟩
theorem of_pinsAt {fp:List Addr} {h:Heap} {p:Addr×Obj} (hp:p∈qbW fp h):p.1∈fp∧h.get? p.1=some p.2:=by
 obtain ⟨b,hb,e⟩:=List.mem_filterMap.mp hp
 cases q:h.get? b with
 | none=>rw [q] at e;cases e
 | some o =>
  rw [q] at e
  have e':(b,o)=p:=Option.some.inj e
  subst e'
  exact ⟨hb,q⟩
theorem Inv.pinned {pins:List (Addr×Obj)} {σ:St} {H:Hp} {s:Shared} {fp:List Addr} (I:Inv X pins σ H s) (hf:∀ b∈fp,qcw X pins H b) (ho:∀ b∈fp,∃ o,s.heap.get? b=some o∧∀ v,o.data≠.cell v):Inv X (pins++qbW fp s.heap) σ H s:=
 I.pins_of fun p hp=>(List.mem_append.mp hp).elim (fun z=>I.pin p (List.mem_append_right _ z)) fun z=>by
  obtain ⟨hb,e⟩:=of_pinsAt z
  obtain ⟨f0,f1,f2,_⟩:=hf p.1 hb
  obtain ⟨o,e',d⟩:=ho p.1 hb
  rw [e] at e';cases e'
  exact ⟨e,f0,f1,f2,d⟩
theorem Inv.unpinned {pins pl:List (Addr×Obj)} {σ:St} {H:Hp} {s:Shared} (I:Inv X (pins++pl) σ H s):Inv X pins σ H s:=I.pins_of fun p hp=>I.pin p (List.mem_append_right _ (List.mem_append_left _ hp))
theorem j9 {iter:Expr} {body:List Stmt} {wi:TI} {g:TG} {tb:TS} {pos:Pos} (hp:PassesOwn (model X.prog X.w) X.A X.env X.xe) (hc:X.calm=true) (hi:PI X tg iter wi) (hg:PG X tg g) (hb:PSs X body tb)
  (hs:∀ x,foldedSetIterable iter X.env x=pure x:=by intro _;rfl):PS X (.For tg iter body [] pos) (qgG wi g tb):=by
 intro pins s σ H D I h
 refine wpAny_For (thn (hi pins s σ H _ I h) fun v s1 h1=>thn h1 fun itv s2 h2=>?_) hs
 obtain ⟨it,fp,tn,J,H2,e,I2,T,st2,f2,W,⟨m0,w0⟩,turn⟩:=h2
 subst e
 have stat:∀ {H':Hp},(∀ b∈fp,H' b=none)→∀ b∈fp,qcw X pins H' b:=fun hn b hb=>⟨hn b hb,(f2 b hb).2⟩
 refine codeAny_forLoop_any (fun n s'=>∃ i σ' H',Inv X pins σ' H' s'∧tn i s'.heap∧(∀ b∈fp,H' b=none)∧W i n σ' H') ?_ m0 ⟨0,σ,H2,I2,st2,fun b hb=>(f2 b hb).1,w0⟩
 rintro n s3 ⟨i,σ3,H3,I3,st3,fr3,w3⟩
 rcases turn i n σ3 H3 w3 with ⟨stop,qn⟩ | ⟨go,N,hN,step⟩
 ·refine wpAny_passesOwn hp (thn (T.done X rfl rfl rfl hc i pins s3 σ3 H3 X.xe I3 (stat fr3) st3 stop) fun r s4 ⟨hr,I4⟩=>?_)
  subst hr
  exact wpAny_execs_nil ⟨σ3,H3,I4,qn⟩
 ·refine wpAny_passesOwn hp (thn (T.item X rfl rfl rfl hc i pins s3 σ3 H3 X.xe I3 (stat fr3) st3 go) fun r s4 ⟨u,hr,h4⟩=>?_)
  subst hr
  refine wpAny_passesOwn hp (thn h4 fun _ s5 ⟨x,H5,I5,r5,y5,st5,fr5⟩=>?_)
  have I5':=I5.pinned (stat fr5) (T.obj _ _ st5)
  refine wpAny_passesOwn hp (thn (hg _ s5 σ3 H5 x u _ I5' r5 (step x H5 y5)) fun _ s6 ⟨σ6,H6,I6,q6⟩=>?_)
  refine wpAny_passesOwn hp (thn (hb _ s6 σ6 H6 _ I6 q6) fun f s7 q7=>?_)
  have again:∀ {σ7:St} {H7:Hp},Inv X (pins++qbW fp s5.heap) σ7 H7 s7→N σ7 H7→∃ m,m < n∧∃ i σ' H',Inv X pins σ' H' s7∧tn i s7.heap∧(∀ b∈fp,H' b=none)∧W i m σ' H':=fun {σ7 H7} I7 n7=>by
   obtain ⟨m',hm,w7⟩:=hN σ7 H7 n7
   refine ⟨m',hm,i + 1,σ7,H7,I7.unpinned,T.keep _ _ _ st5 fun b hb o e=>(I7.pin (b,o) (List.mem_append_right _ (List.mem_append_right _ (qaj hb e)))).1,fun b hb=>?_,w7⟩
   obtain ⟨o,e,d⟩:=T.obj _ _ st5 b hb
   exact (I7.pin (b,o) (List.mem_append_right _ (List.mem_append_right _ (qaj hb e)))).2.1
  cases f with
  | next=>obtain ⟨σ7,H7,I7,n7⟩:=q7;exact again I7 n7
  | cont=>obtain ⟨σ7,H7,I7,n7⟩:=q7;exact again I7 n7
  | brk=>obtain ⟨σ7,H7,I7,q7⟩:=q7;exact ⟨σ7,H7,I7.unpinned,q7⟩
  | ret v=>obtain ⟨x7,σ7,H7,I7,r7,q7⟩:=q7;exact ⟨x7,σ7,H7,I7.unpinned,r7,q7⟩
end
theorem zr {K:PySem.W.Frag} {a:Addr} {xs:List V} {g:TG} {tb:TS} {D:Ends} {σ:St} {H:Hp} (Pv:Nat→St→Hp→Prop) (h0:Pv 0 σ H) (hl:∀ i σ H,i≤xs.length→Pv i σ H→SqL K H a xs)
  (hs:∀ i x σ H,xs[i]?=some x→Pv i σ H→g x σ H fun σ2 H2=>tb { D with nx:=Pv (i + 1),ct:=Pv (i + 1),bk:=D.nx } σ2 H2) (hd:∀ σ H,Pv xs.length σ H→D.nx σ H) :
  ∃ W:Nat→Nat→St→Hp→Prop,(∃ m,W 0 m σ H)∧∀ i m σ H,W i m σ H →
   ((Itl K a).stop i H∧D.nx σ H)∨((Itl K a).go i H∧∃ N:St→Hp→Prop,(∀ σ' H',N σ' H'→∃ m',m' < m∧W (i + 1) m' σ' H')∧∀ x H',(Itl K a).yld i H x H'→g x σ H' fun σ2 H2=>tb { D with nx:=N,ct:=N,bk:=D.nx } σ2 H2):=by
 refine ⟨fun i m σ H=>m=xs.length - i∧i≤xs.length∧Pv i σ H,⟨xs.length,by simp,Nat.zero_le _,h0⟩,?_⟩
 rintro i m σ H ⟨rfl,hi,p⟩
 have q:=hl i σ H hi p
 by_cases hlt:i < xs.length
 ·refine .inr ⟨⟨xs,xs[i],q,by simp [hlt]⟩,Pv (i + 1),fun σ' H' p'=>⟨xs.length - (i + 1),by omega,rfl,hlt,p'⟩,fun x H' y=>?_⟩
  obtain ⟨e,y⟩:=y
  subst e
  exact hs i x σ _ (y xs q) p
 ·have e:i=xs.length:=by omega
  subst e
  exact .inl ⟨⟨xs,q,Nat.le_refl _⟩,hd σ H p⟩
theorem for_tup {K:PySem.W.Frag} {a:Addr} {xs:List V} {g:TG} {tb:TS} {D:Ends} {σ:St} {H:Hp} (Pv:Nat→St→Hp→Prop) (h0:Pv 0 σ H) (hl:∀ i σ H,i≤xs.length→Pv i σ H→SqT K H a xs)
  (hs:∀ i x σ H,xs[i]?=some x→Pv i σ H→g x σ H fun σ2 H2=>tb { D with nx:=Pv (i + 1),ct:=Pv (i + 1),bk:=D.nx } σ2 H2) (hd:∀ σ H,Pv xs.length σ H→D.nx σ H) :
  ∃ W:Nat→Nat→St→Hp→Prop,(∃ m,W 0 m σ H)∧∀ i m σ H,W i m σ H →
   ((Itt K a).stop i H∧D.nx σ H)∨((Itt K a).go i H∧∃ N:St→Hp→Prop,(∀ σ' H',N σ' H'→∃ m',m' < m∧W (i + 1) m' σ' H')∧∀ x H',(Itt K a).yld i H x H'→g x σ H' fun σ2 H2=>tb { D with nx:=N,ct:=N,bk:=D.nx } σ2 H2):=by
 refine ⟨fun i m σ H=>m=xs.length - i∧i≤xs.length∧Pv i σ H,⟨xs.length,by simp,Nat.zero_le _,h0⟩,?_⟩
 rintro i m σ H ⟨rfl,hi,p⟩
 have q:=hl i σ H hi p
 by_cases hlt:i < xs.length
 ·refine .inr ⟨⟨xs,xs[i],q,by simp [hlt]⟩,Pv (i + 1),fun σ' H' p'=>⟨xs.length - (i + 1),by omega,rfl,hlt,p'⟩,fun x H' y=>?_⟩
  obtain ⟨e,y⟩:=y
  subst e
  exact hs i x σ _ (y xs q) p
 ·have e:i=xs.length:=by omega
  subst e
  exact .inl ⟨⟨xs,q,Nat.le_refl _⟩,hd σ H p⟩
theorem zB {lo:Int} {n:Nat} {g:TG} {tb:TS} {D:Ends} {σ:St} {H:Hp} (Pv:Nat→St→Hp→Prop) (h0:Pv 0 σ H)
  (hs:∀ i σ H,i < n→Pv i σ H→g (.int (lo + i)) σ H fun σ2 H2=>tb { D with nx:=Pv (i + 1),ct:=Pv (i + 1),bk:=D.nx } σ2 H2) (hd:∀ σ H,Pv n σ H→D.nx σ H) :
  ∃ W:Nat→Nat→St→Hp→Prop,(∃ m,W 0 m σ H)∧∀ i m σ H,W i m σ H →
   ((Itr lo n).stop i H∧D.nx σ H)∨((Itr lo n).go i H∧∃ N:St→Hp→Prop,(∀ σ' H',N σ' H'→∃ m',m' < m∧W (i + 1) m' σ' H')∧∀ x H',(Itr lo n).yld i H x H'→g x σ H' fun σ2 H2=>tb { D with nx:=N,ct:=N,bk:=D.nx } σ2 H2):=by
 refine ⟨fun i m σ H=>m=n - i∧i≤n∧Pv i σ H,⟨n,by simp,Nat.zero_le _,h0⟩,?_⟩
 rintro i m σ H ⟨rfl,hi,p⟩
 by_cases hlt:i < n
 ·refine .inr ⟨hlt,Pv (i + 1),fun σ' H' p'=>⟨n - (i + 1),by omega,rfl,hlt,p'⟩,fun x H' y=>?_⟩
  obtain ⟨e,y⟩:=y
  subst e y
  exact hs i σ _ hlt p
 ·have e:i=n:=by omega
  subst e
  exact .inl ⟨Nat.le_refl _,hd σ H p⟩
end L2
namespace L2
open PySem PySem.Spec PyProof.Rows
abbrev R2:=V→V→Hp→VK→Prop
def OpR (X:Cx) (f:Value→Value→Sem Value) (r:R2):Prop:=
 ∀ (pins:List (Addr×Obj)) (s:Shared) (σ:St) (H:Hp) (x y:V) (v u:Value) (Q:VK),Inv X pins σ H s→RelV x v→RelV y u→r x y H Q →
  wpAny (model X.prog X.w) X.A (f v u) (EP X pins σ Q) X.xe s
def UnR (X:Cx) (f:Value→Sem Value) (r:V→Hp→VK→Prop):Prop:=
 ∀ (pins:List (Addr×Obj)) (s:Shared) (σ:St) (H:Hp) (x:V) (v:Value) (Q:VK),Inv X pins σ H s→RelV x v→r x H Q →
  wpAny (model X.prog X.w) X.A (f v) (EP X pins σ Q) X.xe s
def zM (X:Cx) (f:Value) (r:List V→Hp→VK→Prop):Prop:=
 ∀ (pins:List (Addr×Obj)) (s:Shared) (σ:St) (H:Hp) (xs:List V) (us:List Value) (Q:VK),Inv X pins σ H s→Vals xs us→r xs H Q →
  wpAny (model X.prog X.w) X.A (call f us) (EP X pins σ Q) X.xe s
def tOp (r:R2) (ta tb:TE):TE:=fun σ H Q=>ta σ H fun x H1=>tb σ H1 fun y H2=>r x y H2 Q
def tUn (r:V→Hp→VK→Prop) (ta:TE):TE:=fun σ H Q=>ta σ H fun x H1=>r x H1 Q
def rI (C:Int→Int→Prop) (g:Int→Int→V):R2:=fun x y H Q=>∃ i j,x=.int i∧y=.int j∧C i j∧Q (g i j) H
def rI0 (g:Int→Int→V):R2:=fun x y H Q=>∃ i j,x=.int i∧y=.int j∧Q (g i j) H
def rU (g:Int→V):V→Hp→VK→Prop:=fun x H Q=>∃ i,x=.int i∧Q (g i) H
section
variable {X:Cx} {a b c:Expr} {ta tb tc:TE} {pos:Pos}
theorem qgi (ha:PE X a ta) (hb:PE X b tb) {pins:List (Addr×Obj)} {s:Shared} {σ:St} {H:Hp} {R:V→V→Hp→Prop} (I:Inv X pins σ H s)
  (h:ta σ H fun x H1=>tb σ H1 fun y H2=>R x y H2) {Q:Value→Shared→Prop} {f:Value→Value→Sem Value}
  (hf:∀ v u s2 x y H2,Inv X pins σ H2 s2→RelV x v→RelV y u→R x y H2→wpAny (model X.prog X.w) X.A (f v u) Q X.xe s2) :
  wpAny (model X.prog X.w) X.A (eval a X.env) (fun v s₁=>wpAny (model X.prog X.w) X.A (eval b X.env) (fun u s₂=>wpAny (model X.prog X.w) X.A (f v u) Q X.xe s₂) X.xe s₁) X.xe s:=by
 refine thn (ha pins s σ H _ I h) fun v s1 ⟨x,H1,I1,r1,q1⟩=>?_
 refine thn (hb pins s1 σ H1 _ I1 q1) fun u s2 ⟨y,H2,I2,r2,q2⟩=>?_
 exact hf v u s2 x y H2 I2 r1 r2 q2
theorem qB {op:Operator} {r:R2} (ho:OpR X (binaryOp op) r) (ha:PE X a ta) (hb:PE X b tb):PE X (.BinOp a op b pos) (tOp r ta tb):=by
 intro pins s σ H Q I h
 exact wpAny_BinOp (qgi ha hb I h fun v u s2 x y H2 I2 rx ry q=>ho pins s2 σ H2 x y v u Q I2 rx ry q)
theorem qdD {op:UnaryOp} {r:V→Hp→VK→Prop} (ho:UnR X (unaryOp op) r) (ha:PE X a ta):PE X (.UnaryOp op a pos) (tUn r ta):=by
 intro pins s σ H Q I h
 exact UnaryOp_ (thn (ha pins s σ H _ I h) fun v s1 ⟨x,H1,I1,r1,q1⟩=>ho pins s1 σ H1 x v Q I1 r1 q1)
theorem opI {f:Value→Value→Sem Value} {C:Int→Int→Prop} {g:Int→Int→Int}
  (rule:∀ (i j:Int) (t u:Tok) (s:Shared) (Q:Value→Shared→Prop) (E:Value→Shared→Prop),C i j→Q (.int (g i j) s.toks) { s with toks:=s.toks + 1 }→wpAny (model X.prog X.w) X.A (f (.int i t) (.int j u)) Q E s) :
  OpR X f (rI C fun i j=>.int (g i j)):=by
 intro pins s σ H x y v u Q I rx ry h
 obtain ⟨i,j,rfl,rfl,hc,q⟩:=h
 obtain ⟨t,rfl⟩:=rx
 obtain ⟨t',rfl⟩:=ry
 exact rule i j t t' s _ _ hc ⟨.int (g i j),H,I.tok _,⟨_,rfl⟩,q⟩
theorem qf6 {f:Value→Value→Sem Value} {g:Int→Int→Int}
  (rule:∀ (i j:Int) (t u:Tok) (s:Shared) (Q:Value→Shared→Prop) (E:Value→Shared→Prop),Q (.int (g i j) s.toks) { s with toks:=s.toks + 1 }→wpAny (model X.prog X.w) X.A (f (.int i t) (.int j u)) Q E s) :
  OpR X f (rI0 fun i j=>.int (g i j)):=by
 intro pins s σ H x y v u Q I rx ry h
 obtain ⟨i,j,rfl,rfl,q⟩:=h
 obtain ⟨t,rfl⟩:=rx
 obtain ⟨t',rfl⟩:=ry
 exact rule i j t t' s _ _ ⟨.int (g i j),H,I.tok _,⟨_,rfl⟩,q⟩
theorem qf7 {f:Value→Value→Sem Value} {g:Int→Int→Bool}
  (rule:∀ (i j:Int) (t u:Tok) (s:Shared) (Q:Value→Shared→Prop) (E:Value→Shared→Prop),Q (.bool (g i j)) s→wpAny (model X.prog X.w) X.A (f (.int i t) (.int j u)) Q E s) :
  OpR X f (rI0 fun i j=>.bl (g i j)):=by
 intro pins s σ H x y v u Q I rx ry h
 obtain ⟨i,j,rfl,rfl,q⟩:=h
 obtain ⟨t,rfl⟩:=rx
 obtain ⟨t',rfl⟩:=ry
 exact rule i j t t' s _ _ ⟨.bl (g i j),H,I,rfl,q⟩
def qgH (i j:Int):Prop:=0 < j∧j < 1073741824
def qgI (i j:Int):Prop:=0≤j∧j≤1000000∧i.natAbs < 2 ^ 64
def CMul (i j:Int):Prop:=(-(2 ^ 64) < i∧i < 2 ^ 64)∨(-(2 ^ 64) < j∧j < 2 ^ 64)
theorem CMul.ok {i j:Int} (h:CMul i j):IntMulOk i j:=by
 rcases h with ⟨h1,h2⟩ | ⟨h1,h2⟩
 ·exact .of_left (intBits_le_64 h1 h2)
 ·exact .of_right (intBits_le_64 h1 h2)
theorem two_pow_nn (k:Nat):(0:Int)≤2 ^ k:=by
 rw [two_pow_cast]
 exact Int.natCast_nonneg _
theorem op_add:OpR X (binaryOp .Add) (rI0 fun i j=>.int (i + j)):=qf6 fun _ _ _ _ _ _ _ q=>add_int q
theorem qcR:OpR X (binaryOp .Sub) (rI0 fun i j=>.int (i - j)):=qf6 fun _ _ _ _ _ _ _ q=>sub_int q
theorem op_mul:OpR X (binaryOp .Mult) (rI CMul fun i j=>.int (i * j)):=opI fun _ _ _ _ _ _ _ hc q=>mul_int q hc.ok
theorem qbE:OpR X (binaryOp .FloorDiv) (rI qgH fun i j=>.int (i / j)):=opI fun i j _ _ _ _ _ hc q=>by
 have h1:(0:Int) < j:=hc.1
 have h2:j < 1073741824:=hc.2
 exact floordiv_int (by omega) (by rw [Int.fdiv_eq_ediv_of_nonneg i (by omega)];exact q) (.inl (PyProof.noPylong_small (by omega)))
theorem j5:OpR X (binaryOp .Mod) (rI (fun _ j=>0 < j) fun i j=>.int (i % j)):=opI fun i j _ _ _ _ _ hc q=>by
 have h1:(0:Int) < j:=hc
 exact mod_int' (by omega) (by rw [Int.fmod_eq_emod_of_nonneg i (by omega)];exact q)
theorem qes:OpR X (binaryOp .Pow) (rI qgI fun i j=>.int (i ^ j.toNat)):=opI fun _ _ _ _ _ _ _ hc q=>pow_int_small hc.1 hc.2.1 hc.2.2 q
theorem qet:OpR X (binaryOp .LShift) (rI qgI fun i j=>.int (i * 2 ^ j.toNat)):=opI fun _ _ _ _ _ _ _ hc q=>lshift_int_small hc.1 hc.2.1 hc.2.2 q
theorem op_shr:OpR X (binaryOp .RShift) (rI (fun _ j=>0≤j) fun i j=>.int (i / 2 ^ j.toNat)):=opI fun i j _ _ _ _ _ hc q =>
 rshift_int hc (by rw [Int.fdiv_eq_ediv_of_nonneg i (two_pow_nn _)];exact q)
theorem op_and:OpR X (binaryOp .BitAnd) (rI0 fun i j=>.int (Builtin.bitAnd i j)):=qf6 fun _ _ _ _ _ _ _ q=>and_int q
theorem qfC:OpR X (binaryOp .BitOr) (rI0 fun i j=>.int (Builtin.bitOr i j)):=qf6 fun _ _ _ _ _ _ _ q=>or_int q
theorem unI {f:Value→Sem Value} {g:Int→Int}
  (rule:∀ (i:Int) (t:Tok) (s:Shared) (Q:Value→Shared→Prop) (E:Value→Shared→Prop),Q (.int (g i) s.toks) { s with toks:=s.toks + 1 }→wpAny (model X.prog X.w) X.A (f (.int i t)) Q E s) :
  UnR X f (rU fun i=>.int (g i)):=by
 intro pins s σ H x v Q I rx h
 obtain ⟨i,rfl,q⟩:=h
 obtain ⟨t,rfl⟩:=rx
 exact rule i t s _ _ ⟨.int (g i),H,I.tok _,⟨_,rfl⟩,q⟩
theorem qbX:UnR X (unaryOp .USub) (rU fun i=>.int (-i)):=unI fun _ _ _ _ _ q=>neg_int q
end
def scal:V→V→Bool
 | .non,.non=>true | .non,.int _=>true | .int _,.non=>true | .non,.bl _=>true | .bl _,.non=>true | .non,.str _=>true | .str _,.non=>true
 | .int _,.int _=>true | .bl _,.bl _=>true | .str _,.str _=>true | .byt _,.byt _=>true
 | .int _,.str _=>true | .str _,.int _=>true | .bl _,.str _=>true | .str _,.bl _=>true
 | _,_=>false
def rEq:R2:=fun x y H Q=>scal x y=true∧Q (.bl (decide (x=y))) H
theorem dec_bl {i j:Bool}:decide (V.bl i=V.bl j)=(i==j):=by
 rw [Bool.eq_iff_iff]
 simp
section
variable {X:Cx} {a b c:Expr} {ta tb tc:TE} {pos:Pos}
theorem fin_bl {pins:List (Addr×Obj)} {σ:St} {H:Hp} {s:Shared} {Q:VK} {k k':Bool} (I:Inv X pins σ H s) (q:Q (.bl k) H) (e:k=k'):EP X pins σ Q (.bool k') s:=by
 subst e
 exact ⟨.bl k,H,I,rfl,q⟩
theorem qdq:OpR X (compareOp .Lt) (rI0 fun i j=>.bl (decide (i < j))):=qf7 fun _ _ _ _ _ _ _ q=>lt_int q
theorem op_le:OpR X (compareOp .LtE) (rI0 fun i j=>.bl (decide (i≤j))):=qf7 fun _ _ _ _ _ _ _ q=>le_int q
theorem qdr:OpR X (compareOp .Gt) (rI0 fun i j=>.bl (decide (j < i))):=qf7 fun _ _ _ _ _ _ _ q=>gt_int q
theorem op_ge:OpR X (compareOp .GtE) (rI0 fun i j=>.bl (decide (j≤i))):=qf7 fun _ _ _ _ _ _ _ q=>ge_int q
theorem qy (b:Expr) {op:CmpOp} (h:op≠.In:=by decide) (h2:op≠.NotIn:=by decide):behindInMarks op b=false:=by
 have e1:(op==CmpOp.In)=false:=by cases op<;>first | rfl | exact absurd rfl h
 have e2:(op==CmpOp.NotIn)=false:=by cases op<;>first | rfl | exact absurd rfl h2
 cases b<;>simp [behindInMarks,e1,e2]
theorem jT {op:CmpOp} {r:R2} (ho:OpR X (compareOp op) r) (ha:PE X a ta) (hb:PE X b tb) (hm:behindInMarks op b=false):PE X (.Compare a [op] [b] pos) (tOp r ta tb):=by
 intro pins s σ H Q I h
 exact wpAny_Compare1 (qgi ha hb I h fun v u s2 x y H2 I2 rx ry q=>ho pins s2 σ H2 x y v u Q I2 rx ry q) hm
def qeg (t:TE):TT:=fun σ H Q=>t σ H fun x H'=>∃ k,x=.bl k∧Q k H'
theorem qu {op:CmpOp} {r:R2} (ho:OpR X (compareOp op) r) (ha:PE X a ta) (hb:PE X b tb) (hm:behindInMarks op b=false):PT X (.Compare a [op] [b] pos) (qeg (tOp r ta tb)):=by
 intro pins s σ H Q I h
 refine wpAny_isTrue_Compare1 (thn (ha pins s σ H _ I h) fun v s1 ⟨x,H1,I1,r1,q1⟩=>thn (hb pins s1 σ H1 _ I1 q1) fun u s2 ⟨y,H2,I2,r2,q2⟩ =>
  thn (ho pins s2 σ H2 x y v u _ I2 r1 r2 q2) fun c s3 ⟨z,H3,I3,r3,k,e,q3⟩=>?_) hm
 subst e
 cases r3
 exact wpAny_truthy_bool ⟨H3,I3,q3⟩
def qdE (r r':R2) (ta tb tc:TE):TE:=fun σ H Q=>ta σ H fun x H1=>tb σ H1 fun y H2=>r x y H2 fun z H3=>∃ k,z=.bl k ∧
 (if k=true then tc σ H3 fun w' H4=>r' y w' H4 Q else Q (.bl false) H3)
theorem qcS {op op':CmpOp} {r r':R2} (ho:OpR X (compareOp op) r) (ho':OpR X (compareOp op') r') (ha:PE X a ta) (hb:PE X b tb) (hc:PE X c tc)
  (hm:lastMarks [op,op'] [b,c]=false:=by with_unfolding_all rfl):PE X (.Compare a [op,op'] [b,c] pos) (qdE r r' ta tb tc):=by
 intro pins s σ H Q I h
 refine Compare_chain (thn (ha pins s σ H _ I h) fun v s1 ⟨x,H1,I1,r1,q1⟩=>chain_link (thn (hb pins s1 σ H1 _ I1 q1) fun u s2 ⟨y,H2,I2,r2,q2⟩ =>
  thn (ho pins s2 σ H2 x y v u _ I2 r1 r2 q2) fun d s3 ⟨z,H3,I3,r3,k,e,q3⟩=>?_)) hm
 subst e
 cases r3
 refine wpAny_truthy_bool ?_
 cases k with
 | false=>exact ite_ff ⟨.bl false,H3,I3,rfl,q3⟩
 | true=>exact ite_tt (chain_last (thn (hc pins s3 σ H3 _ I3 q3) fun w' s4 ⟨z',H4,I4,r4,q4⟩=>ho' pins s4 σ H4 y z' u w' Q I4 r2 r4 q4))
theorem pt_chain {op op':CmpOp} {r r':R2} (ho:OpR X (compareOp op) r) (ho':OpR X (compareOp op') r') (ha:PE X a ta) (hb:PE X b tb) (hc:PE X c tc)
  (hm:lastMarks [op,op'] [b,c]=false:=by with_unfolding_all rfl):PT X (.Compare a [op,op'] [b,c] pos) (qeg (qdE r r' ta tb tc)):=by
 intro pins s σ H Q I h
 refine isTrue_chain (thn (ha pins s σ H _ I h) fun v s1 ⟨x,H1,I1,r1,q1⟩=>test_link (thn (hb pins s1 σ H1 _ I1 q1) fun u s2 ⟨y,H2,I2,r2,q2⟩ =>
  thn (ho pins s2 σ H2 x y v u _ I2 r1 r2 q2) fun d s3 ⟨z,H3,I3,r3,k,e,q3⟩=>?_)) hm
 subst e
 cases r3
 refine wpAny_truthy_bool ?_
 cases k with
 | false =>
  obtain ⟨k',e',q'⟩:=q3
  cases e'
  exact ite_ff ⟨H3,I3,q'⟩
 | true =>
  refine ite_tt (test_last (thn (hc pins s3 σ H3 _ I3 q3) fun w' s4 ⟨z',H4,I4,r4,q4⟩=>thn (ho' pins s4 σ H4 y z' u w' _ I4 r2 r4 q4) fun d' s5 ⟨z2,H5,I5,r5,k2,e2,q5⟩=>?_))
  subst e2
  cases r5
  exact wpAny_truthy_bool ⟨H5,I5,q5⟩
theorem qbs:(sizeLine:Nat) < 2 ^ 63:=by rw [sizeLine_eq];decide
theorem op_add_str:OpR X (binaryOp .Add) (fun x y H Q=>∃ i j,x=.str i∧y=.str j∧i.length + j.length≤sizeLine∧Q (.str (i++j)) H):=by
 intro pins s σ H x y v u Q I rx ry h
 obtain ⟨i,j,rfl,rfl,hz,q⟩:=h
 obtain ⟨t,rfl⟩:=rx
 obtain ⟨t',rfl⟩:=ry
 exact add_str (fun t' tk=>⟨.str (i++j),H,I.tok _,⟨_,rfl⟩,q⟩) hz
theorem qa5 {x:V} {us:List Value} (r:Vals [x] us):∃ u,us=[u]∧RelV x u:=by
 cases r with
 | cons r1 r2=>cases r2;exact ⟨_,rfl,r1⟩
theorem qdF {x y:V} {us:List Value} (r:Vals [x,y] us):∃ u w',us=[u,w']∧RelV x u∧RelV y w':=by
 cases r with
 | cons r1 r2 =>
  cases r2 with
  | cons r3 r4=>cases r4;exact ⟨_,_,rfl,r1,r3⟩
theorem call_max2 (hc:X.calm=true):zM X (.builtin "max") (fun xs H Q=>∃ i j,xs=[.int i,.int j]∧Q (.int (if j > i then j else i)) H):=by
 intro pins s σ H xs us Q I r h
 obtain ⟨i,j,rfl,q⟩:=h
 obtain ⟨u,w',rfl,⟨t,rfl⟩,⟨t',rfl⟩⟩:=qdF r
 refine max_two_ints (I.ok.hd hc) fun h' tk k=>⟨_,H,I.kept k,?_,q⟩
 by_cases hj:j > i
 ·rw [if_pos hj,if_pos hj];exact ⟨_,rfl⟩
 ·rw [if_neg hj,if_neg hj];exact ⟨_,rfl⟩
theorem qbY (hc:X.calm=true):zM X (.builtin "min") (fun xs H Q=>∃ i j,xs=[.int i,.int j]∧Q (.int (if j < i then j else i)) H):=by
 intro pins s σ H xs us Q I r h
 obtain ⟨i,j,rfl,q⟩:=h
 obtain ⟨u,w',rfl,⟨t,rfl⟩,⟨t',rfl⟩⟩:=qdF r
 refine min_two_ints (I.ok.hd hc) fun h' tk k=>⟨_,H,I.kept k,?_,q⟩
 by_cases hj:j < i
 ·rw [if_pos hj,if_pos hj];exact ⟨_,rfl⟩
 ·rw [if_neg hj,if_neg hj];exact ⟨_,rfl⟩
theorem call_int1:zM X (.type "int") (fun xs H Q=>(∃ i,xs=[.int i]∧Q (.int i) H)∨∃ k,xs=[.bl k]∧Q (.int (if k then 1 else 0)) H):=by
 intro pins s σ H xs us Q I r h
 rcases h with ⟨i,rfl,q⟩ | ⟨k,rfl,q⟩
 ·obtain ⟨u,rfl,t,rfl⟩:=qa5 r
  exact call_int_int ⟨.int i,H,I,⟨_,rfl⟩,q⟩
 ·obtain ⟨u,rfl,r1⟩:=qa5 r
  cases r1
  exact call_int_bool ⟨.int (if k then 1 else 0),H,I.tok _,⟨_,rfl⟩,q⟩
end
end L2
namespace L2
open PySem PySem.Spec PyProof.Rows
structure ObjM (h:Heap) (x dx C:Addr) (mA:Str→Option Value):Prop where
 obj:h.get? x=some (PySem.W.instObj C dx)
 ns:h.Ns1 dx mA
 ne:dx≠x
theorem qbZ {h:Heap} {dx:Addr} {mA:Str→Option Value} (n:h.Ns1 dx mA):∃ od,h.get? dx=some od∧∀ name,PySem.W.lookIn name od=some (mA name):=by
 obtain ⟨o,es,ep,ho,hd,hk,_,hm⟩:=n
 refine ⟨o,ho,fun name=>?_⟩
 have e:=hm name
 unfold nsFind findBy at e
 rw [← Array.find?_toList] at e
 unfold PySem.W.lookIn
 rw [hd]
 dsimp only
 split
 ·rename_i y q
  rw [q] at e
  exact congrArg some e
 ·rename_i q
  rw [q] at e
  have a:es.toList.any (·.refKey)=false:=by
   rw [List.any_eq_false]
   intro y hy
   obtain ⟨z,t,hkey⟩:=hk y (Array.mem_toList_iff.mp hy)
   simp [DictEntry.refKey,hkey]
  have a':¬ es.toList.any (·.refKey)=true:=by rw [a];exact Bool.false_ne_true
  rw [if_neg a']
  exact congrArg some e
theorem ObjM.look {h:Heap} {x dx C:Addr} {mA:Str→Option Value} (I:ObjM h x dx C mA):∃ od,PySem.W.InstAt h x (PySem.W.instObj C dx) C (some od)∧∀ name,PySem.W.lookIn name od=some (mA name):=
 let ⟨od,ho,hl⟩:=qbZ I.ns
 ⟨od,⟨I.obj,rfl,rfl,ho⟩,hl⟩
section
variable {prog:Program} {w:World} {A:Around} {E:Value→Shared→Prop} {s:Shared} {K:PySem.W.Frag} {x dx C f:Addr} {mA:Str→Option Value} {name:Str} {v:Value}
theorem get_map {expr:Bool} {Q:Value→Shared→Prop} (X:K.In s.heap) (I:ObjM s.heap x dx C mA) (hg:PySem.W.plainGet K C name=true) (hh:PySem.W.hasDictIn K C=true)
  (ha:PySem.W.findIn K (.ref C) name=some none) (hv:mA name=some v) (hv':PySem.W.handedIn v=true) (h:Q v { s with toks:=s.toks + 1 }) :
  wpAny (model prog w) A (getAttr (.ref x) name expr) Q E s:=by
 obtain ⟨od,J,hl⟩:=I.look
 exact PySem.W.get_value X J (PySem.W.plainGet_of hg).1 (PySem.W.findObj_own hh ha rfl (by rw [hl,hv])) hv' h
theorem get_meth {pl:Sem Bool} {Q:Value×List Value→Shared→Prop} (X:K.In s.heap) (I:ObjM s.heap x dx C mA) (hg:PySem.W.plainGet K C name=true)
  (hf:PySem.W.findIn K (.ref C) name=some (some (.ref f))) (ht:PySem.W.isFn K (.ref f)=true) (hv:mA name=none) (h:Q (.ref f,[.ref x]) s) :
  wpAny (model prog w) A (getMethod (.ref x) name pl) Q E s:=by
 obtain ⟨od,J,hl⟩:=I.look
 exact PySem.W.method_fn X J (PySem.W.plainGet_of hg).1 (PySem.W.plainGet_of hg).2 hf (beq_iff_eq.mp ht) (by show (PySem.W.lookIn name od).map (·.isSome)=some false;rw [hl,hv];rfl) h
theorem set_map {ns:List Str} {Q:Unit→Shared→Prop} (X:K.In s.heap) (I:ObjM s.heap x dx C mA)
  (hs:PySem.W.findIn K (.ref C) "__setattr__"=some (some (.builtin "object.__setattr__"))) (hp:PySem.W.plainOver K C=true) (ht:PySem.W.takerIn K C name=some none) (hh:PySem.W.hasDictIn K C=true)
  (hw:PySem.Within mA ns) (hsz:ns.length≤sizeLine)
  (h:∀ h',ObjM h' x dx C (fun y=>if y=name then some v else mA y)→Heap.SameBut dx s.heap h'→Q () { s with heap:=h',toks:=s.toks + 2 }) :
  wpAny (model prog w) A (setAttr (.ref x) name v) Q E s:=by
 obtain ⟨od,J,hl⟩:=I.look
 refine PySem.W.set_plain X J hs (PySem.W.osa_open (s:={ s with toks:=s.toks + 1 }) (r:=none) X J hp ht fun b=>?_)
 obtain ⟨cd,hc,hd'⟩:=PySem.W.any_some hh
 have hx:s.heap.get? x=some ⟨.ref C,some dx,.plain,#[]⟩:=I.obj
 refine wpAny_bind (wpAny_pure (wpAny_bind (wpAny_bind (wpAny_loadPart hx (wpAny_bind (PySem.W.Looks.here (s:={ s with toks:=s.toks + 1 }) (PySem.W.looks_clsIn X hc) ?_))))))
 rw [hd']
 refine wpAny_pure (a:=some dx) (wpAny_bind (wpAny_pure (wpAny_bind ?_)))
 refine wpAny_nsSet1 (s:={ s with toks:=s.toks + 1 }) I.ns fun h' hn2 hs2=>?_
 obtain ⟨oD,esD,epD,hoD,hdD,hcD⟩:=hn2.count (PySem.Within.cons name v hw)
 refine wpAny_bind (wpAny_lookBehind hoD (by rw [hdD];exact pastItsLine_dict (Nat.le_trans hcD (by rw [List.length_cons];omega))) ?_)
 exact wpAny_pure (h _ ⟨(hs2.2 _ (Ne.symm I.ne)).trans I.obj,hn2,I.ne⟩ hs2)
theorem make_map {R:Result→Shared→Prop} {vs:List Value} {kw:List (Str×Value)} (X:K.In s.heap) (hm:PySem.W.makesIn K C=true)
  (hi:PySem.W.findIn K (.ref C) "__init__"=some (some (.ref f))) (hf:PySem.W.typeIn K (.ref f)=some (.type "function"))
  (h:codeAny (model prog w) (A.under (.builtin "type.__call__" ⟨.ref C::vs,kw⟩)) (.call (.ref f) ⟨.ref (s.heap.objs.size + 1)::vs,kw⟩) (PySem.W.InitBack (s.heap.objs.size + 1) R)
   { s with heap:=(s.heap.push PySem.W.emptyDict).push (PySem.W.instObj C s.heap.objs.size) }) :
  codeAny (model prog w) A (.call (.ref C) ⟨vs,kw⟩) R s:=by
 obtain ⟨hh,g,d,t,os⟩:=s
 exact PySem.W.make_core (PySem.W.makes_of X hm) (PySem.W.looks_findIn X hi) (fun self=>PySem.W.bind_fn X self hf) (.inl rfl) h
end
def jf (f:Str) (v:V):List (Str×V)→List (Str×V)
 | []=>[(f,v)]
 | (g,x)::r=>if g=f then (g,v)::r else (g,x)::jf f v r
theorem qv (f g:Str) (v:V):∀ fs:List (Str×V),(jf f v fs).lookup g=if g=f then some v else fs.lookup g
 | []=>by
  show List.lookup g [(f,v)]=_
  by_cases h:g=f
  ·have hb:(g==f)=true:=beq_iff_eq.mpr h
   simp only [List.lookup,hb,if_pos h]
  ·have hb:(g==f)=false:=beq_eq_false_iff_ne.mpr h
   simp only [List.lookup,hb,if_neg h]
 | (k,x)::r=>by
  have ih:=qv f g v r
  rw [show jf f v ((k,x)::r)=(if k=f then (k,v)::r else (k,x)::jf f v r) from rfl]
  by_cases hk:k=f
  ·rw [if_pos hk]
   by_cases h:g=k
   ·have hb:(g==k)=true:=beq_iff_eq.mpr h
    simp only [List.lookup,hb,if_pos (h.trans hk)]
   ·have hb:(g==k)=false:=beq_eq_false_iff_ne.mpr h
    simp only [List.lookup,hb,if_neg (fun e:g=f=>h (e.trans hk.symm))]
  ·rw [if_neg hk]
   by_cases h:g=k
   ·have hb:(g==k)=true:=beq_iff_eq.mpr h
    simp only [List.lookup,hb,if_neg (fun e:g=f=>hk (h.symm.trans e))]
   ·have hb:(g==k)=false:=beq_eq_false_iff_ne.mpr h
    simp only [List.lookup,hb]
    exact ih
theorem qa6 (f:Str) (v:V):∀ fs:List (Str×V),f∈(jf f v fs).map (·.1)∧∀ g,g∈fs.map (·.1)→g∈(jf f v fs).map (·.1)
 | []=>⟨by simp [jf],fun g h=>by simp at h⟩
 | (k,x)::r=>by
  obtain ⟨i1,i2⟩:=qa6 f v r
  rw [show jf f v ((k,x)::r)=(if k=f then (k,v)::r else (k,x)::jf f v r) from rfl]
  by_cases hk:k=f
  ·rw [if_pos hk]
   subst hk
   exact ⟨by simp,fun g h=>by simpa using h⟩
  ·rw [if_neg hk]
   refine ⟨?_,fun g h=>?_⟩
   ·rw [List.map_cons]
    exact List.mem_cons_of_mem _ i1
   ·rw [List.map_cons] at h ⊢
    rcases List.mem_cons.mp h with e | e
    ·exact List.mem_cons.mpr (.inl e)
    ·exact List.mem_cons_of_mem _ (i2 g e)
theorem jt (f:Str) (v:V):∀ fs:List (Str×V),(jf f v fs).length≤fs.length + 1
 | []=>by simp [jf]
 | (k,x)::r=>by
  have ih:=jt f v r
  rw [show jf f v ((k,x)::r)=(if k=f then (k,v)::r else (k,x)::jf f v r) from rfl]
  by_cases hk:k=f
  ·rw [if_pos hk,List.length_cons,List.length_cons];omega
  ·rw [if_neg hk,List.length_cons,List.length_cons];omega
theorem RelO.some_of {v:V} {o:Option Value} (r:RelO (some v) o):∃ u,o=some u∧RelV v u:=by
 cases o with
 | none=>exact (show False from r).elim
 | some u=>exact ⟨u,rfl,r⟩
theorem RelO.none_of {o:Option Value} (r:RelO none o):o=none:=by
 cases o with
 | none=>rfl
 | some u=>exact (show False from r).elim
theorem qb0 {v:V} {u:Value} (r:RelV v u):PySem.W.handedIn u=true:=by
 cases v with
 | non=>cases (show u=Value.none from r);rfl
 | bl b=>cases (show u=Value.bool b from r);rfl
 | int i=>obtain ⟨t,e⟩:=(show ∃ t,u=Value.int i t from r);cases e;rfl
 | str x=>obtain ⟨t,e⟩:=(show ∃ t,u=Value.str x t from r);cases e;rfl
 | byt b=>obtain ⟨t,e⟩:=(show ∃ t,u=Value.bytes b t from r);cases e;rfl
 | flt b=>obtain ⟨t,e⟩:=(show ∃ t,u=Value.float b t from r);cases e;rfl
 | ref a=>cases (show u=Value.ref a from r);rfl
 | ty n=>cases (show u=Value.type n from r);rfl
section
variable {P:Program} {w:World} {H H':Hp} {h h':Heap} {a C dx:Addr} {fs fs':List (Str×V)}
theorem qaM (hok:HOk P w H h) (e:H a=some (.ins C dx fs)):∃ mA,ObjM h a dx C mA∧(∀ f,RelO (fs.lookup f) (mA f))∧PySem.Within mA (fs.map (·.1))∧fs.length≤1000∧H dx=some (.own a):=by
 obtain ⟨d,z,ne,ob,mA,n,r,q⟩:=(show ObjOk P w H h a (.ins C dx fs) from hok a _ e)
 exact ⟨mA,⟨ob,n,ne⟩,r,q,z,d⟩
end
structure Cls (K:PySem.W.Frag) (C:Addr):Prop where
 pg:PySem.W.plainGet K C Str.empty=true
 hd:PySem.W.hasDictIn K C=true
 po:PySem.W.plainOver K C=true
 sa:PySem.W.findIn K (.ref C) "__setattr__"=some (some (.builtin "object.__setattr__"))
theorem Cls.get {K:PySem.W.Frag} {C:Addr} (c:Cls K C) (f:Str):PySem.W.plainGet K C f=true:=c.pg
def NoAttr (K:PySem.W.Frag) (C:Addr) (f:Str):Prop:=PySem.W.findIn K (.ref C) f=some none
theorem NoAttr.taker {K:PySem.W.Frag} {C:Addr} {f:Str} (n:NoAttr K C f):PySem.W.takerIn K C f=some none:=by
 unfold PySem.W.takerIn
 rw [show PySem.W.findIn K (.ref C) f=some none from n]
 rfl
structure Con (K:PySem.W.Frag) (C:Addr) (f:Str) (v:V) (u:Value):Prop where
 at_:PySem.W.findIn K (.ref C) f=some (some u)
 rel:RelV v u
 get:PySem.W.specialIn K u "__get__"=some none
 cp:PySem.W.copiedNames.contains f=false
structure Meth (K:PySem.W.Frag) (C:Addr) (m:Str) (f:Addr):Prop where
 at_:PySem.W.findIn K (.ref C) m=some (some (.ref f))
 fn:PySem.W.isFn K (.ref f)=true
 kp:PySem.W.keepIn K (.ref f)=true
section
variable {X:Cx} {pins:List (Addr×Obj)} {σ:St} {H:Hp} {s:Shared} {a C dx:Addr} {fs:List (Str×V)} {f:Str} {v:V} {A:Around} {E:Value→Shared→Prop}
theorem getattr_ok {b:Bool} {Q:Value→Shared→Prop} (I:Inv X pins σ H s) (e:H a=some (.ins C dx fs)) (c:Cls X.K C) (n:NoAttr X.K C f) (l:fs.lookup f=some v)
  (h:∀ u s',Inv X pins σ H s'→RelV v u→Q u s'):wpAny (model X.prog X.w) A (getAttr (.ref a) f b) Q E s:=by
 obtain ⟨mA,O,r,_,_,_⟩:=qaM I.hok e
 obtain ⟨u,hu,ru⟩:=RelO.some_of (v:=v) (o:=mA f) (by rw [← l];exact r f)
 exact get_map I.kIn O (c.get f) c.hd n hu (qb0 ru) (h u _ (I.tok _) ru)
theorem qaN {m:Str} {g:Addr} {pl:Sem Bool} {Q:Value×List Value→Shared→Prop} (I:Inv X pins σ H s) (e:H a=some (.ins C dx fs)) (c:Cls X.K C) (k:Meth X.K C m g) (l:fs.lookup m=none)
  (h:Q (.ref g,[.ref a]) s):wpAny (model X.prog X.w) A (getMethod (.ref a) m pl) Q E s:=by
 obtain ⟨mA,O,r,_,_,_⟩:=qaM I.hok e
 have hn:mA m=none:=RelO.none_of (by rw [← l];exact r m)
 exact get_meth I.kIn O (c.get m) k.at_ k.fn hn h
theorem setattr_ok {y:V} {u:Value} {Q:Unit→Shared→Prop} (I:Inv X pins σ H s) (e:H a=some (.ins C dx fs)) (c:Cls X.K C) (n:NoAttr X.K C f) (hl:fs.length < 1000) (ry:RelV y u)
  (h:∀ s',Inv X pins σ (upd H a (.ins C dx (jf f y fs))) s'→Q () s'):wpAny (model X.prog X.w) A (setAttr (.ref a) f u) Q E s:=by
 obtain ⟨mA,O,r,wi,_,ho⟩:=qaM I.hok e
 have hz:(fs.map (·.1)).length≤sizeLine:=by rw [List.length_map,sizeLine_eq];omega
 refine set_map I.kIn O c.sa c.po n.taker c.hd wi hz fun h' O' sb=>h _ ?_
 have hd:∃ o,h'.get? dx=some o:=let ⟨o,_,_,e',_⟩:=O'.ns;⟨o,e'⟩
 refine I.write (x:=a) (e:=dx) (by rw [e];exact True.intro) (.inr ho) (fun b q hb z=>(sb.2 b hb).trans z) hd ?_
 refine ⟨by rw [qi O.ne];exact ho,?_,O.ne,O'.obj,_,O'.ns,fun g=>?_,fun g hg=>?_⟩
 ·have:=jt f y fs;omega
 ·show RelO ((jf f y fs).lookup g) (if g=f then some u else mA g)
  rw [qv]
  by_cases q:g=f
  ·rw [if_pos q,if_pos q];exact ry
  ·rw [if_neg q,if_neg q];exact r g
 ·by_cases q:g=f
  ·rw [q];exact (qa6 f y fs).1
  ·refine (qa6 f y fs).2 g (wi g fun z=>hg ?_)
   show (if g=f then some u else mA g)=none
   rw [if_neg q];exact z
theorem Inv.made (I:Inv X pins σ H s):Inv X pins σ (upd (upd H s.heap.objs.size (.own (s.heap.objs.size + 1))) (s.heap.objs.size + 1) (.ins C s.heap.objs.size []))
  { s with heap:=(s.heap.push PySem.W.emptyDict).push (PySem.W.instObj C s.heap.objs.size) }:=by
 have e1:(s.heap.push PySem.W.emptyDict).get? s.heap.objs.size=some PySem.W.emptyDict:=Heap.get?_push_size s.heap rfl
 have e2:((s.heap.push PySem.W.emptyDict).push (PySem.W.instObj C s.heap.objs.size)).get? (s.heap.objs.size + 1)=some (PySem.W.instObj C s.heap.objs.size):=by
  have:=Heap.get?_push_size (s.heap.push PySem.W.emptyDict) (o:=PySem.W.instObj C s.heap.objs.size) rfl
  rwa [Heap.size_push] at this
 have e3:(s.heap.push PySem.W.emptyDict).Ns s.heap.objs.size (fun _=>none):=⟨PySem.W.emptyDict,#[],_,e1,rfl,(fun e he=>absurd he (by simp)),fun _=>rfl⟩
 have I1:=I.laid (a:=s.heap.objs.size) (o:=.own (s.heap.objs.size + 1)) (h':=s.heap.push PySem.W.emptyDict) (t':=s.toks) (fun b u q=>Heap.get?_push_of_some _ q) (Nat.le_refl _) ⟨_,e1⟩
 refine I1.laid (a:=s.heap.objs.size + 1) (o:=.ins C s.heap.objs.size []) (t':=s.toks) (fun b u q=>Heap.get?_push_of_some _ q) (Nat.le_of_eq (Heap.size_push _ _)) ?_
 have ne:s.heap.objs.size≠s.heap.objs.size + 1:=Nat.ne_of_lt (Nat.lt_succ_self _)
 refine ⟨by rw [qi ne,qd],Nat.zero_le _,ne,e2,fun _=>none,(Heap.Ns1.of_empty e3).at fun o q=>Heap.get?_push_of_some _ q,fun _=>True.intro,fun y hy=>absurd rfl hy⟩
theorem attr_of {prog:Program} {w:World} {env:Env} {e:Expr} {f:Str} {pos:Pos} {s:Shared} {Q:Value→Shared→Prop} (hb:attributeBase e f env (eval e env)=eval e env)
  (h:wpAny (model prog w) A (eval e env) (fun o s₁=>wpAny (model prog w) A (getAttr o f true) Q E s₁) E s):wpAny (model prog w) A (eval (.Attribute e f pos) env) Q E s:=
 Attribute_any_ h (by rw [arm_eval_Attribute,hb])
end
section
variable {X:Cx} {o e value:Expr} {f:Str} {pos pos' tpos:Pos} {ta tv:TE}
end
section
variable {X:Cx} {pins:List (Addr×Obj)} {σ:St} {H:Hp} {s:Shared} {A:Around} {E:Value→Shared→Prop} {Q:Value→Shared→Prop} {c:Value} {b:Bool}
inductive TyOf (K:PySem.W.Frag) (H:Hp):V→Value→Prop where
 | non:TyOf K H .non (.type "NoneType")
 | bl (x:Bool):TyOf K H (.bl x) (.type "bool")
 | int (i:Int):TyOf K H (.int i) (.type "int")
 | str (x:Str):TyOf K H (.str x) (.type "str")
 | flt (x:UInt64):TyOf K H (.flt x) (.type "float")
 | lst {a:Addr} {xs:List V} (e:H a=some (.lst xs)):TyOf K H (.ref a) (.type "list")
 | frz {a:Addr} {o:Obj} {xs:List V} (e:H a=some (.frz o (.lst xs))):TyOf K H (.ref a) (.type "list")
 | tup {a:Addr} {xs:List V} (e:H a=some (.tup xs)):TyOf K H (.ref a) (.type "tuple")
 | dK {a:Addr} {kvs:List (Key×V)} (e:H a=some (.dK kvs)):TyOf K H (.ref a) (.type "dict")
 | dT {a:Addr} {kvs:List (List Key×V)} (e:H a=some (.dT kvs)):TyOf K H (.ref a) (.type "dict")
 | ins {a C dx:Addr} {fs:List (Str×V)} (e:H a=some (.ins C dx fs)) (cl:Cls K C) (ha:PySem.W.findIn K (.ref C) "__class__"=some (some (.builtin "object.__class__")))
   (hn:PySem.W.specialIn K (.builtin "object.__class__") "__get__"=some (some (.builtin "getset_descriptor.__get__"))) (htk:PySem.W.takesIn K (.builtin "object.__class__")=some true)
   (hm:PySem.W.mroIn K C (.type "object")=some true):TyOf K H (.ref a) (.ref C)
end
end L2
namespace L2
open PySem PySem.Spec PyProof.Rows
structure Room (k:Nat) (A:Around):Prop where
 hd:A.handled=none
 dp:A.depth + 3 * k + 5 < recursionLimit
 un:A.units + 16 * k + 200 < cLine
 gd:A.guards=some []
theorem Room.mono {j k:Nat} {A:Around} (r:Room k A) (h:j≤k):Room j A:=⟨r.hd,by have:=r.dp;omega,by have:=r.un;omega,r.gd⟩
theorem Room.deeper {k:Nat} {A:Around} (r:Room (k + 1) A) (env:Env):Room k (A.deeper env):=
 ⟨r.hd,by have:=r.dp;show A.depth + 1 + 3 * k + 5 < _;omega,by have:=r.un;show A.units + 3 + 16 * k + 200 < _;omega,r.gd⟩
theorem make_depth {A:Around} {C:Addr} {us:List Value} {kw:List (Str×Value)}:(A.under (.builtin "type.__call__" ⟨.ref C::us,kw⟩)).depth=A.depth + 1:=by
 first | rfl | simp [Around.under,Code.weight,Code.isCreation,Code.isGuard,Code.isCaller,Code.frames,Code.isFrame,guardIds]
theorem make_units {A:Around} {C:Addr} {us:List Value} {kw:List (Str×Value)}:(A.under (.builtin "type.__call__" ⟨.ref C::us,kw⟩)).units=A.units + 1:=by
 first | rfl | simp [Around.under,Code.cUnits,Code.frames,Code.isFrame]
theorem make_guards {A:Around} {C:Addr} {us:List Value} {kw:List (Str×Value)}:(A.under (.builtin "type.__call__" ⟨.ref C::us,kw⟩)).guards=A.guards:=by
 first | rfl | simp [Around.under,Code.guards,Code.isGuard,guardIds,pushGuards]
theorem Room.make {k:Nat} {A:Around} (r:Room (k + 1) A) (C:Addr) (us:List Value) (kw:List (Str×Value)):Room k (A.under (.builtin "type.__call__" ⟨.ref C::us,kw⟩)):=
 ⟨r.hd,by have:=r.dp;rw [make_depth];omega,by have:=r.un;rw [make_units];omega,by rw [make_guards];exact r.gd⟩
theorem Room.depth {k:Nat} {A:Around} (r:Room k A):A.depth < recursionLimit:=by have:=r.dp;omega
def qdB:TA:=fun _ H Q=>Q [] H
def j6 (ta:TE) (tr:TA):TA:=fun σ H Q=>ta σ H fun x H1=>tr σ H1 fun xs H2=>Q (x::xs) H2
section
variable {X:Cx} {e:Expr} {es:List Expr} {te:TE} {t:TA} {pos:Pos}
theorem qc:PA X [] qdB:=fun _ _ _ _ H Q I h=>Calls.spliced_nil ⟨[],H,I,.nil,h⟩
theorem qa (ha:PE X e te) (hr:PA X es t) (hs:starEach (e::es) X.env=(false,eval e X.env)::starEach es X.env:=by rfl):PA X (e::es) (j6 te t):=by
 intro pos pins s σ H Q I h
 rw [hs]
 show wpAny _ _ (spliced ((false,eval e X.env)::backTo pos (starEach es X.env))) _ _ s
 refine Calls.spliced_cons (thn (ha pins s σ H _ I h) fun u s1 ⟨x,H1,I1,r1,q1⟩=>?_)
 exact thn (hr pos pins s1 σ H1 _ I1 q1) fun us s2 ⟨xs,H2,I2,r2,q2⟩=>⟨x::xs,H2,I2,.cons r1 r2,q2⟩
def qgJ (t:TA):TE:=fun σ H Q=>t σ H fun xs H1=>xs.length≤sizeLine∧∀ p,H1 p=none→Q (.ref p) (upd H1 p (.tup xs))
def qgj (t:TA):TE:=fun σ H Q=>t σ H fun xs H1=>xs.length≤sizeLine∧∀ p,H1 p=none→Q (.ref p) (upd H1 p (.lst xs))
theorem jD {x1} (h:PA X es t):PE X (.Tuple es x1 pos) (qgJ t):=by
 intro pins s σ H Q I hq
 refine wpAny_Tuple_spliced (thn (h pos pins s σ H _ I hq) fun us s1 ⟨xs,H1,I1,r,z,q⟩=>⟨by rw [← r.length];exact z,?_⟩)
 have hf:H1 s1.heap.objs.size=none:=I1.hok.fresh (Nat.le_refl _)
 refine ⟨.ref s1.heap.objs.size,upd H1 s1.heap.objs.size (.tup xs),I1.laid (t':=s1.toks) (fun b u e=>Heap.get?_push_of_some _ e) (Nat.le_refl _) ?_,rfl,q _ hf⟩
 exact ⟨z,us,r,⟨_,Heap.get?_push_size _ rfl,rfl,_,rfl⟩⟩
theorem js (h:PA X es t):PE X (.List es pos) (qgj t):=by
 intro pins s σ H Q I hq
 refine wpAny_List_spliced (thn (h pos pins s σ H _ I hq) fun us s1 ⟨xs,H1,I1,r,z,q⟩=>⟨by rw [← r.length];exact z,?_⟩)
 have hf:H1 s1.heap.objs.size=none:=I1.hok.fresh (Nat.le_refl _)
 refine ⟨.ref s1.heap.objs.size,upd H1 s1.heap.objs.size (.lst xs),I1.laid (t':=s1.toks) (fun b u e=>Heap.get?_push_of_some _ e) (Nat.le_refl _) ?_,rfl,q _ hf⟩
 exact ⟨z,us,0,r,Heap.get?_push_size _ rfl⟩
end
abbrev Sp:=List V→Hp→VK→XK→Prop
abbrev CXT:=List Env→Hp→Shared→XK→Value→Shared→Prop
structure Env0 (P:Program) (w:World) (K:PySem.W.Frag) (mg:Str→Option Value) (base:Heap) (A:Around) (outer:List Env) (s:Shared) (H:Hp):Prop where
 frames:A.frames=some outer
 mod:Mod K mg base
 bs:∀ b o,base.get? b=some o→s.heap.get? b=some o∧H b=none
 bsz:base.objs.size≤s.heap.objs.size
 funs:s.heap.FunFrames base outer
 frf:∀ b∈frs outer,H b=none
 hok:HOk P w H s.heap
 bare:AllBare s.gens
def CE (outer:List Env) (P:Program) (w:World) (H:Hp) (s:Shared) (Q:VK) (u:Value) (s':Shared):Prop:=
 ∃ v H',s'.os=s.os∧AllBare s'.gens∧Un (frs outer) [] H H' s.heap s'.heap∧HOk P w H' s'.heap∧RelV v u∧Q v H'
def CR (CX:CXT) (outer:List Env) (P:Program) (w:World) (H:Hp) (s:Shared) (Q:VK) (E:XK) (r:Result) (s':Shared):Prop:=
 match r with
 | .ok (.ret u)=>CE outer P w H s Q u s'
 | .ok _=>False
 | .error e=>CX outer H s E e s'
structure FnOk (P:Program) (w:World) (K:PySem.W.Frag) (mg:Str→Option Value) (base:Heap) (CX:CXT) (k:Nat) (f:Addr) (fd:FuncData) (ps:List Str) (sp:Sp):Prop where
 len:∀ vs H Q E,sp vs H Q E→vs.length=ps.length
 run:∀ (A:Around) (outer:List Env) (s:Shared) (H:Hp) (args:Args) (us:List Value) (vs:List V) (Q:VK) (E:XK),Room k A→Env0 P w K mg base A outer s H→BindsTo s fd args (ps.zip us)→Vals vs us→sp vs H Q E →
  codeAny (model P w) A (.call (.ref f) args) (CR CX outer P w H s Q E) s
theorem Env0.make {P:Program} {w:World} {K:PySem.W.Frag} {mg:Str→Option Value} {base:Heap} {A:Around} {outer:List Env} {s:Shared} {H:Hp} (e:Env0 P w K mg base A outer s H) (C:Addr) (us:List Value) (kw:List (Str×Value)) :
  Env0 P w K mg base (A.under (.builtin "type.__call__" ⟨.ref C::us,kw⟩)) outer s H:=⟨by first | exact e.frames | (simpa [Around.under,Code.envs,Code.isFrame,pushEnvs] using e.frames),e.mod,e.bs,e.bsz,e.funs,e.frf,e.hok,e.bare⟩
section
variable {X:Cx} {pins:List (Addr×Obj)} {σ:St} {H:Hp} {s s':Shared}
theorem Inv.env0 (I:Inv X pins σ H s):Env0 X.prog X.w X.K X.mg X.base X.A X.stack s H:=
 ⟨I.ok.frames,I.ok.mod,I.bs,Nat.le_trans I.ok.bsz I.sz,I.stack,I.stkFree,I.hok,I.bare⟩
theorem Inv.after {Q:VK} {u:Value} (I:Inv X pins σ H s) (h:CE X.stack X.prog X.w H s Q u s'):EP X pins σ Q u s':=by
 obtain ⟨v,H',os,bare,un,hok,r,q⟩:=h
 obtain ⟨hh,g,d,t,os'⟩:=s'
 obtain rfl:os'=s.os:=os
 exact ⟨v,H',I.call (h':=hh) (g':=g) (d':=d) (t':=t) (ch:=[]) un hok bare (fun b z=>absurd z (by simp)),r,q⟩
end
def qcx (sp:Sp) (dvs:List V) (E:XK) (t:TA):TE:=fun σ H Q=>t σ H fun vs H1=>sp (vs++dvs) H1 Q E
def qds (C:Addr) (m:Str) (sp:Sp) (dvs:List V) (E:XK) (ta:TE) (t:TA):TE:=fun σ H Q=>ta σ H fun x H1=>∃ a dx fs,x=.ref a∧H1 a=some (.ins C dx fs)∧fs.lookup m=none ∧
 t σ H1 fun vs H2=>sp (x::(vs++dvs)) H2 Q E
def qe7 (C:Addr) (sp:Sp) (dvs:List V) (E:XK) (t:TA):TE:=fun σ H Q=>t σ H fun vs H1=>∀ x dx,H1 x=none→H1 dx=none→dx≠x →
 sp (.ref x::(vs++dvs)) (upd (upd H1 dx (.own x)) x (.ins C dx [])) (fun v H2=>v=.non∧Q (.ref x) H2) E
def Binds (K:PySem.W.Frag) (fd:FuncData) (ps:List Str) (ds:List Value):Prop:=
 ∀ (s:Shared) (us:List Value),K.In s.heap→(us++ds).length=ps.length→BindsTo s fd ⟨us,[]⟩ (ps.zip (us++ds))
theorem Binds.all {K:PySem.W.Frag} {fd:FuncData} {ps:List Str} (h:∀ us:List Value,us.length=ps.length→bindArgs fd ⟨us,[]⟩=pure (ps.zip us)):Binds K fd ps []:=fun s us _ hl=>by
 rw [List.append_nil] at hl ⊢
 exact .of_eq (h us hl)
def qac (CX:CXT) (X:Cx) (E:XK):Prop:=∀ (pins:List (Addr×Obj)) (σ:St) (H:Hp) (s:Shared) (e:Value) (s':Shared),Inv X pins σ H s→CX X.stack H s E e s'→X.xe e s'
section
variable {X:Cx} {CX:CXT} {k:Nat} {f C:Addr} {fd:FuncData} {ps:List Str} {sp:Sp} {dvs:List V} {ds:List Value} {E:XK} {x m:Str} {p pos apos:Pos} {e o:Expr} {es:List Expr} {ta:TE} {t:TA}
theorem qcT {pins:List (Addr×Obj)} {σ:St} {H:Hp} {s:Shared} {Q:VK} {us:List Value} {vs:List V} (F:FnOk X.prog X.w X.K X.mg X.base CX k f fd ps sp) (hr:Room k X.A) (hb:Binds X.K fd ps ds) (hd:Vals dvs ds) (hx:qac CX X E)
  (I:Inv X pins σ H s) (r:Vals vs us) (h:sp (vs++dvs) H Q E):wpAny (model X.prog X.w) X.A (call (.ref f) us) (EP X pins σ Q) X.xe s:=by
 have r2:Vals (vs++dvs) (us++ds):=r.append hd
 have hl:(us++ds).length=ps.length:=by rw [← r2.length];exact F.len _ _ _ _ h
 refine wpAny_call (codeAny_mono (F.run X.A X.stack s H ⟨us,[]⟩ (us++ds) (vs++dvs) Q E hr I.env0 (hb s us I.kIn hl) r2 h) fun r s' hq=>?_)
 cases r with
 | error e=>exact hx pins σ H s e s' I hq
 | ok fl =>
  cases fl with
  | ret u=>exact I.after hq
  | next=>exact False.elim hq
  | brk=>exact False.elim hq
  | cont=>exact False.elim hq
theorem pe_call (F:FnOk X.prog X.w X.K X.mg X.base CX k f fd ps sp) (hr:Room k X.A) (hg:Gl X x) (hm:X.mg x=some (.ref f)) (hk:PySem.W.keepIn X.K (.ref f)=true) (hb:Binds X.K fd ps ds) (hd:Vals dvs ds) (hx:qac CX X E)
  (ha:PA X (e::es) t) (hdb:(x==("__debug__":Str))=false:=by decide) (he:starEach (e::es) X.env=(false,eval e X.env)::starEach es X.env:=by rfl) (hpl:(backTo pos (starEach es X.env)).any (·.1)=false:=by rfl) :
  PE X (.Call (.Name x p) (e::es) [] pos) (qcx sp dvs E t):=by
 intro pins s σ H Q I h
 refine wpAny_Call_Name_kw (qab I hg hm ?_ hdb)
 refine PySem.W.callWith_K (h₀:=X.base) I.ok.mod.kin hk (thn (ha pos pins s σ H _ I h) fun us s1 ⟨vs,H1,I1,r,q⟩=>⟨I1.kIn,?_⟩) he hpl
 exact qcT F hr hb hd hx I1 r q
theorem pe_meth {pl:Sem Bool} (he:PE X o ta) (c:Cls X.K C) (hm:Meth X.K C m f) (F:FnOk X.prog X.w X.K X.mg X.base CX k f fd ps sp) (hr:Room k X.A) (hb:Binds X.K fd ps ds) (hd:Vals dvs ds) (hx:qac CX X E) (ha:PA X (e::es) t)
  (hst:starEach (e::es) X.env=(false,eval e X.env)::starEach es X.env:=by rfl) (hpl:(backTo pos (starEach es X.env)).any (·.1)=false:=by rfl)
  (ht:eval (.Call (.Attribute o m apos) (e::es) [] pos) X.env=(do
   let ov ← eval o X.env
   standAt apos.atName
   let (f,first) ← holding [ov] (getMethod ov m pl)
   callWith pos f first (backTo pos (starEach (e::es) X.env)) (backToKw pos (keywordEach [] X.env))):=by rfl) :
  PE X (.Call (.Attribute o m apos) (e::es) [] pos) (qds C m sp dvs E ta t):=by
 intro pins s σ H Q I h
 refine PySem.W.methodCall_KW (pl:=pl) (thn (he pins s σ H _ I h) fun u s1 ⟨x,H1,I1,rx,a,dx,fs,ex,ea,l,q⟩=>?_) ht
 subst ex
 obtain rfl:u=Value.ref a:=rx
 refine qaN I1 ea c hm l ?_
 refine PySem.W.callWith_K (first:=[.ref a]) (h₀:=X.base) I.ok.mod.kin hm.kp (thn (ha pos pins s1 σ H1 _ I1 q) fun us s2 ⟨vs,H2,I2,r,q2⟩=>⟨I2.kIn,?_⟩) hst hpl
 exact qcT (us:=.ref a::us) (vs:=.ref a::vs) F hr hb hd hx I2 (.cons rfl r) q2
theorem pe_meth0 {pl:Sem Bool} (he:PE X o ta) (c:Cls X.K C) (hm:Meth X.K C m f) (F:FnOk X.prog X.w X.K X.mg X.base CX k f fd ps sp) (hr:Room k X.A) (hb:Binds X.K fd ps ds) (hd:Vals dvs ds) (hx:qac CX X E)
  (ht:eval (.Call (.Attribute o m apos) [] [] pos) X.env=(do
   let ov ← eval o X.env
   standAt apos.atName
   let (f,first) ← holding [ov] (getMethod ov m pl)
   callWith pos f first (backTo pos (starEach [] X.env)) (backToKw pos (keywordEach [] X.env))):=by rfl) :
  PE X (.Call (.Attribute o m apos) [] [] pos) (qds C m sp dvs E ta qdB):=by
 intro pins s σ H Q I h
 refine PySem.W.methodCall_KW (pl:=pl) (thn (he pins s σ H _ I h) fun u s1 ⟨x,H1,I1,rx,a,dx,fs,ex,ea,l,q⟩=>?_) ht
 subst ex
 obtain rfl:u=Value.ref a:=rx
 refine qaN I1 ea c hm l ?_
 exact PySem.W.callWith_K0 (first:=[.ref a]) I1.kIn hm.kp (qcT (us:=[.ref a]) (vs:=[.ref a]) F hr hb hd hx I1 (.cons rfl .nil) q)
structure Mk (K:PySem.W.Frag) (C f:Addr):Prop where
 makes:PySem.W.makesIn K C=true
 init:PySem.W.findIn K (.ref C) "__init__"=some (some (.ref f))
 fn:PySem.W.isFn K (.ref f)=true
 kp:PySem.W.keepIn K (.ref C)=true
theorem run_make {pins:List (Addr×Obj)} {σ:St} {H:Hp} {s:Shared} {Q:VK} {us:List Value} {vs:List V} (M:Mk X.K C f) (F:FnOk X.prog X.w X.K X.mg X.base CX k f fd ps sp) (hr:Room (k + 1) X.A) (hb:Binds X.K fd ps ds) (hd:Vals dvs ds)
  (hx:qac CX X E) (I:Inv X pins σ H s) (r:Vals vs us)
  (h:∀ x dx,H x=none→H dx=none→dx≠x→sp (.ref x::(vs++dvs)) (upd (upd H dx (.own x)) x (.ins C dx [])) (fun v H2=>v=.non∧Q (.ref x) H2) E) :
  wpAny (model X.prog X.w) X.A (call (.ref C) us) (EP X pins σ Q) X.xe s:=by
 have hq:=h (s.heap.objs.size + 1) s.heap.objs.size (I.hok.fresh (Nat.le_succ _)) (I.hok.fresh (Nat.le_refl _)) (Nat.ne_of_lt (Nat.lt_succ_self _))
 have I2:=Inv.made (C:=C) I
 have r2:Vals (V.ref (s.heap.objs.size + 1)::(vs++dvs)) (Value.ref (s.heap.objs.size + 1)::(us++ds)):=.cons rfl (r.append hd)
 have hl:(Value.ref (s.heap.objs.size + 1)::us++ds).length=ps.length:=by
  have e:=r2.length
  rw [F.len _ _ _ _ hq] at e
  exact e.symm
 refine wpAny_call (make_map (f:=f) I.kIn M.makes M.init (beq_iff_eq.mp M.fn) (codeAny_mono (F.run _ X.stack _ _ ⟨Value.ref (s.heap.objs.size + 1)::us,[]⟩ (Value.ref (s.heap.objs.size + 1)::(us++ds)) _ _ E (hr.make C us [])
  (I2.env0.make C us []) (hb _ (Value.ref (s.heap.objs.size + 1)::us) I2.kIn hl) r2 hq) fun r s' hq'=>?_))
 cases r with
 | error e=>exact hx pins σ _ _ e s' I2 hq'
 | ok fl =>
  cases fl with
  | ret u =>
   obtain ⟨v,H',I3,rv,ev,q3⟩:=I2.after hq'
   subst ev
   exact ⟨rv,⟨V.ref (s.heap.objs.size + 1),H',I3,rfl,q3⟩⟩
  | next=>exact False.elim hq'
  | brk=>exact False.elim hq'
  | cont=>exact False.elim hq'
theorem pe_make (M:Mk X.K C f) (F:FnOk X.prog X.w X.K X.mg X.base CX k f fd ps sp) (hr:Room (k + 1) X.A) (hg:Gl X x) (hm:X.mg x=some (.ref C)) (hb:Binds X.K fd ps ds) (hd:Vals dvs ds) (hx:qac CX X E)
  (ha:PA X (e::es) t) (hdb:(x==("__debug__":Str))=false:=by decide) (he:starEach (e::es) X.env=(false,eval e X.env)::starEach es X.env:=by rfl) (hpl:(backTo pos (starEach es X.env)).any (·.1)=false:=by rfl) :
  PE X (.Call (.Name x p) (e::es) [] pos) (qe7 C sp dvs E t):=by
 intro pins s σ H Q I h
 refine wpAny_Call_Name_kw (qab I hg hm ?_ hdb)
 refine PySem.W.callWith_K (h₀:=X.base) I.ok.mod.kin M.kp (thn (ha pos pins s σ H _ I h) fun us s1 ⟨vs,H1,I1,r,q⟩=>⟨I1.kIn,?_⟩) he hpl
 exact run_make M F hr hb hd hx I1 r q
end
section
variable {X:Cx} {CX:CXT} {k:Nat} {f C:Addr} {fd:FuncData} {ps ks:List Str} {sp:Sp} {E:XK} {x m:Str} {p pos apos kpos:Pos} {e o:Expr} {es:List Expr} {kws:List Keyword} {te ta:TE} {t tk:TA} {nm:Option Str}
structure KBinds (K:PySem.W.Frag) (fd:FuncData) (ps ks:List Str) (g:List Value→List Value→List Value) (gV:List V→List V→List V):Prop where
 to:∀ (s:Shared) (us ws:List Value),K.In s.heap→(g us ws).length=ps.length→BindsTo s fd ⟨us,ks.zip ws⟩ (ps.zip (g us ws))
 rel:∀ {vs:List V} {us:List Value} {zs:List V} {ws:List Value},Vals vs us→Vals zs ws→Vals (gV vs zs) (g us ws)
variable {g:List Value→List Value→List Value} {gV:List V→List V→List V}
end
structure FnScope (N P:List Str) (sc:Scope):Prop where
 kind:sc.kind=.function
 co:sc.isCoroutine=false
 gen:sc.isGenerator=false
 nd:N.Nodup
 pre:N.take P.length=P
 par:∀ x∈P,sc.names.lookup x=some .local∨sc.names.lookup x=some .cell
 nofree:∀ y∈sc.names,y.2≠.free
theorem qb1 {kindOf:Str→Option NameKind} {x:Str}:∀ {binds:List (Str×Value)} {m:Str→Option Value},(∀ v,(x,v)∉binds)→bindL kindOf binds m x=m x
 | [],_,_=>rfl
 | (n,v)::r,m,h=>by
  unfold bindL
  rw [qb1 fun w hw=>h w (List.mem_cons_of_mem _ hw)]
  split
  ·have:x≠n:=by rintro rfl;exact h v List.mem_cons_self
   simp [this]
  ·rfl
theorem qb2 {kindOf:Str→Option NameKind} {x:Str}:∀ {binds:List (Str×Value)} {m:Str→Option Value},(∀ v,(x,v)∉binds)→bindC kindOf binds m x=m x
 | [],_,_=>rfl
 | (n,v)::r,m,h=>by
  unfold bindC
  rw [qb2 fun w hw=>h w (List.mem_cons_of_mem _ hw)]
  split
  ·rfl
  ·have:x≠n:=by rintro rfl;exact h v List.mem_cons_self
   simp [this]
theorem qb3 {kindOf:Str→Option NameKind} {x:Str} {v:Value}:∀ {P:List Str} {vs:List Value} {i:Nat} {m:Str→Option Value},P.Nodup→P[i]?=some x→vs[i]?=some v→kindOf x=some .local →
  bindL kindOf (P.zip vs) m x=some v
 | [],_,_,_,_,h,_,_=>by simp at h
 | _::_,[],_,_,_,_,h,_=>by simp at h
 | p::P,w::vs,0,m,nd,h1,h2,hk=>by
  simp at h1 h2;subst h1;subst h2
  show bindL kindOf ((p,w)::P.zip vs) m p=_
  unfold bindL
  rw [qb1 fun v hv=>(List.nodup_cons.mp nd).1 (List.of_mem_zip hv).1,if_pos hk]
  simp
 | p::P,w::vs,i + 1,m,nd,h1,h2,hk=>by
  show bindL kindOf ((p,w)::P.zip vs) m x=_
  unfold bindL
  exact qb3 (i:=i) (List.nodup_cons.mp nd).2 (by simpa using h1) (by simpa using h2) hk
theorem qb4 {kindOf:Str→Option NameKind} {x:Str} {v:Value}:∀ {P:List Str} {vs:List Value} {i:Nat} {m:Str→Option Value},P.Nodup→P[i]?=some x→vs[i]?=some v→kindOf x≠some .local →
  bindC kindOf (P.zip vs) m x=some v
 | [],_,_,_,_,h,_,_=>by simp at h
 | _::_,[],_,_,_,_,h,_=>by simp at h
 | p::P,w::vs,0,m,nd,h1,h2,hk=>by
  simp at h1 h2;subst h1;subst h2
  show bindC kindOf ((p,w)::P.zip vs) m p=_
  unfold bindC
  rw [qb2 fun v hv=>(List.nodup_cons.mp nd).1 (List.of_mem_zip hv).1,if_neg hk]
  simp
 | p::P,w::vs,i + 1,m,nd,h1,h2,hk=>by
  show bindC kindOf ((p,w)::P.zip vs) m x=_
  unfold bindC
  exact qb4 (i:=i) (List.nodup_cons.mp nd).2 (by simpa using h1) (by simpa using h2) hk
def qbF (N:List Str) (vs:List V):St:=vs.map some++List.replicate (N.length - vs.length) none
def qeu (CX:CXT) (P:Program) (w:World) (K:PySem.W.Frag) (mg:Str→Option Value) (base:Heap) (N:List Str) (qual:Str) (scope:Scope) (f:Addr) (cd:Value) (A:Around) (outer:List Env) (s:Shared) (H:Hp) (E:XK):Cx where
 prog:=P
 w:=w
 K:=K
 mg:=mg
 base:=base
 A:=A.deeper (envOfC qual scope s.heap.objs.size f cd)
 N:=N
 s₀:=s
 H₀:=H
 env:=envOfC qual scope s.heap.objs.size f cd
 outer:=outer
 stack:=envOfC qual scope s.heap.objs.size f cd::outer
 ex:=[]
 calm:=true
 fn:=fun _=>true
 pn:=[]
 xe:=fun e s'=>wpAny (model P w) (A.deeper (envOfC qual scope s.heap.objs.size f cd)) (leaving (envOfC qual scope s.heap.objs.size f cd) e) (fun _ s''=>CX outer H s E e s'') (fun e' s''=>CX outer H s E e' s'') s'
theorem qcU {sc:Scope} {n:Nat} {x:Str} (h:sc.names.lookup x=some .cell):∃ c,(cellsFrom n sc.names []).lookup x=some c:=by
 have q:=PySem.W.cellsFrom_some sc.names n [] (.inl h)
 exact Option.isSome_iff_exists.mp q
theorem inv_start {CX:CXT} {P:Program} {w:World} {K:PySem.W.Frag} {mg:Str→Option Value} {base:Heap} {N ps:List Str} {qual:Str} {scope:Scope} {f:Addr} {cd:Value} {A:Around} {outer:List Env} {s s1:Shared} {H:Hp} {E:XK} {us:List Value} {vs:List V}
  (S:FnScope N ps scope) (hd:A.handled=none) (e0:Env0 P w K mg base A outer s H) (hl:vs.length=ps.length) (r:Vals vs us)
  (x:InCallC s s.heap.objs.size (bindL (envOfC qual scope s.heap.objs.size f cd).kindOf (ps.zip us) fun _=>none) (cellsFrom (s.heap.objs.size + 1) scope.names []) (bindC (envOfC qual scope s.heap.objs.size f cd).kindOf (ps.zip us) fun _=>none) s1) :
  Inv (qeu CX P w K mg base N qual scope f cd A outer s H E) [] (qbF N vs) H s1:=by
 have hpl:ps.length≤N.length:=by have:=congrArg List.length S.pre;rw [List.length_take] at this;omega
 obtain ⟨h1,tk,rfl,hk⟩:=x.done
 have noA:∀ b:Addr,b∉(qeu CX P w K mg base N qual scope f cd A outer s H E).ex:=fun b z=>absurd (show b∈([]:List Addr) from z) (by simp)
 refine ⟨⟨e0.mod,S.kind,rfl,rfl,Nat.le_refl _,fun y z c h1 h2=>?_,fun y hy=>?_,fun y c _ h=>?_,fun _=>hd,Around.frames_deeper e0.frames,.inr ⟨rfl,rfl⟩,fun b z=>absurd z (noA b),e0.bs,e0.bsz,fun b _ _=>noA b,fun b z=>absurd z (noA b),e0.funs,e0.frf⟩,
  rfl,e0.bare,Un.kept hk,⟨_,x.toInCall.ns,fun i y v h1 h2 h3=>?_⟩,fun y c h=>⟨_,x.cell y c h⟩,e0.hok.fresh (Nat.le_refl _),fun y c h=>?_,fun p hp=>absurd (show p∈([]:List (Addr×Obj)) from hp) (by simp),e0.hok.kept hk,?_⟩
 ·exact name_of_addr x.apart (PySem.mem_of_lookup h1) (PySem.mem_of_lookup h2)
 ·have hy:scope.names.lookup y=some .cell∨scope.names.lookup y=some .free:=hy
  rcases hy with hy | hy
  ·exact qcU hy
  ·exact absurd rfl (S.nofree _ (PySem.mem_of_lookup hy))
 ·exact Nat.le_of_lt (x.above y c (PySem.mem_of_lookup h))
 ·have hi:i < vs.length:=by
   unfold qbF at h2
   by_cases hi:i < vs.length
   ·exact hi
   ·rw [List.getElem?_append_right (by simpa using hi)] at h2
    rw [List.getElem?_replicate] at h2
    split at h2<;>cases h2
  have ha:vs[i]?=some v:=by
   unfold qbF at h2
   rw [List.getElem?_append_left (by simpa using hi),List.getElem?_map] at h2
   cases e:vs[i]? with
   | none=>rw [e] at h2;cases h2
   | some a=>rw [e] at h2;cases h2;rfl
  obtain ⟨u,hu,rv⟩:=r.get ha
  have hp:ps[i]?=some y:=by
   rw [← S.pre,List.getElem?_take_of_lt (by omega)];exact h1
  have ndP:ps.Nodup:=by rw [← S.pre];exact S.nd.sublist (List.take_sublist _ _)
  refine ⟨u,rv,?_⟩
  rcases S.par y (List.mem_of_getElem? hp) with k | k
  ·exact .inl ⟨k,qb3 ndP hp hu k⟩
  ·obtain ⟨c,e⟩:=qcU (n:=s.heap.objs.size + 1) k
   refine .inr ⟨.inl k,c,e,?_⟩
   have q:=x.cell y c e
   rw [qb4 ndP hp hu (by show scope.names.lookup y≠_;rw [k];decide)] at q
   exact q
 ·exact e0.hok.fresh (Nat.le_of_lt (x.above y c (PySem.mem_of_lookup h)))
 ·unfold qbF
  show _=N.length
  rw [List.length_append,List.length_map,List.length_replicate]
  omega
theorem qfD {CX:CXT} {P:Program} {w:World} {K:PySem.W.Frag} {mg:Str→Option Value} {base:Heap} {k:Nat} {f:Addr} {name qual:Str} {params:Arguments} {body:List Stmt} {scope:Scope} {dV kV doc pm cdv ct oc:Value} {an od:Option Addr}
  {osl:Array (Option Value)} {N ps:List Str} {sp:Sp} (lk:K.lookup f=some ⟨oc,od,.func (PySem.W.fnOf name qual params body scope dV kV doc pm an cdv ct),osl⟩) (hcd:PySem.W.codeIn K cdv qual=true) (S:FnScope N ps scope)
  (len:∀ vs H Q E,sp vs H Q E→vs.length=ps.length)
  (hbody:∀ (A:Around) (outer:List Env) (s:Shared) (H:Hp) (vs:List V) (Q:VK) (E:XK),Room k (A.deeper (envOfC qual scope s.heap.objs.size f cdv))→sp vs H Q E →
   ∃ t,PSs (qeu CX P w K mg base N qual scope f cdv A outer s H E) body t∧t { nx:=fun _ H'=>Q .non H',rt:=Q } (qbF N vs) H) :
  FnOk P w K mg base CX (k + 1) f (PySem.W.fnOf name qual params body scope dV kV doc pm an cdv ct) ps sp:=by
 refine ⟨len,fun A outer s H args us vs Q E hr e0 hb r hsp=>?_⟩
 have hl:=len _ _ _ _ hsp
 have KX:K.In s.heap:=e0.mod.kin.keeps fun b o e=>(e0.bs b o e).1
 have lim:s.heap.NoLimit:=e0.mod.nolimit.keeps fun b o e=>(e0.bs b o e).1
 have hkind:∀ y∈ps.zip us,scope.names.lookup y.1=some .local∨(scope.names.lookup y.1=some .cell∧((cellsFrom (s.heap.objs.size + 1) scope.names []).lookup y.1).isSome=true):=fun ⟨n,v⟩ hy=>by
  rcases S.par n (List.of_mem_zip hy).1 with q | q
  ·exact .inl q
  ·exact .inr ⟨q,PySem.W.cellsFrom_some _ _ _ (.inl q)⟩
 refine codeAny_call_function hr.depth (KX _ _ lk) rfl S.co S.gen rfl (PySem.W.codeRec_of KX hcd) (hb _ _ _ _ ?_)
 refine wpAny_newFunctionEnv_cells S.kind hkind fun env he s1 x=>?_
 subst he
 refine ⟨lim.keeps x.toInCall.keep,codeAny_func ?_⟩
 obtain ⟨t,ht,hq⟩:=hbody A outer s H vs Q E (hr.deeper _) hsp
 have I:Inv (qeu CX P w K mg base N qual scope f cdv A outer s H E) [] (qbF N vs) H s1:=inv_start S hr.hd e0 hl r x
 refine wpAny_mono (ht [] s1 (qbF N vs) H _ I hq) (fun fl s' hs=>?_) fun e s' hs=>hs
 have fin:∀ {σ':St} {H':Hp} {v:V} {u:Value},Inv (qeu CX P w K mg base N qual scope f cdv A outer s H E) [] σ' H' s'→RelV v u→Q v H'→CE outer P w H s Q u s':=
  fun {σ' H' v u} J rv q=>⟨v,H',J.os,J.bare,J.base,J.hok,rv,q⟩
 cases fl with
 | ret u =>
  obtain ⟨v,σ',H',J,rv,q⟩:=hs
  exact fin J rv q
 | next =>
  obtain ⟨σ',H',J,q⟩:=hs
  exact fin (v:=V.non) (u:=Value.none) J rfl q
 | brk =>
  obtain ⟨_,_,_,q⟩:=hs
  exact False.elim q
 | cont =>
  obtain ⟨_,_,_,q⟩:=hs
  exact False.elim q
end L2
namespace L2
open PySem PySem.Spec PyProof.Rows
section
variable {X:Cx} {x:Str} {p pos:Pos} {e:Expr} {es:List Expr} {t:TA} {id T:String} {r:List V→Hp→VK→Prop}
def tCB (r:List V→Hp→VK→Prop) (t:TA):TE:=fun σ H Q=>t σ H fun vs H1=>r vs H1 Q
theorem qp (hc:zM X (.builtin id) r) (hg:Gl X x) (hm:X.mg x=none) (hv:bootBuiltins x=some (.builtin id)) (ha:PA X (e::es) t) (hn:x≠"__name__":=by decide) (hdb:(x==("__debug__":Str))=false:=by decide)
  (he:starEach (e::es) X.env=(false,eval e X.env)::starEach es X.env:=by rfl) (hpl:(backTo pos (starEach es X.env)).any (·.1)=false:=by rfl):PE X (.Call (.Name x p) (e::es) [] pos) (tCB r t):=by
 intro pins s σ H Q I h
 refine wpAny_Call_Name_kw (qa4 I hg hm hv ?_ hn hdb)
 exact PyProof.Rows.callWith_builtin1 (thn (ha pos pins s σ H _ I h) fun us s1 ⟨vs,H1,I1,r1,q1⟩=>hc pins s1 σ H1 vs us Q I1 r1 q1) he hpl
theorem qG (hc:zM X (.type T) r) (hg:Gl X x) (hm:X.mg x=none) (hv:bootBuiltins x=some (.type T)) (ha:PA X (e::es) t) (hn:x≠"__name__":=by decide) (hdb:(x==("__debug__":Str))=false:=by decide)
  (he:starEach (e::es) X.env=(false,eval e X.env)::starEach es X.env:=by rfl) (hpl:(backTo pos (starEach es X.env)).any (·.1)=false:=by rfl):PE X (.Call (.Name x p) (e::es) [] pos) (tCB r t):=by
 intro pins s σ H Q I h
 refine wpAny_Call_Name_kw (qa4 I hg hm hv ?_ hn hdb)
 exact PyProof.Rows.callWith_type1 (thn (ha pos pins s σ H _ I h) fun us s1 ⟨vs,H1,I1,r1,q1⟩=>hc pins s1 σ H1 vs us Q I1 r1 q1) he hpl
end
end L2
namespace HT
open PySem PyProof.Rows
section
open PySem.SeqAt
open PySem.AutoSeq1 (wpAny_loadPart')
open PySem.MeetsSeq PySem.MeetsSeq2 PySem.MeetsSeq3
end
section
variable {prog:Program} {w:World} {A:Around} {E:Value→Shared→Prop} {s:Shared}
theorem cat_tup {t b:Addr} {vs ws:List Value} {Q:Value→Shared→Prop} (ht:IsTup s.heap t vs.toArray) (hb:IsTup s.heap b ws.toArray) (hv:vs≠[])
  (h1:ws=[]→Q (.ref t) s) (h2:ws≠[]→Q (.ref s.heap.objs.size) { s with heap:=s.heap.push { cls:=.type "tuple",data:=.seq (vs++ws).toArray } })
  (hsz:vs.length + ws.length≤sizeLine):wpAny (model prog w) A (binaryOp .Add (.ref t) (.ref b)) Q E s:=by
 obtain ⟨⟨cls,dd,data,sl⟩,ho,hc,n,hd⟩:=id ht
 obtain ⟨⟨cls2,dd2,data2,sl2⟩,ho2,hc2,n2,hd2⟩:=id hb
 simp only at hc hd hc2 hd2
 subst hc hd hc2 hd2
 have e:vs.toArray++ws.toArray=(vs++ws).toArray:=by simp
 by_cases hw:ws=[]
 ·exact concat_meets ⟨_,ho,rfl⟩ ⟨_,ho2,rfl⟩ noFill_tuple_add seq_tuple_add PySem.F.slot_tuple_add PySem.F.entry_tuple_add (PySem.F.args_tuple_add_2 _ _)
   (tuple_addW1 t b vs.toArray ws.toArray n n2 dd dd2 sl sl2 (by simpa using hv) (by simp [hw])) ⟨ho,ho2,h1 hw⟩
 ·refine concat_meets ⟨_,ho,rfl⟩ ⟨_,ho2,rfl⟩ noFill_tuple_add seq_tuple_add PySem.F.slot_tuple_add PySem.F.entry_tuple_add (PySem.F.args_tuple_add_2 _ _)
   (tuple_addW2 t b vs.toArray ws.toArray n n2 dd dd2 sl sl2 (by simpa using hv) (by simpa using hw) (by rw [List.size_toArray,List.size_toArray];exact hsz)) ⟨ho,ho2,?_⟩
  rw [e]
  exact h2 hw
def sIx (n d:Nat):Option Int→Nat
 | none=>d
 | some v=>if v < 0 then (v + (n:Int)).toNat else min v.toNat n
theorem sIx_none (n d:Nat):sIx n d none=d:=rfl
theorem sIx_nat (n d k:Nat):sIx n d (some (k:Int))=min k n:=by
 show (if (k:Int) < 0 then ((k:Int) + (n:Int)).toNat else min (k:Int).toNat n)=min k n
 rw [if_neg (by omega),Int.toNat_natCast]
theorem sIx_le (n d:Nat) (hd:d≤n) (o:Option Int):sIx n d o≤n:=by
 cases o with
 | none=>exact hd
 | some v =>
  show (if v < 0 then (v + (n:Int)).toNat else min v.toNat n)≤n
  by_cases hv:v < 0
  ·rw [if_pos hv];omega
  ·rw [if_neg hv];exact Nat.min_le_right _ _
theorem qdG (v:Int) (n d:Nat):(if v < 0 then max (v + (n:Int)) 0 else min v (n:Int))=((sIx n d (some v):Nat):Int):=by
 show (if v < 0 then max (v + (n:Int)) 0 else min v (n:Int))=(((if v < 0 then (v + (n:Int)).toNat else min v.toNat n):Nat):Int)
 by_cases hv:v < 0
 ·simp only [if_pos hv];omega
 ·simp only [if_neg hv];omega
theorem adjust_gen (lo hi:Option Int) (n:Nat):Builtin.Slice.sliceAdjust lo hi 1 (n:Int)=(((sIx n 0 lo:Nat):Int),((sIx n n hi:Nat):Int)):=by
 have h1:¬ ((1:Int) < 0):=by omega
 unfold Builtin.Slice.sliceAdjust
 simp only [h1,if_false]
 refine Prod.ext ?_ ?_
 ·cases lo with
  | none=>rfl
  | some v=>exact qdG v n 0
 ·cases hi with
  | none=>rfl
  | some v=>exact qdG v n n
theorem places_gen (i j:Nat):Builtin.Slice.slicePlaces (i:Int) (j:Int) 1=j - i:=by
 unfold Builtin.Slice.slicePlaces
 have h1:(1:Int) > 0:=by omega
 simp only [h1,if_true,Int.ediv_one]
 split<;>omega
theorem qbt {v:Value} {o:Option Int} {Q:Option Int→Shared→Prop} (p:IsPart v o) (h:Q o s):wpAny (model prog w) A (Builtin.Slice.slicePartIndex v) Q E s:=by
 cases p with
 | none=>exact slicePart_none h
 | int i t=>exact slicePart_int h
theorem sliceApplied_gen {sl:Addr} {vl vu:Value} {lo hi:Option Int} {n:Nat} {Q:Int×Int×Nat→Shared→Prop} (hs:s.heap.IsSliceOf sl vl vu .none) (pl:IsPart vl lo) (pu:IsPart vu hi)
  (h:Q (((sIx n 0 lo:Nat):Int),1,sIx n n hi - sIx n 0 lo) s):wpAny (model prog w) A (Builtin.Slice.sliceApplied (.ref sl) (pure (n:Int))) Q E s:=by
 obtain ⟨os,hos,hcs,hds⟩:=id hs
 unfold Builtin.Slice.sliceApplied Builtin.Slice.sliceFields
 refine wpAny_bind (wpAny_bind (wpAny_field hos hds (x:=vl) rfl (wpAny_bind (wpAny_field hos hds (x:=vu) rfl (wpAny_bind (wpAny_field hos hds (x:=.none) rfl (wpAny_pure ?_)))))))
 refine wpAny_bind (slicePart_none ?_)
 show wpAny _ _ (if ((1:Int)==0)=true then _ else _) _ _ s
 rw [if_neg (by decide)]
 refine wpAny_bind (qbt pl (wpAny_bind (qbt pu (wpAny_bind (wpAny_pure ?_)))))
 show wpAny _ _ (match Builtin.Slice.sliceAdjust lo hi 1 (n:Int) with | (lo,hi)=>pure (lo,(1:Int),Builtin.Slice.slicePlaces lo hi 1)) _ _ s
 rw [adjust_gen lo hi n]
 show wpAny _ _ (pure (((sIx n 0 lo:Nat):Int),(1:Int),Builtin.Slice.slicePlaces ((sIx n 0 lo:Nat):Int) ((sIx n n hi:Nat):Int) 1)) _ _ s
 rw [places_gen]
 exact wpAny_pure h
theorem pick_gen (xs:Array Value) (i k:Nat):((List.range k).filterMap fun (m:Nat)=>xs[((i:Int) + (m:Int) * 1).toNat]?).toArray=((xs.toList.drop i).take k).toArray:=by
 have e:(fun (m:Nat)=>xs[((i:Int) + (m:Int) * 1).toNat]?)=fun m=>xs[i + m]?:=by
  funext m
  have:((i:Int) + (m:Int) * 1).toNat=i + m:=by omega
  rw [this]
 rw [e]
 have:=pick_run xs i k
 rw [List.filterMap_map] at this
 have e2:((fun x=>xs[x]?) ∘ fun x=>i + x)=fun m=>xs[i + m]?:=rfl
 rw [e2] at this
 rw [this]
theorem getItem_tuple_cut {t sl:Addr} {items:Array Value} {vl vu:Value} {lo hi:Option Int} {Q:Value→Shared→Prop} (ht:IsTup s.heap t items) (hs:s.heap.IsSliceOf sl vl vu .none) (pl:IsPart vl lo) (pu:IsPart vu hi)
  (hw:¬ (sIx items.size 0 lo=0∧sIx items.size items.size hi=items.size))
  (h:Q (.ref s.heap.objs.size) { s with heap:=s.heap.push { cls:=.type "tuple",data:=.seq ((items.toList.drop (sIx items.size 0 lo)).take (sIx items.size items.size hi - sIx items.size 0 lo)).toArray } })
  (hsz:items.size≤sizeLine):wpAny (model prog w) A (getItem (.ref t) (.ref sl)) Q E s:=by
 have htake:sizeOk (.seq ((items.toList.drop (sIx items.size 0 lo)).take (sIx items.size items.size hi - sIx items.size 0 lo)).toArray):=by
  show ((items.toList.drop (sIx items.size 0 lo)).take (sIx items.size items.size hi - sIx items.size 0 lo)).toArray.size≤sizeLine
  rw [List.size_toArray,List.length_take,List.length_drop,Array.length_toList]
  omega
 have hj:sIx items.size items.size hi≤items.size:=sIx_le _ _ (Nat.le_refl _) hi
 obtain ⟨os,hos,hcs,hds⟩:=id hs
 have hTs:s.TypeIs (.ref sl) "slice":=⟨os,hos,hcs⟩
 unfold getItem
 try with_reducible refine wpAny_holding ?_
 first | refine wpAny_bind (wpAny_pure ?_) | skip
 refine wpAny_bind (wpAny_sequenceKey ht.typeIs (by decide) ?_)
 refine wpAny_bind (wpAny_callSpecial?_slot (name:=Str.ofString "__getitem__") ht.typeIs PyProof.Rows.slot_tuple_getitem
  (wpAny_call_entry PyProof.Rows.slot_tuple_getitem ht.typeIs entry_tuple_getitem ?_ (args_tuple_getitem _ _)))
 show wpAny _ _ (Builtin.Tuple.tupleItemsOf (.ref t)>>=_) _ _ s
 refine wpAny_bind (tupleItemsOf_ ht ?_)
 refine wpAny_bind (wpAny_typeOf hTs ?_)
 rw [if_pos (by decide)]
 refine wpAny_bind (sliceApplied_gen hs pl pu ?_)
 have hno:¬ ((((sIx items.size 0 lo:Nat):Int)==0&&(1:Int)==1&&(sIx items.size items.size hi - sIx items.size 0 lo)==items.size)=true):=by
  intro q
  rw [Bool.and_eq_true,Bool.and_eq_true] at q
  have q1:((sIx items.size 0 lo:Nat):Int)=0:=eq_of_beq q.1.1
  have q2:sIx items.size items.size hi - sIx items.size 0 lo=items.size:=eq_of_beq q.2
  exact hw ⟨by omega,by omega⟩
 show wpAny _ _ (if (((sIx items.size 0 lo:Nat):Int)==0&&(1:Int)==1&&(sIx items.size items.size hi - sIx items.size 0 lo)==items.size)=true then _ else _) _ _ s
 rw [if_neg hno,pick_gen]
 first
  | exact wpAny_bind (m:=Builtin.Tuple.tupleExact _) (wpAny_newObj_type (wpAny_pure ⟨_,rfl,wpAny_pure h⟩) htake)
  | exact wpAny_bind (m:=Builtin.Tuple.tupleExact _) (wpAny_newObj_type (wpAny_bind (wpAny_pure (wpAny_pure ⟨_,rfl,wpAny_pure h⟩))) htake)
  | exact wpAny_bind (wpAny_bind (m:=Builtin.Tuple.tupleExact _) (wpAny_newObj_type (wpAny_pure (wpAny_pure ⟨_,rfl,wpAny_pure h⟩)) htake))
  | exact wpAny_bind (wpAny_bind (m:=Builtin.Tuple.tupleExact _) (wpAny_newObj_type (wpAny_pure ⟨_,rfl,wpAny_pure h⟩) htake))
end
end HT
namespace L2
open PySem PySem.Spec PyProof.Rows
abbrev TO:=St→Hp→(Option Int→Hp→Prop)→Prop
def PO (X:Cx) (e:Option Expr) (t:TO):Prop:=
 ∀ (pins:List (Addr×Obj)) (s:Shared) (σ:St) (H:Hp) (Q:Option Int→Hp→Prop),Inv X pins σ H s→t σ H Q →
  wpAny (model X.prog X.w) X.A (evalPart e X.env) (fun u s'=>∃ o H',Inv X pins σ H' s'∧IsPart u o∧Q o H') X.xe s
def qdH:TO:=fun _ H Q=>Q none H
def qfE (t:TE):TO:=fun σ H Q=>t σ H fun x H1=>∃ i,x=.int i∧Q (some i) H1
theorem intsAre_of {ns:List Int}:∀ {us:List Value},Vals (ns.map V.int) us→IntsAre us ns:=by
 induction ns with
 | nil=>intro us r;rw [List.map_nil] at r;cases r;exact .nil
 | cons n ns ih =>
  intro us r
  rw [List.map_cons] at r
  cases r with
  | cons r1 r2 =>
   obtain ⟨t,e⟩:=r1
   subst e
   exact .cons n t (ih r2)
section
variable {X:Cx} {e:Expr} {te:TE} {lo hi:Option Expr} {tl th:TO} {pos p2:Pos}
theorem qbG:PO X none qdH:=by
 intro pins s σ H Q I h
 rw [evalPart_none]
 exact wpAny_pure ⟨none,H,I,.none,h⟩
theorem zN (h:PE X e te):PO X (some e) (qfE te):=by
 intro pins s σ H Q I hw
 rw [evalPart_some]
 refine thn (h pins s σ H _ I hw) fun u s1 ⟨x,H1,I1,r1,q1⟩=>?_
 obtain ⟨i,rfl,q⟩:=q1
 obtain ⟨t,rfl⟩:=r1
 exact ⟨some i,H1,I1,.int i t,q⟩
def SlR (X:Cx) (r:V→Option Int→Option Int→Hp→VK→Prop):Prop:=
 ∀ (pins:List (Addr×Obj)) (s:Shared) (σ:St) (H:Hp) (x:V) (v vl vu:Value) (lo hi:Option Int) (sl:Addr) (Q:VK),Inv X pins σ H s→RelV x v→s.heap.IsSliceOf sl vl vu .none→IsPart vl lo→IsPart vu hi→r x lo hi H Q →
  ∃ T id,typeLookup (.type T) "__getitem__"=pure (some (.builtin id))∧s.TypeIs v T∧wpAny (model X.prog X.w) X.A (getItem v (.ref sl)) (EP X pins σ Q) X.xe s
def tSl (r:V→Option Int→Option Int→Hp→VK→Prop) (te:TE) (tl th:TO):TE:=fun σ H Q=>te σ H fun x H1=>tl σ H1 fun l H2=>th σ H2 fun u H3=>r x l u H3 Q
theorem qak {r:V→Option Int→Option Int→Hp→VK→Prop} (hr:SlR X r) (he:PE X e te) (hl:PO X lo tl) (hu:PO X hi th):PE X (.Subscript e (.Slice lo hi none p2) pos) (tSl r te tl th):=by
 intro pins s σ H Q I h
 refine Subscript_ (thn (he pins s σ H _ I h) fun v s1 ⟨x,H1,I1,r1,q1⟩=>?_)
 refine wpAny_Slice (thn (hl pins s1 σ H1 _ I1 q1) fun vl s2 ⟨l,H2,I2,pl,q2⟩=>thn (hu pins s2 σ H2 _ I2 q2) fun vu s3 ⟨u,H3,I3,pu,q3⟩=>?_)
 rw [evalPart_none]
 refine wpAny_pure ?_
 have I4:Inv X pins σ H3 { s3 with heap:=s3.heap.push { cls:=.type "slice",data:=.fields #[vl,vu,.none] } }:=I3.kept (t':=s3.toks) fun b ob q=>Heap.get?_push_of_some _ q
 obtain ⟨T,id,hT,ht,hg⟩:=hr pins { s3 with heap:=s3.heap.push { cls:=.type "slice",data:=.fields #[vl,vu,.none] } } σ H3 x v vl vu l u s3.heap.objs.size Q I4 r1 (Heap.IsSliceOf.new ..) pl pu q3
 show wpAny (model X.prog X.w) X.A (subscriptTail e (.Slice lo hi none p2) v (.ref s3.heap.objs.size)) (EP X pins σ Q) X.xe { s3 with heap:=s3.heap.push { cls:=.type "slice",data:=.fields #[vl,vu,.none] } }
 exact tail_any (ops:=[.ref s3.heap.objs.size,v]) ht hT hg (by with_unfolding_all rfl)
def qbH (xs:List V) (lo hi:Option Int):List V:=(xs.drop (HT.sIx xs.length 0 lo)).take (HT.sIx xs.length xs.length hi - HT.sIx xs.length 0 lo)
theorem qa7 (xs:List V) (lo hi:Option Int):(qbH xs lo hi).length≤xs.length:=by
 unfold qbH
 rw [List.length_take,List.length_drop]
 omega
def qgK (K:PySem.W.Frag):V→Option Int→Option Int→Hp→VK→Prop:=fun x lo hi H Q=>∃ a xs,x=.ref a∧SqT K H a xs ∧
 ¬ (HT.sIx xs.length 0 lo=0∧HT.sIx xs.length xs.length hi=xs.length)∧∀ p,H p=none→Q (.ref p) (upd H p (.tup (qbH xs lo hi)))
theorem sl_tup:SlR X (qgK X.K):=by
 intro pins s σ H x v vl vu lo hi sl Q I rx hs pl pu h
 obtain ⟨a,xs,rfl,hx,hw,q⟩:=h
 cases rx
 obtain ⟨its,r,ht,hz⟩:=I.tuple hx
 have hlen:its.toArray.size=xs.length:=by rw [List.size_toArray];exact r.length.symm
 refine ⟨"tuple",_,PyProof.Rows.slot_tuple_getitem.lookup,ht.typeIs,?_⟩
 refine HT.getItem_tuple_cut ht hs pl pu (by rw [hlen];exact hw) ?_ (by rw [hlen];exact hz)
 rw [hlen]
 refine ⟨.ref s.heap.objs.size,_,I.laid (t':=s.toks) (o:=.tup (qbH xs lo hi)) (fun b ob q=>Heap.get?_push_of_some _ q) (Nat.le_refl _) ?_,rfl,q _ (I.hok.fresh (Nat.le_refl _))⟩
 exact ⟨Nat.le_trans (qa7 xs lo hi) hz,_,(r.drop (HT.sIx xs.length 0 lo)).take (HT.sIx xs.length xs.length hi - HT.sIx xs.length 0 lo),IsTup.new _ _⟩
def qfF (K:PySem.W.Frag):R2:=fun x y H Q=>∃ a b xs ys,x=.ref a∧y=.ref b∧SqT K H a xs∧SqT K H b ys∧xs≠[]∧xs.length + ys.length≤sizeLine ∧
 (ys=[]→Q (.ref a) H)∧(ys≠[]→∀ p,H p=none→Q (.ref p) (upd H p (.tup (xs++ys))))
theorem Vals.nil_iff {xs:List V} {us:List Value} (r:Vals xs us):us=[]↔xs=[]:=by
 cases r with
 | nil=>simp
 | cons _ _=>simp
theorem op_catT:OpR X (binaryOp .Add) (qfF X.K):=by
 intro pins s σ H x y v u Q I rx ry h
 obtain ⟨a,b,xs,ys,rfl,rfl,ha,hb,hx,hz,q1,q2⟩:=h
 cases rx
 cases ry
 obtain ⟨its,r1,p1,_⟩:=I.tuple ha
 obtain ⟨its2,r2,p2,_⟩:=I.tuple hb
 refine HT.cat_tup p1 p2 (fun z=>hx (r1.nil_iff.mp z)) (fun z=>⟨.ref a,H,I,rfl,q1 (r2.nil_iff.mp z)⟩) (fun z=>?_) (by rw [← r1.length,← r2.length];exact hz)
 refine ⟨.ref s.heap.objs.size,_,I.laid (t':=s.toks) (o:=.tup (xs++ys)) (fun b ob q=>Heap.get?_push_of_some _ q) (Nat.le_refl _) ?_,rfl,q2 (fun w=>z (r2.nil_iff.mpr w)) _ (I.hok.fresh (Nat.le_refl _))⟩
 exact ⟨by rw [List.length_append];exact hz,_,r1.append r2,IsTup.new _ _⟩
end
end L2
namespace L2
open PySem PySem.Spec PyProof.Rows
def ixN (n:Nat) (i:Int):Option Nat:=if 0≤i then (if i < n then some i.toNat else none) else if -(n:Int)≤i then some (i + n).toNat else none
def atI {α:Type} (xs:List α) (i:Int):Option α:=(ixN xs.length i).bind fun j=>xs[j]?
theorem qdI {n:Nat} {i:Int} {j:Nat} (h:ixN n i=some j):seqIndex? i n=some j∧j < n∧-(n:Int)≤i∧i < n:=by
 unfold ixN at h
 by_cases h0:0≤i
 ·rw [if_pos h0] at h
  by_cases h1:i < n
  ·rw [if_pos h1] at h
   have e:i.toNat=j:=Option.some.inj h
   exact ⟨by rw [seqIndex_of h0 h1,e],by omega,by omega,h1⟩
  ·rw [if_neg h1] at h;cases h
 ·rw [if_neg h0] at h
  by_cases h1:-(n:Int)≤i
  ·rw [if_pos h1] at h
   have e:(i + n).toNat=j:=Option.some.inj h
   exact ⟨by rw [seqIndex_neg (by omega) h1,e],by omega,h1,by omega⟩
  ·rw [if_neg h1] at h;cases h
theorem qcy {α:Type} {xs:List α} {i:Int} {v:α} (h:atI xs i=some v):∃ j,seqIndex? i xs.length=some j∧xs[j]?=some v∧j < xs.length∧-(xs.length:Int)≤i∧i < xs.length:=by
 unfold atI at h
 cases e:ixN xs.length i with
 | none=>rw [e] at h;cases h
 | some j =>
  rw [e] at h
  obtain ⟨h1,h2,h3,h4⟩:=qdI e
  exact ⟨j,h1,h,h2,h3,h4⟩
theorem ju {α:Type} {xs:List α} {j:Nat} {v:α} (h:xs[j]?=some v):atI xs (j:Int)=some v:=by
 have hj:j < xs.length:=(List.getElem?_eq_some_iff.mp h).1
 have e:ixN xs.length (j:Int)=some j:=by
  unfold ixN
  rw [if_pos (by omega),if_pos (by omega)];simp
 unfold atI;rw [e];exact h
def PlainIx (b:Expr):Prop:=∀ o i,subscripted b false o i=operate [o,i] (getItem o i)
def IxR (X:Cx) (r:R2):Prop:=
 ∀ (value slice:Expr) (pins:List (Addr×Obj)) (s:Shared) (σ:St) (H:Hp) (x y:V) (v u:Value) (Q:VK),Inv X pins σ H s→RelV x v→RelV y u→r x y H Q →
  subscripted slice false v u=operate [v,u] (getItem v u)→wpAny (model X.prog X.w) X.A (subscriptTail value slice v u) (EP X pins σ Q) X.xe s
def MtR (X:Cx) (id:String) (r:V→List V→Hp→VK→Prop):Prop:=
 ∀ (pins:List (Addr×Obj)) (s:Shared) (σ:St) (H:Hp) (x:V) (xs:List V) (v:Value) (us:List Value) (Q:VK),Inv X pins σ H s→RelV x v→Vals xs us→r x xs H Q →
  wpAny (model X.prog X.w) X.A (call (.builtin id) (v::us)) (EP X pins σ Q) X.xe s
section
variable {X:Cx} {a b:Expr} {ta tb:TE} {pos:Pos}
theorem IxR.or {r r':R2} (h:IxR X r) (h':IxR X r'):IxR X (fun x y H Q=>r x y H Q∨r' x y H Q):=by
 intro value slice pins s σ H x y v u Q I rx ry q hs
 rcases q with q | q
 ·exact h value slice pins s σ H x y v u Q I rx ry q hs
 ·exact h' value slice pins s σ H x y v u Q I rx ry q hs
theorem qD {r:R2} (hr:IxR X r) (ha:PE X a ta) (hb:PE X b tb) (hs:PlainIx b):PE X (.Subscript a b pos) (tOp r ta tb):=by
 intro pins s σ H Q I h
 exact Subscript_ (qgi ha hb I h fun v u s2 x y H2 I2 rx ry q=>hr a b pins s2 σ H2 x y v u Q I2 rx ry q (hs _ _))
def qgL (K:PySem.W.Frag):R2:=fun x y H Q=>∃ p xs i v,x=.ref p∧y=.int i∧SqL K H p xs∧atI xs i=some v∧Q v H
def qgM (K:PySem.W.Frag):R2:=fun x y H Q=>∃ p xs i v,x=.ref p∧y=.int i∧SqT K H p xs∧atI xs i=some v∧Q v H
def qgN:R2:=fun x y H Q=>∃ z i c,x=.str z∧y=.int i∧z.length≤sizeLine∧atI z.cps.toList i=some c∧Q (.str ⟨#[c]⟩) H
theorem ix_list:IxR X (qgL X.K):=by
 intro value slice pins s σ H x y v u Q I rx ry h hs
 obtain ⟨p,xs,i,z,rfl,rfl,hq,he,q⟩:=h
 cases rx
 obtain ⟨t,rfl⟩:=ry
 obtain ⟨its,r,pl,hz⟩:=I.list hq
 obtain ⟨j,h1,h2,h3,h4,h5⟩:=qcy he
 obtain ⟨w,ew,rw'⟩:=r.get h2
 have hl:=r.length
 have hn:=qbs
 have fin:EP X pins σ Q w s:=⟨z,H,I,rw',q⟩
 by_cases h0:0≤i
 ·have hj:i.toNat=j:=by
   rw [seqIndex_of h0 h5] at h1
   exact Option.some.inj h1
  exact item_listR pl.isList h0 (by omega) (by rw [hj];simpa using ew) fin hs
 ·have hj:(i + (its.toArray.size:Int)).toNat=j:=by
   rw [seqIndex_neg (by omega) h4] at h1
   rw [List.size_toArray,← hl]
   exact Option.some.inj h1
  exact subscriptTail_builtinR (x:=w) pl.isList.typeIs slot_list_getitem.lookup
   (wpAny_getItem_list_neg (Q:=fun r s'=>r=w∧EP X pins σ Q r s') pl.isList (by omega) (by rw [List.size_toArray]<;>omega) (by omega) (by rw [hj];simpa using ew) ⟨rfl,fin⟩) hs
theorem ix_tup:IxR X (qgM X.K):=by
 intro value slice pins s σ H x y v u Q I rx ry h hs
 obtain ⟨p,xs,i,z,rfl,rfl,hq,he,q⟩:=h
 cases rx
 obtain ⟨t,rfl⟩:=ry
 obtain ⟨its,r,pl,hz⟩:=I.tuple hq
 obtain ⟨j,h1,h2,h3,h4,h5⟩:=qcy he
 obtain ⟨w,ew,rw'⟩:=r.get h2
 have hl:=r.length
 have hn:=qbs
 have fin:EP X pins σ Q w s:=⟨z,H,I,rw',q⟩
 exact subscriptTail_builtinR (x:=w) pl.typeIs slot_tuple_getitem.lookup
  (getItem_tuple (j:=j) (Q:=fun r s'=>r=w∧EP X pins σ Q r s') pl (by omega) (by omega) (by rw [List.size_toArray,← hl];exact h1) (by simpa using ew) ⟨rfl,fin⟩) hs
theorem ix_str:IxR X qgN:=by
 intro value slice pins s σ H x y v u Q I rx ry h hs
 obtain ⟨z,i,c,rfl,rfl,hz,he,q⟩:=h
 obtain ⟨t,rfl⟩:=rx
 obtain ⟨t',rfl⟩:=ry
 obtain ⟨j,h1,h2,h3,h4,h5⟩:=qcy he
 have hl:z.cps.toList.length=z.length:=by simp [Str.length]
 rw [hl] at h1 h4 h5
 have hn:=qbs
 exact tail_any (typeIs_str s z t) slot_str_getitem.lookup (getItem_str (c:=c) (by
  have e1:decide (i < -(2 ^ 63:Int))=false:=decide_eq_false (by omega)
  have e2:decide (i ≥ 2 ^ 63)=false:=decide_eq_false (by omega)
  rw [e1,e2,Bool.or_false]) (by rw [h1];simpa using h2) ⟨.str ⟨#[c]⟩,H,I.tok _,⟨_,rfl⟩,q⟩) hs
def rIx (K:PySem.W.Frag):R2:=fun x y H Q=>qgL K x y H Q∨qgM K x y H Q∨qgN x y H Q
theorem ix_seq:IxR X (rIx X.K):=ix_list.or (ix_tup.or ix_str)
theorem mapSeq_set (its:List Value) (n j:Nat) (u:Value):Obj.mapSeq (·.setIfInBounds j u) { cls:=.type "list",data:=.seq its.toArray n }={ cls:=.type "list",data:=.seq (its.set j u).toArray n }:=by
 simp [Obj.mapSeq]
theorem Inv.lst {pins:List (Addr×Obj)} {σ:St} {H:Hp} {s:Shared} {p:Addr} {xs:List V} (I:Inv X pins σ H s) (h:H p=some (.lst xs)) :
  ∃ (its:List Value) (n:Nat),Vals xs its∧s.heap.get? p=some { cls:=.type "list",data:=.seq its.toArray n }∧xs.length≤sizeLine:=by
 obtain ⟨z,its,n,r,e⟩:=I.hok p _ h
 exact ⟨its,n,r,e,z⟩
theorem Inv.lstUpd {pins:List (Addr×Obj)} {σ:St} {H:Hp} {s:Shared} {p:Addr} {xs ys:List V} {its its':List Value} {n n':Nat} {f:Obj→Obj} (I:Inv X pins σ H s) (h:H p=some (.lst xs))
  (ho:s.heap.get? p=some { cls:=.type "list",data:=.seq its.toArray n }) (hf:f { cls:=.type "list",data:=.seq its.toArray n }={ cls:=.type "list",data:=.seq its'.toArray n' }) (r:Vals ys its') (hz:ys.length≤sizeLine) (t:Nat) :
  Inv X pins σ (upd H p (.lst ys)) { s with heap:=s.heap.update p f,toks:=t }:=by
 have e:(s.heap.update p f).get? p=some { cls:=.type "list",data:=.seq its'.toArray n' }:=by
  rw [Heap.get?_update_self f ho (by rw [hf]<;>rfl),hf]
 refine I.write (x:=p) (e:=p) (by rw [h];trivial) (.inl rfl) (fun b u hb q=>(Heap.get?_update_other _ _ (Ne.symm hb)).trans q) ⟨_,e⟩ ?_
 exact ⟨hz,its',n',r,e⟩
def qe8:V→V→V→Hp→(Hp→Prop)→Prop:=fun o i v H Q=>∃ p xs k j,o=.ref p∧i=.int k∧H p=some (.lst xs)∧ixN xs.length k=some j∧Q (upd H p (.lst (xs.set j v)))
theorem set_list:qgh X qe8:=by
 intro pins s σ H o i v ov iv u Q I ro ri rv h
 obtain ⟨p,xs,k,j,rfl,rfl,hp,hj,q⟩:=h
 cases ro
 obtain ⟨t,rfl⟩:=ri
 obtain ⟨its,n,r,ho,hz⟩:=I.lst hp
 obtain ⟨h1,h2,h3,h4⟩:=qdI hj
 have hl:=r.length
 have hn:=qbs
 have I':Inv X pins σ (upd H p (.lst (xs.set j v))) { s with heap:=s.heap.update p (Obj.mapSeq (·.setIfInBounds j u)) }:=
  I.lstUpd hp ho (mapSeq_set its n j u) (r.set rv j) (by rw [List.length_set];exact hz) s.toks
 by_cases h0:0≤k
 ·have hk:k.toNat=j:=by
   rw [seqIndex_of h0 h4] at h1
   exact Option.some.inj h1
  exact PySem.W.ki_setAt ho h0 (by omega) (by rw [List.size_toArray,← hl];exact h4) (by rw [hk];exact ⟨_,I',q⟩)
 ·have hk:(k + (its.toArray.size:Int)).toNat=j:=by
   rw [seqIndex_neg (by omega) h3] at h1
   rw [List.size_toArray,← hl]
   exact Option.some.inj h1
  exact PySem.W.ki_setBack ho (by omega) (by rw [List.size_toArray,← hl];exact h3) (by omega) (by rw [hk];exact ⟨_,I',q⟩)
theorem slice_bounds (lo hi:Option Int) (n:Nat):(sliceBounds lo hi none n).1=((HT.sIx n 0 lo:Nat):Int)∧(sliceBounds lo hi none n).2.1=((HT.sIx n n hi:Nat):Int)∧(sliceBounds lo hi none n).2.2=1:=by
 refine ⟨?_,?_,rfl⟩
 ·cases lo with
  | none=>simp [sliceBounds,HT.sIx]
  | some i =>
   simp only [sliceBounds,HT.sIx,Option.getD_none,show (1:Int) > 0 by decide,if_true]
   by_cases h:i < 0
   ·simp only [h,if_true]<;>omega
   ·simp only [h,if_false]<;>omega
 ·cases hi with
  | none=>simp [sliceBounds,HT.sIx]
  | some i =>
   simp only [sliceBounds,HT.sIx,Option.getD_none,show (1:Int) > 0 by decide,if_true]
   by_cases h:i < 0
   ·simp only [h,if_true]<;>omega
   ·simp only [h,if_false]<;>omega
theorem slicePick_cut (its:List Value) (lo hi:Option Int):slicePick its.toArray lo hi none=((its.drop (HT.sIx its.length 0 lo)).take (HT.sIx its.length its.length hi - HT.sIx its.length 0 lo)).toArray:=by
 obtain ⟨h1,h2,h3⟩:=slice_bounds lo hi its.toArray.size
 unfold slicePick
 rw [h1,h2,h3]
 simp only [sliceRange_one,pick_run,List.size_toArray]<;>rfl
def qgO (K:PySem.W.Frag):V→Option Int→Option Int→Hp→VK→Prop:=fun x lo hi H Q=>∃ a xs,x=.ref a∧SqL K H a xs∧∀ p,H p=none→Q (.ref p) (upd H p (.lst (qbH xs lo hi)))
theorem sl_list:SlR X (qgO X.K):=by
 intro pins s σ H x v vl vu lo hi sl Q I rx hs pl pu h
 obtain ⟨a,xs,rfl,hx,q⟩:=h
 cases rx
 obtain ⟨its,r,ht,hz⟩:=I.list hx
 have hlen:=r.length
 refine ⟨"list",_,slot_list_getitem.lookup,ht.isList.typeIs,?_⟩
 refine wpAny_getItem_list_slice ht.isList hs pl pu .none (by simp) ?_ (by rw [List.size_toArray]<;>omega)
 rw [slicePick_cut,← hlen]
 refine ⟨.ref s.heap.objs.size,_,I.laid (t':=s.toks) (o:=.lst (qbH xs lo hi)) (fun b ob q=>Heap.get?_push_of_some _ q) (Nat.le_refl _) ?_,rfl,q _ (I.hok.fresh (Nat.le_refl _))⟩
 exact ⟨Nat.le_trans (qa7 xs lo hi) hz,_,0,(r.drop (HT.sIx xs.length 0 lo)).take (HT.sIx xs.length xs.length hi - HT.sIx xs.length 0 lo),Heap.get?_push_size _ rfl⟩
def zO:V→Bool
 | .non=>true
 | .bl _=>true
 | .int _=>true
 | .str _=>true
 | _=>false
def eqV:V→V→Bool
 | .non,.non=>true
 | .bl a,.bl b=>a==b
 | .bl a,.int b=>(if a then 1 else 0)==b
 | .int a,.bl b=>a==(if b then 1 else 0)
 | .int a,.int b=>a==b
 | .str a,.str b=>a==b
 | _,_=>false
theorem qdJ {A:Around} {s:Shared} {y x:V} {u v:Value} (ry:RelV y u) (rx:RelV x v) (fy:zO y=true) (fx:zO x=true):SeqAt.EqAt A s u v (eqV y x):=by
 cases y with
 | non =>
  cases ry
  cases x with
  | non=>cases rx;exact SeqAt.EqAt.same _
  | bl b=>cases rx;exact SeqAt.EqAt.none_bool b
  | int b=>obtain ⟨t,rfl⟩:=rx;exact SeqAt.EqAt.none_int b t
  | str b=>obtain ⟨t,rfl⟩:=rx;exact SeqAt.EqAt.none_str b t
  | _=>exact absurd (show false=true from fx) Bool.false_ne_true
 | bl a =>
  cases ry
  cases x with
  | non=>cases rx;exact SeqAt.EqAt.bool_none a
  | bl b=>cases rx;exact SeqAt.EqAt.bool_bool a b
  | int b=>obtain ⟨t,rfl⟩:=rx;exact SeqAt.EqAt.bool_int a b t
  | str b=>obtain ⟨t,rfl⟩:=rx;exact SeqAt.EqAt.bool_str a b t
  | _=>exact absurd (show false=true from fx) Bool.false_ne_true
 | int a =>
  obtain ⟨t',rfl⟩:=ry
  cases x with
  | non=>cases rx;exact SeqAt.EqAt.int_none a t'
  | bl b=>cases rx;exact SeqAt.EqAt.int_bool a t' b
  | int b=>obtain ⟨t,rfl⟩:=rx;exact SeqAt.EqAt.int_int a t' b t
  | str b=>obtain ⟨t,rfl⟩:=rx;exact SeqAt.EqAt.int_str a t' b t
  | _=>exact absurd (show false=true from fx) Bool.false_ne_true
 | str a =>
  obtain ⟨t',rfl⟩:=ry
  cases x with
  | non=>cases rx;exact SeqAt.EqAt.str_none a t'
  | bl b=>cases rx;exact SeqAt.EqAt.str_bool a t' b
  | int b=>obtain ⟨t,rfl⟩:=rx;exact SeqAt.EqAt.str_int a t' b t
  | str b=>obtain ⟨t,rfl⟩:=rx;exact SeqAt.EqAt.str_str a t' b t
  | _=>exact absurd (show false=true from fx) Bool.false_ne_true
 | _=>exact absurd (show false=true from fy) Bool.false_ne_true
def eqU (x:V) (u:Value):Bool:=match u with
 | .none=>eqV .non x
 | .bool b=>eqV (.bl b) x
 | .int i _=>eqV (.int i) x
 | .str z _=>eqV (.str z) x
 | _=>false
theorem qev {x y:V} {u:Value} (r:RelV y u) (f:zO y=true):eqU x u=eqV y x:=by
 cases y with
 | non=>cases r;rfl
 | bl b=>cases r;rfl
 | int i=>obtain ⟨t,rfl⟩:=r;rfl
 | str z=>obtain ⟨t,rfl⟩:=r;rfl
 | _=>exact absurd (show false=true from f) Bool.false_ne_true
theorem qa8 {x:V}:∀ {xs:List V} {us:List Value},Vals xs us→xs.all zO=true→us.any (eqU x)=xs.any fun y=>eqV y x
 | _,_,.nil,_=>rfl
 | y::xs,u::us,.cons r t,f=>by
  rw [List.all_cons,Bool.and_eq_true] at f
  rw [List.any_cons,List.any_cons,qev r f.1,qa8 t f.2]
theorem qay {A:Around} {s:Shared} {x:V} {v:Value} (rx:RelV x v) (fx:zO x=true):∀ {xs:List V} {us:List Value},Vals xs us→xs.all zO=true→∀ u∈us,SeqAt.EqAt A s u v (eqU x u)
 | _,_,.nil,_=>fun u hu=>by cases hu
 | y::xs,u::us,.cons r t,f=>fun u' hu=>by
  rw [List.all_cons,Bool.and_eq_true] at f
  rcases List.mem_cons.mp hu with rfl | hu
  ·rw [qev r f.1];exact qdJ r rx f.1 fx
  ·exact qay rx fx t f.2 u' hu
def inV (x:V) (xs:List V):Bool:=xs.any fun y=>eqV y x
def rIn (K:PySem.W.Frag) (neg:Bool):R2:=fun x y H Q=>∃ p xs,y=.ref p∧(SqL K H p xs∨SqT K H p xs)∧zO x=true∧xs.all zO=true∧Q (.bl (if neg then !inV x xs else inV x xs)) H
theorem op_in_seq:OpR X (compareOp .In) (rIn X.K false):=by
 intro pins s σ H x y v u Q I rx ry h
 obtain ⟨p,xs,rfl,hq,fx,fs,q⟩:=h
 cases ry
 rcases hq with hq | hq
 ·obtain ⟨its,r,pl,hz⟩:=I.list hq
  refine SeqAt.in_listAt (eqU x) pl.isList (fun w hw=>qay rx fx r fs w (by simpa using hw)) ⟨.bl _,H,I,rfl,?_⟩
  rw [show its.toArray.any (eqU x)=its.any (eqU x) by simp,qa8 r fs]
  exact q
 ·obtain ⟨its,r,pl,hz⟩:=I.tuple hq
  refine SeqAt.in_tupleAt (eqU x) pl (fun w hw=>qay rx fx r fs w (by simpa using hw)) ⟨.bl _,H,I,rfl,?_⟩
  rw [show its.toArray.any (eqU x)=its.any (eqU x) by simp,qa8 r fs]
  exact q
theorem op_notIn_seq:OpR X (compareOp .NotIn) (rIn X.K true):=by
 intro pins s σ H x y v u Q I rx ry h
 obtain ⟨p,xs,rfl,hq,fx,fs,q⟩:=h
 cases ry
 rcases hq with hq | hq
 ·obtain ⟨its,r,pl,hz⟩:=I.list hq
  refine SeqAt.notIn_listAt (eqU x) pl.isList (fun w hw=>qay rx fx r fs w (by simpa using hw)) ⟨.bl _,H,I,rfl,?_⟩
  rw [show its.toArray.any (eqU x)=its.any (eqU x) by simp,qa8 r fs]
  exact q
 ·obtain ⟨its,r,pl,hz⟩:=I.tuple hq
  refine SeqAt.notIn_tupleAt (eqU x) pl (fun w hw=>qay rx fx r fs w (by simpa using hw)) ⟨.bl _,H,I,rfl,?_⟩
  rw [show its.toArray.any (eqU x)=its.any (eqU x) by simp,qa8 r fs]
  exact q
theorem call_len_seq:zM X (.builtin "len") (fun xs H Q=>∃ p ys,xs=[.ref p]∧(SqL X.K H p ys∨SqT X.K H p ys)∧Q (.int ys.length) H):=by
 intro pins s σ H xs us Q I r h
 obtain ⟨p,ys,rfl,hq,q⟩:=h
 obtain ⟨u,rfl,rx⟩:=qa5 r
 cases rx
 have hn:=qbs
 rcases hq with hq | hq
 ·obtain ⟨its,r',pl,hz⟩:=I.list hq
  have hlen:=r'.length
  exact Calls.call_len_list pl.isList (by simp only [List.size_toArray]<;>omega) ⟨.int ys.length,H,I.tok _,⟨s.toks + 1,by rw [List.size_toArray,hlen]⟩,q⟩
 ·obtain ⟨its,r',pl,hz⟩:=I.tuple hq
  have hlen:=r'.length
  exact len_tuple pl (by simp only [List.size_toArray]<;>omega) ⟨.int ys.length,H,I.tok _,⟨s.toks + 1,by rw [List.size_toArray,hlen]⟩,q⟩
theorem call_len_str:zM X (.builtin "len") (fun xs H Q=>∃ z,xs=[.str z]∧z.length≤sizeLine∧Q (.int z.length) H):=by
 intro pins s σ H xs us Q I r h
 obtain ⟨z,rfl,hz,q⟩:=h
 obtain ⟨u,rfl,t,rfl⟩:=qa5 r
 have hn:=qbs
 exact len_str (by omega) ⟨.int z.length,H,I.tok _,⟨_,rfl⟩,q⟩
theorem call_list_of:zM X (.type "list") (fun xs H Q=>∃ p ys,xs=[.ref p]∧(SqL X.K H p ys∨SqT X.K H p ys)∧∀ l,H l=none→Q (.ref l) (upd H l (.lst ys))):=by
 intro pins s σ H xs us Q I r h
 obtain ⟨p,ys,rfl,hq,q⟩:=h
 obtain ⟨u,rfl,rx⟩:=qa5 r
 cases rx
 have fin:∀ (its:List Value),Vals ys its→ys.length≤sizeLine→∀ (h':Heap) (c':Nat),(∀ b o',s.heap.get? b=some o'→h'.get? b=some o') →
   h'.get? s.heap.objs.size=some { cls:=.type "list",dict:=none,data:=.seq its.toArray c',slots:=#[] }→EP X pins σ Q (.ref s.heap.objs.size) { s with heap:=h' }:=fun its r' hz h' c' kp e =>
  ⟨.ref s.heap.objs.size,_,I.laid (t':=s.toks) kp (Nat.le_refl _) (show ObjOk X.prog X.w _ h' _ (.lst ys) from ⟨hz,its,c',r',e⟩),rfl,q _ (I.hok.fresh (Nat.le_refl _))⟩
 rcases hq with hq | hq
 ·obtain ⟨its,r',pl,hz⟩:=I.list hq
  have hlen:=r'.length
  obtain ⟨o,ho,hc,n,hd⟩:=pl.isList
  exact call_list_seq p (.inl rfl) ho hc hd (fun h' c' kp e=>fin its r' hz h' c' kp e) (by simp only [List.size_toArray]<;>omega)
 ·obtain ⟨its,r',pl,hz⟩:=I.tuple hq
  have hlen:=r'.length
  obtain ⟨o,ho,hc,n,hd⟩:=pl
  exact call_list_seq p (.inr rfl) ho hc hd (fun h' c' kp e=>fin its r' hz h' c' kp e) (by simp only [List.size_toArray]<;>omega)
theorem call_tuple_of:zM X (.type "tuple") (fun xs H Q=>∃ p ys,xs=[.ref p]∧((SqL X.K H p ys∧∀ l,H l=none→Q (.ref l) (upd H l (.tup ys)))∨(SqT X.K H p ys∧Q (.ref p) H))):=by
 intro pins s σ H xs us Q I r h
 obtain ⟨p,ys,rfl,h⟩:=h
 obtain ⟨u,rfl,rx⟩:=qa5 r
 cases rx
 rcases h with ⟨hq,q⟩ | ⟨hq,q⟩
 ·obtain ⟨its,r',pl,hz⟩:=I.list hq
  have hlen:=r'.length
  refine call_tuple_list pl.isList (fun h' kp=>?_) (by simp only [List.size_toArray]<;>omega)
  have I1:Inv X pins σ H { s with heap:=h' }:=I.kept (t':=s.toks) kp
  have I2:Inv X pins σ (upd H h'.objs.size (.tup ys)) { s with heap:=h'.push { cls:=.type "tuple",data:=.seq its.toArray } }:=
   I1.laid (t':=s.toks) (fun b o e=>Heap.get?_push_of_some _ e) (Nat.le_refl _) (show ObjOk X.prog X.w _ _ _ (.tup ys) from ⟨hz,its,r',IsTup.new _ _⟩)
  exact ⟨.ref h'.objs.size,_,I2,rfl,q _ (I1.hok.fresh (Nat.le_refl _))⟩
 ·obtain ⟨its,r',pl,hz⟩:=I.tuple hq
  exact call_tuple_same pl ⟨.ref p,H,I,rfl,q⟩
def tyV (K:PySem.W.Frag) (T:String) (x:V) (H:Hp):Prop:=match x with
 | .str _=>T="str"
 | .int _=>T="int"
 | .ref p=>(T="list"∧∃ xs,SqL K H p xs)∨(T="tuple"∧∃ o,K.lookup p=some o∧o.cls=.type "tuple"∧o.dict=none) ∨
   (T="dict"∧((∃ kvs,H p=some (.dK kvs))∨∃ kvs,H p=some (.dT kvs)))∨(T="set"∧∃ S n,H p=some (.set S n))
 | _=>False
theorem qew {pins:List (Addr×Obj)} {σ:St} {H:Hp} {s:Shared} {T:String} {x:V} {v:Value} (I:Inv X pins σ H s) (r:RelV x v) (ty:tyV X.K T x H) :
  s.TypeIs v T∧∀ a,v=.ref a→∃ ob,s.heap.get? a=some ob∧ob.dict=none:=by
 cases x with
 | str z =>
  obtain ⟨t,rfl⟩:=r
  cases (show T="str" from ty)
  exact ⟨typeIs_str s z t,fun _ e=>nomatch e⟩
 | int i =>
  obtain ⟨t,rfl⟩:=r
  cases (show T="int" from ty)
  exact ⟨typeIs_int s i t,fun _ e=>nomatch e⟩
 | ref p =>
  cases r
  rcases ty with ⟨rfl,xs,hq⟩ | ⟨rfl,o,hk,hc,hd⟩ | ⟨rfl,hk⟩ | ⟨rfl,S,n,hk⟩
  ·obtain ⟨its,_,pl,_⟩:=I.list hq
   refine ⟨pl.isList.typeIs,fun a e=>?_⟩
   cases e
   obtain ⟨o,n,e,c,hd,_⟩:=pl
   exact ⟨o,e,hd⟩
  ·refine ⟨⟨o,I.kIn p o hk,hc⟩,fun a e=>?_⟩
   cases e
   exact ⟨o,I.kIn _ o hk,hd⟩
  ·have z:∃ o,s.heap.get? p=some o∧o.ExactDict:=by
    rcases hk with ⟨kvs,hk⟩ | ⟨kvs,hk⟩
    ·obtain ⟨_,_,_,_,o,_,_,e,ex,_⟩:=I.hok p _ hk
     exact ⟨o,e,ex⟩
    ·obtain ⟨_,_,_,_,o,_,_,e,ex,_⟩:=I.hok p _ hk
     exact ⟨o,e,ex⟩
   obtain ⟨o,e,ex⟩:=z
   refine ⟨⟨o,e,ex.1⟩,fun a e2=>?_⟩
   cases e2
   exact ⟨o,e,ex.2.1⟩
  ·obtain ⟨o,_,_,_,e,ex,_⟩:=I.hok p _ hk
   refine ⟨⟨o,e,ex.1⟩,fun a e2=>?_⟩
   cases e2
   exact ⟨o,e,ex.2.1⟩
 | _=>exact False.elim ty
def qgk (K:PySem.W.Frag) (T:String) (r:V→List V→Hp→VK→Prop) (to:TE):TE:=fun σ H Q=>to σ H fun x H1=>tyV K T x H1∧r x [] H1 Q
def tBM (K:PySem.W.Frag) (T:String) (r:V→List V→Hp→VK→Prop) (to:TE) (t:TA):TE:=fun σ H Q=>to σ H fun x H1=>tyV K T x H1∧t σ H1 fun xs H2=>r x xs H2 Q
variable {o e:Expr} {es:List Expr} {to:TE} {t:TA} {name:Str} {apos cpos:Pos} {T id:String} {r:V→List V→Hp→VK→Prop}
theorem pe_bm0 (pa:PlainAttrs T) (slot:Slot T name id) (hty:typeOf (.builtin id)=pure (.type "method_descriptor")) (hm:MtR X id r) (ho:PE X o to)
  (hbase:attributeBase o name X.env (eval o X.env)=eval o X.env:=by rfl) (hline:(apos.endLine==cpos.line)=true:=by rfl):PE X (.Call (.Attribute o name apos) [] [] cpos) (qgk X.K T r to):=by
 intro pins s σ H Q I h
 refine wpAny_Call_method0_late hbase hline (thn (ho pins s σ H _ I h) fun v s1 ⟨x,H1,I1,r1,ty,q1⟩=>?_)
 obtain ⟨h1,h2⟩:=qew I1 r1 ty
 exact ⟨T,id,pa,slot,hty,h1,h2,Calls.callWith_builtin rfl (PySem.evalArgs_none (hm pins s1 σ H1 x [] v [] Q I1 r1 .nil q1))⟩
theorem pe_bm (pa:PlainAttrs T) (slot:Slot T name id) (hty:typeOf (.builtin id)=pure (.type "method_descriptor")) (hm:MtR X id r) (ho:PE X o to) (ha:PA X (e::es) t)
  (hbase:attributeBase o name X.env (eval o X.env)=eval o X.env:=by rfl)
  (hfew:((backTo cpos (starEach (e::es) X.env)).all (fun x=>!x.1)&&(backToKw cpos (keywordEach [] X.env)).all (fun x=>x.1.isSome)
   && decide ((e::es).length + ([]:List Keyword).length + (if ([]:List Keyword).isEmpty then 0 else 1) < 30))=true:=by rfl)
  (hline:(apos.endLine==cpos.line)=true:=by rfl) (hs:starEach (e::es) X.env=(false,eval e X.env)::starEach es X.env:=by rfl) (hplain:(backTo cpos (starEach es X.env)).any (·.1)=false:=by rfl) :
  PE X (.Call (.Attribute o name apos) (e::es) [] cpos) (tBM X.K T r to t):=by
 intro pins s σ H Q I h
 refine wpAny_Call_method_late hbase hfew hline rfl (thn (ho pins s σ H _ I h) fun v s1 ⟨x,H1,I1,r1,ty,q1⟩=>?_)
 obtain ⟨h1,h2⟩:=qew I1 r1 ty
 refine ⟨T,id,pa,slot,hty,h1,h2,?_⟩
 have hA:=ha cpos pins s1 σ H1 _ I1 q1
 rw [hs] at hA ⊢
 refine Calls.callWith_builtin (by show (false||(backTo cpos (starEach es X.env)).any (·.1))=false;rw [hplain]<;>rfl) (Calls.evalArgs_plain ?_)
 exact thn hA fun us s2 ⟨vs,H2,I2,r2,q2⟩=>hm pins s2 σ H2 x vs v us Q I2 r1 r2 q2
end
end L2
namespace L2
open PySem PySem.Spec PyProof.Rows
def MtM (X:Cx) (id:String) (r:V→List V→Hp→VK→Prop):Prop:=
 ∀ (pins:List (Addr×Obj)) (s:Shared) (σ:St) (H:Hp) (x:V) (xs:List V) (v:Value) (us:List Value) (Q:VK),Inv X pins σ H s→RelV x v→Vals xs us→r x xs H Q →
  wpAny (model X.prog X.w) X.A (call (.builtin id) (v::us)) (EP X pins σ Q) X.xe s
theorem Vals.one:∀ {x:V} {us:List Value},Vals [x] us→∃ u,us=[u]∧RelV x u
 | _,_,.cons r .nil=>⟨_,rfl,r⟩
theorem Vals.zero:∀ {us:List Value},Vals [] us→us=[]
 | _,.nil=>rfl
theorem Vals.dropLast {xs:List V} {us:List Value} (h:Vals xs us):Vals xs.dropLast us.dropLast:=by
 induction h with
 | nil=>exact .nil
 | cons r t ih =>
  cases t with
  | nil=>exact .nil
  | cons q t'=>exact .cons r ih
theorem Vals.rep {xs:List V} {us:List Value} (h:Vals xs us):∀ k:Nat,Vals (List.replicate k xs).flatten (List.replicate k us).flatten
 | 0=>.nil
 | k + 1=>by
  rw [List.replicate_succ,List.replicate_succ,List.flatten_cons,List.flatten_cons]
  exact Vals.append h (Vals.rep h k)
theorem erase_last {α:Type} (l:List α):l.eraseIdx (l.length - 1)=l.dropLast:=by
 induction l with
 | nil=>rfl
 | cons a r ih =>
  cases r with
  | nil=>rfl
  | cons b r =>
   have e:(a::b::r).length - 1=((b::r).length - 1) + 1:=by
    have h1:(a::b::r).length=r.length + 2:=rfl
    have h2:(b::r).length=r.length + 1:=rfl
    omega
   rw [e,List.eraseIdx_cons_succ,ih]
   all_goals rfl
theorem qb5 (its:List Value):∀ (k:Nat) (acc:List Value),
  List.foldl (fun x1 x2=>x1++x2) acc.toArray (List.replicate k its.toArray)=(acc++(List.replicate k its).flatten).toArray
 | 0,acc=>by simp
 | k + 1,acc=>by
  have e:acc.toArray++its.toArray=(acc++its).toArray:=by simp
  have e2:(acc++its)++(List.replicate k its).flatten=acc++(List.replicate (k + 1) its).flatten:=by
   rw [List.replicate_succ,List.flatten_cons,List.append_assoc]
  rw [← e2,← qb5 its k (acc++its),← e,List.replicate_succ,List.foldl_cons]
section
variable {X:Cx} {pins:List (Addr×Obj)} {σ:St} {H:Hp} {s:Shared} {l b:Addr} {xs ys zs:List V}
theorem Inv.lset {its its':List Value} {n:Nat} {f:Array Value→Array Value} {t':Nat} (I:Inv X pins σ H s) (hH:H l=some (.lst xs))
  (e:s.heap.get? l=some { cls:=.type "list",data:=.seq its.toArray n }) (hf:f its.toArray=its'.toArray) (hv:Vals ys its') (hz:ys.length≤sizeLine) :
  Inv X pins σ (upd H l (.lst ys)) { s with heap:=s.heap.update l (Obj.mapSeq f),toks:=t' }:=by
 have q:=PySem.IsL.update e f
 rw [hf] at q
 refine I.write (x:=l) (e:=l) (by rw [hH];exact trivial) (.inl rfl) (fun b' u hb hu=>(Heap.get?_update_other s.heap (Obj.mapSeq f) (Ne.symm hb)).trans hu) ⟨_,q⟩ ?_
 exact ⟨hz,its',_,hv,q⟩
theorem Inv.lnew {its:List Value} {t':Nat} (I:Inv X pins σ H s) (hv:Vals ys its) (hz:ys.length≤sizeLine) :
  Inv X pins σ (upd H s.heap.objs.size (.lst ys)) { s with heap:=s.heap.push { cls:=.type "list",data:=.seq its.toArray },toks:=t' }:=
 I.laid (fun _ _ q=>Heap.get?_push_of_some _ q) (Nat.le_refl _) ⟨hz,its,0,hv,Heap.get?_push_size _ rfl⟩
theorem Inv.fresh (I:Inv X pins σ H s):H s.heap.objs.size=none:=I.hok.fresh (Nat.le_refl _)
theorem Inv.lstM (I:Inv X pins σ H s) (hH:H l=some (.lst xs)):xs.length≤sizeLine∧∃ (its:List Value) (n:Nat),Vals xs its∧xs.length=its.length∧s.heap.get? l=some { cls:=.type "list",data:=.seq its.toArray n }:=by
 obtain ⟨z,its,n,r,e⟩:=I.hok l _ hH
 exact ⟨z,its,n,r,r.length,e⟩
theorem notLongL {n:Nat} (h:n≤sizeLine):Builtin.List.listTooLong n=false:=by
 unfold Builtin.List.listTooLong
 exact decide_eq_false (by omega)
end
section
variable {X:Cx}
def qcz:V→List V→Hp→VK→Prop:=fun x vs H Q=>∃ l xs y,x=.ref l∧vs=[y]∧H l=some (.lst xs)∧xs.length < sizeLine∧Q .non (upd H l (.lst (xs++[y])))
theorem mt_append:MtM X "list.append" qcz:=by
 intro pins s σ H x vs v us Q I rx rv h
 obtain ⟨l,xs,y,rfl,rfl,hH,hz,q⟩:=h
 cases rx
 obtain ⟨u,rfl,ru⟩:=rv.one
 obtain ⟨z,its,n,r,hl,e⟩:=I.lstM hH
 refine call_meets F.slot_list_append ⟨_,e,rfl⟩ F.entry_list_append (F.args_list_append_2 _ _) (PySem.list_append l its.toArray n u (by rw [List.size_toArray];omega)) ⟨e,?_⟩
 refine ⟨.non,_,I.lset (its':=its++[u]) hH e (by simp) (r.append (.cons ru .nil)) ?_,rfl,q⟩
 rw [List.length_append,List.length_singleton]
 omega
def qgP:V→List V→Hp→VK→Prop:=fun x vs H Q=>∃ l xs y,x=.ref l∧vs=[]∧H l=some (.lst xs)∧xs[xs.length - 1]?=some y∧Q y (upd H l (.lst xs.dropLast))
theorem mt_pop:MtM X "list.pop" qgP:=by
 intro pins s σ H x vs v us Q I rx rv h
 obtain ⟨l,xs,y,rfl,rfl,hH,hy,q⟩:=h
 cases rx
 have hus:=rv.zero
 subst hus
 obtain ⟨z,its,n,r,hl,e⟩:=I.lstM hH
 obtain ⟨u,hu,ru⟩:=r.get hy
 have hy':its.toArray[its.toArray.size - 1]?=some u:=by
  show its.toArray[its.length - 1]?=some u
  rw [← Array.getElem?_toList,← hl]
  exact hu
 refine call_meets F.slot_list_pop ⟨_,e,rfl⟩ F.entry_list_pop (F.args_list_pop_1 _) (MeetsSeq.list_pop_last l its.toArray n u hy' (by rw [List.size_toArray];omega)) ⟨e,?_⟩
 refine ⟨y,_,I.lset (its':=its.dropLast) hH e ?_ r.dropLast ?_,ru,q⟩
 ·show its.toArray.eraseIdxIfInBounds (its.toArray.size - 1)=its.dropLast.toArray
  rw [List.size_toArray,List.eraseIdxIfInBounds_toArray,erase_last]
 ·rw [List.length_dropLast]
  omega
def qgQ:R2:=fun x y H Q=>∃ l b xs zs,x=.ref l∧y=.ref b∧H l=some (.lst xs)∧H b=some (.lst zs)∧xs.length + zs.length≤sizeLine∧∀ p,H p=none→Q (.ref p) (upd H p (.lst (xs++zs)))
theorem op_cat:OpR X (binaryOp .Add) qgQ:=by
 intro pins s σ H x y v u Q I rx ry h
 obtain ⟨l,b,xs,zs,rfl,rfl,hH,hB,hz,q⟩:=h
 cases rx
 cases ry
 obtain ⟨z,its,n,r,hl,e⟩:=I.lstM hH
 obtain ⟨z2,its2,n2,r2,hl2,e2⟩:=I.lstM hB
 refine PySem.P.add_list e e2 ?_ (by rw [List.size_toArray,List.size_toArray];omega)
 have ea:its.toArray++its2.toArray=(its++its2).toArray:=by simp
 rw [ea]
 exact ⟨.ref _,_,I.lnew (t':=s.toks) (r.append r2) (by rw [List.length_append];omega),rfl,q _ I.fresh⟩
def qgR:R2:=fun x y H Q=>∃ l k xs,x=.ref l∧y=.int k∧H l=some (.lst xs)∧-(2 ^ 63)≤k∧k < 2 ^ 63∧xs.length * k.toNat≤sizeLine ∧
 ∀ p,H p=none→Q (.ref p) (upd H p (.lst (List.replicate k.toNat xs).flatten))
theorem len_rep {α:Type} (xs:List α) (k:Nat):(List.replicate k xs).flatten.length=k * xs.length:=by
 induction k with
 | zero=>simp
 | succ k ih=>rw [List.replicate_succ,List.flatten_cons,List.length_append,ih,Nat.succ_mul,Nat.add_comm]
theorem qex:OpR X (binaryOp .Mult) qgR:=by
 intro pins s σ H x y v u Q I rx ry h
 obtain ⟨l,k,xs,rfl,rfl,hH,h1,h2,hz,q⟩:=h
 cases rx
 obtain ⟨t,rfl⟩:=ry
 obtain ⟨z,its,n,r,hl,e⟩:=I.lstM hH
 have hlen:its.toArray.size * k.toNat≤sizeLine:=by rw [List.size_toArray,← hl];exact hz
 have hcap:¬ its.toArray.size * k.toNat > (2 ^ 63 - 1) / 8:=by
  have:(sizeLine:Nat)≤(2 ^ 63 - 1) / 8:=by decide
  omega
 have hfit:¬ (!Builtin.List.listFitsIndex k)=true:=by
  rw [fitsIndex_both h1 h2]
  exact Bool.false_ne_true
 have hlong:¬ Builtin.List.listTooLong (its.toArray.size * k.toNat)=true:=by
  rw [notLongL hlen]
  exact Bool.false_ne_true
 have hnew:List.foldl (fun x1 x2=>x1++x2) #[] (List.replicate (if its.toArray.isEmpty=true then 0 else k.toNat) its.toArray)=(List.replicate k.toNat its).flatten.toArray:=by
  have f0:∀ m:Nat,List.foldl (fun x1 x2=>x1++x2) #[] (List.replicate m its.toArray)=(List.replicate m its).flatten.toArray:=fun m=>by
   have:=qb5 its m []
   rw [List.nil_append] at this
   exact this
  rw [f0]
  cases its with
  | nil=>simp
  | cons a r'=>rw [if_neg (by simp)]
 refine wpAny_binaryOp_repeat_ref (T:="list") (U:="int") (by decide) ⟨_,e,rfl⟩ (fun s'=>typeIs_int s' k t) noFill_list_mul F.fills_int_mul F.slot_int_rmul repeat_list F.slot_int_index.lookup
  (call_meets F.slot_int_rmul (typeIs_int s k t) F.entry_int_rmul (F.args_int_rmul_2 _ _) (int___rmul___int_list k t l its.toArray n)
   ⟨e,rfl,⟨_,e,rfl⟩,call_meets F.slot_list_mul ⟨_,e,rfl⟩ F.entry_list_mul (F.args_list_mul_2 _ _) (AutoListH.list___mul___list_int_3 l its.toArray n k t hfit hcap hlong) ⟨e,?_⟩⟩)
 rw [hnew]
 exact ⟨.ref _,_,I.lnew (t':=s.toks) (r.rep k.toNat) (by rw [len_rep,Nat.mul_comm];exact hz),rfl,q _ I.fresh⟩
end
section
variable {prog:Program} {w:World} {A:Around} {E:Value→Shared→Prop} {s:Shared}
set_option maxRecDepth 100000 in
end
section
variable {X:Cx}
end
end L2
namespace L2
open PySem PySem.Spec PyProof.Rows
section
variable {κ:Type} [DecidableEq κ]
def qbR (kvs:List (κ×V)) (k:κ):Option V:=(kvs.find? fun kv=>decide (kv.1=k)).map (·.2)
def qdt (kvs:List (κ×V)) (k:κ) (v:V):List (κ×V):=
 if (kvs.any fun kv=>decide (kv.1=k))=true then kvs.map (fun kv=>if kv.1=k then (kv.1,v) else kv) else kvs++[(k,v)]
def dropK (kvs:List (κ×V)) (k:κ):List (κ×V):=kvs.filter fun kv=>decide (kv.1≠k)
theorem qaY {p:κ×V} {r:List (κ×V)} {k:κ} (e:p.1=k):qbR (p::r) k=some p.2:=by simp [qbR,List.find?_cons,e]
theorem qaz {p:κ×V} {r:List (κ×V)} {k:κ} (e:¬ p.1=k):qbR (p::r) k=qbR r k:=by simp [qbR,List.find?_cons,e]
theorem qbI (k:κ):∀ kvs:List (κ×V),(kvs.any fun kv=>decide (kv.1=k))=(qbR kvs k).isSome
 | []=>rfl
 | p::r=>by
  rw [List.any_cons]
  by_cases e:p.1=k
  ·simp only [qaY e,decide_eq_true e,Bool.true_or,Option.isSome_some]
  ·rw [qaz e,decide_eq_false e,Bool.false_or];exact qbI k r
theorem qa9 (kvs:List (κ×V)) (k:κ) (v:V):(qdt kvs k v).length≤kvs.length + 1:=by
 unfold qdt
 split
 ·rw [List.length_map];omega
 ·rw [List.length_append,List.length_cons,List.length_nil];omega
theorem putK_new {kvs:List (κ×V)} {k:κ} (v:V) (h:qbR kvs k=none):qdt kvs k v=kvs++[(k,v)]:=by
 unfold qdt
 rw [qbI,h]
 exact if_neg (by decide)
theorem RelO.isSome_eq {o:Option V} {u:Option Value} (r:RelO o u):o.isSome=u.isSome:=by
 cases o with
 | none=>cases u with
  | none=>rfl
  | some _=>exact (show False from r).elim
 | some _=>cases u with
  | none=>exact (show False from r).elim
  | some _=>rfl
theorem KV.val {kvs:List (κ×V)} {vs:List (κ×Value)} (r:KV kvs vs) (k:κ):RelO (qbR kvs k) (valueAt vs k):=by
 unfold KV at r
 induction r with
 | nil=>exact True.intro
 | @cons p q ps qs h t ih =>
  obtain ⟨h1,h2⟩:=h
  by_cases e:p.1=k
  ·have e':q.1=k:=h1.symm.trans e
   have b:valueAt (q::qs) k=some q.2:=by simp [valueAt,List.find?_cons,e']
   rw [qaY e,b];exact h2
  ·have e':¬ q.1=k:=fun z=>e (h1.trans z)
   have b:valueAt (q::qs) k=valueAt qs k:=by simp [valueAt,List.find?_cons,e']
   rw [qaz e,b];exact ih
theorem KV.any {kvs:List (κ×V)} {vs:List (κ×Value)} (r:KV kvs vs) (k:κ):(kvs.any fun kv=>decide (kv.1=k))=vs.any fun kv=>decide (kv.1=k):=by
 unfold KV at r
 induction r with
 | nil=>rfl
 | cons h t ih=>rw [List.any_cons,List.any_cons,ih,h.1]
theorem KV.repl {kvs:List (κ×V)} {vs:List (κ×Value)} (r:KV kvs vs) (k:κ) {y:V} {u:Value} (ry:RelV y u) :
  KV (kvs.map fun kv=>if kv.1=k then (kv.1,y) else kv) (vs.map fun kv=>if kv.1=k then (kv.1,u) else kv):=by
 unfold KV at r ⊢
 induction r with
 | nil=>exact .nil
 | @cons p q ps qs h t ih =>
  rw [List.map_cons,List.map_cons]
  refine .cons ?_ ih
  obtain ⟨h1,h2⟩:=h
  by_cases e:p.1=k
  ·rw [if_pos e,if_pos (h1.symm.trans e)];exact ⟨h1,ry⟩
  ·rw [if_neg e,if_neg (fun z=>e (h1.trans z))];exact ⟨h1,h2⟩
theorem KV.put {kvs:List (κ×V)} {vs:List (κ×Value)} (r:KV kvs vs) (k:κ) {y:V} {u:Value} (ry:RelV y u):KV (qdt kvs k y) (stored vs k u):=by
 unfold qdt stored
 rw [r.any k]
 by_cases e:(vs.any fun kv=>decide (kv.1=k))=true
 ·rw [if_pos e,if_pos e];exact r.repl k ry
 ·rw [if_neg e,if_neg e];exact Paired.snoc r ⟨rfl,ry⟩
theorem KV.length {kvs:List (κ×V)} {vs:List (κ×Value)} (r:KV kvs vs):kvs.length=vs.length:=Paired.length r
end
theorem qdK {P:Program} {w:World} {k:Key} {u:Value} (r:RelV (kV k) u):(jS P w).is k u=true:=by
 cases k with
 | inl i=>obtain ⟨t,e⟩:=(show ∃ t,u=Value.int i t from r);subst e;exact mixKind_int P w i t
 | inr x=>obtain ⟨t,e⟩:=(show ∃ t,u=Value.str x t from r);subst e;exact mixKind_str P w x t
theorem qb6 {P:Program} {w:World}:∀ {ks:List Key} {us:List Value},Vals (ks.map kV) us→ItemsAre (jS P w) ks us
 | [],_,r=>by rw [List.map_nil] at r;cases r;exact .nil
 | k::ks,_,r=>by
  rw [List.map_cons] at r
  cases r with
  | cons h t=>exact .cons (qdK h) (qb6 t)
abbrev KT (H:Hp):List (List Key×V)→List (List Key×Addr×Value)→Prop:=Paired fun p q=>p.1=q.1∧H q.2.1=some (.tup (p.1.map kV))∧RelV p.2 q.2.2
theorem KT.val {H:Hp} {kvs:List (List Key×V)} {xs:List (List Key×Addr×Value)} (r:KT H kvs xs) (k:List Key):RelO (qbR kvs k) ((atKey xs k).map (·.2)):=by
 induction r with
 | nil=>exact True.intro
 | @cons p q ps qs h t ih =>
  obtain ⟨h1,_,h2⟩:=h
  by_cases e:p.1=k
  ·have e':q.1=k:=h1.symm.trans e
   have b:atKey (q::qs) k=some q.2:=by simp [atKey,List.find?_cons,e']
   rw [qaY e,b];exact h2
  ·have e':¬ q.1=k:=fun z=>e (h1.trans z)
   have b:atKey (q::qs) k=atKey qs k:=by simp [atKey,List.find?_cons,e']
   rw [qaz e,b];exact ih
theorem KT.repl {H:Hp} {kvs:List (List Key×V)} {xs:List (List Key×Addr×Value)} (r:KT H kvs xs) (k:List Key) {y:V} {u:Value} (ry:RelV y u) :
  KT H (kvs.map fun kv=>if kv.1=k then (kv.1,y) else kv) (xs.map (putAt k u)):=by
 induction r with
 | nil=>exact .nil
 | @cons p q ps qs h t ih =>
  rw [List.map_cons,List.map_cons]
  refine .cons ?_ ih
  obtain ⟨h1,h2,h3⟩:=h
  unfold putAt
  by_cases e:p.1=k
  ·rw [if_pos e,if_pos (h1.symm.trans e)];exact ⟨h1,h2,ry⟩
  ·rw [if_neg e,if_neg (fun z=>e (h1.trans z))];exact ⟨h1,h2,h3⟩
theorem KT.put {H:Hp} {kvs:List (List Key×V)} {xs:List (List Key×Addr×Value)} (r:KT H kvs xs) (k:List Key) {b:Addr} {y:V} {u:Value} (hb:H b=some (.tup (k.map kV))) (ry:RelV y u) :
  KT H (qdt kvs k y) (storedH xs k b u):=by
 have e:(kvs.any fun kv=>decide (kv.1=k))=(atKey xs k).isSome:=by
  rw [qbI,(r.val k).isSome_eq,Option.isSome_map]
 unfold qdt storedH
 rw [e]
 by_cases q:(atKey xs k).isSome=true
 ·rw [if_pos q,if_pos q];exact r.repl k ry
 ·rw [if_neg q,if_neg q];exact Paired.snoc r ⟨rfl,hb,ry⟩
theorem KT.keeps {H H':Hp} {kvs:List (List Key×V)} {xs:List (List Key×Addr×Value)} (r:KT H kvs xs) (ht:∀ b ys,H b=some (.tup ys)→H' b=some (.tup ys)):KT H' kvs xs:=
 Paired.mapP r fun _ _ z=>⟨z.1,ht _ _ z.2.1,z.2.2⟩
section
variable {P:Program} {w:World} {H:Hp} {h:Heap} {a:Addr}
theorem qfG {u:HO} (ok:HOk P w H h) (e:Rd H a u):ObjOk P w H h a u:=e.ok ok
theorem qdu {kvs:List (Key×V)} (ok:HOk P w H h) (e:Rd H a (.dK kvs)):kvs.length≤sizeLine∧(a==sysModules)=false∧∃ vs,KV kvs vs∧h.DictOf (jS P w) a vs:=
 show ObjOk P w H h a (.dK kvs) from qfG ok e
theorem dk_of {kvs:List (Key×V)} (ok:HOk P w H h) (e:H a=some (.dK kvs)):kvs.length≤sizeLine∧(a==sysModules)=false∧∃ vs,KV kvs vs∧h.DictOf (jS P w) a vs:=qdu ok (.inl e)
theorem qb7 {ks:List Key} (ok:HOk P w H h) (e:H a=some (.tup (ks.map kV))):(tupleKind (jS P w)).is h ks a:=by
 obtain ⟨_,its,r,o,h1,h2,n,h3⟩:=(show ObjOk P w H h a (.tup (ks.map kV)) from ok a _ e)
 exact ⟨o,its.toArray,n,h1,h2,h3,by simpa using qb6 r⟩
theorem qdL {kvs:List (List Key×V)} (ok:HOk P w H h) (e:Rd H a (.dT kvs)):kvs.length≤sizeLine∧(a==sysModules)=false ∧
  ∃ xs,KT H kvs xs∧h.DictOfH (tupleKind (jS P w)) a xs:=by
 obtain ⟨z,y,xs,r,o,es,ep,h1,h2,h3,h4,h5⟩:=(show ObjOk P w H h a (.dT kvs) from qfG ok e)
 refine ⟨z,y,xs,r,o,es,ep,h1,h2,h3,h4,fun x hx=>?_,h5⟩
 have all:∀ {l:List (List Key×V)} {m:List (List Key×Addr×Value)},KT H l m→∀ x∈m,(tupleKind (jS P w)).is h x.1 x.2.1:=by
  intro l m q
  induction q with
  | nil=>intro x hx;exact nomatch hx
  | @cons p q ps qs hq t ih =>
   intro x hx
   rcases List.mem_cons.mp hx with e | hx
   ·subst e
    exact qb7 ok (by rw [← hq.1];exact hq.2.1)
   ·exact ih x hx
 exact all r x hx
theorem dt_of {kvs:List (List Key×V)} (ok:HOk P w H h) (e:H a=some (.dT kvs)):kvs.length≤sizeLine∧(a==sysModules)=false ∧
  ∃ xs,KT H kvs xs∧h.DictOfH (tupleKind (jS P w)) a xs:=qdL ok (.inl e)
end
def DGet (H:Hp) (a:Addr) (y:V) (r:Option V):Prop:=
 (∃ kvs k,Rd H a (.dK kvs)∧y=kV k∧r=qbR kvs k)∨∃ kvs k b,Rd H a (.dT kvs)∧y=.ref b∧H b=some (.tup (k.map kV))∧r=qbR kvs k
def DPut (H:Hp) (a:Addr) (y v:V) (H':Hp):Prop:=
 (∃ kvs k,H a=some (.dK kvs)∧y=kV k∧kvs.length < sizeLine∧H'=upd H a (.dK (qdt kvs k v))) ∨
 ∃ kvs k b,H a=some (.dT kvs)∧y=.ref b∧H b=some (.tup (k.map kV))∧kvs.length < sizeLine∧H'=upd H a (.dT (qdt kvs k v))
theorem DGet.k {H:Hp} {a:Addr} {kvs:List (Key×V)} {k:Key} (e:H a=some (.dK kvs)):DGet H a (kV k) (qbR kvs k):=.inl ⟨kvs,k,.inl e,rfl,rfl⟩
theorem DPut.k {H:Hp} {a:Addr} {kvs:List (Key×V)} {k:Key} {v:V} (e:H a=some (.dK kvs)) (hl:kvs.length < sizeLine):DPut H a (kV k) v (upd H a (.dK (qdt kvs k v))):=.inl ⟨kvs,k,e,rfl,hl,rfl⟩
section
variable {X:Cx} {pins:List (Addr×Obj)} {σ:St} {H:Hp} {s:Shared} {a:Addr} {y v:V} {u r:Value} {o:Option V} {A:Around} {E:Value→Shared→Prop}
theorem Inv.big (I:Inv X pins σ H s):sysModules < s.heap.objs.size:=by
 have h:mainGlobals < s.heap.objs.size:=(I.mod.glob.keeps I.bk).lt
 exact Nat.lt_trans (by decide) h
theorem d_getItem {Q:Value→Shared→Prop} (hu:A.units + 1 < cLine) (I:Inv X pins σ H s) (g:DGet H a y (some v)) (ry:RelV y u) (h:∀ w' s',Inv X pins σ H s'→RelV v w'→Q w' s') :
  wpAny (model X.prog X.w) A (getItem (.ref a) u) Q E s:=by
 rcases g with ⟨kvs,k,e,ey,l⟩ | ⟨kvs,k,b,e,ey,eb,l⟩
 ·subst ey
  obtain ⟨z,hd,vs,rel,dd⟩:=qdu I.hok e
  obtain ⟨w',hw,rw'⟩:=RelO.some_of (v:=v) (o:=valueAt vs k) (by rw [l];exact rel.val k)
  exact wpAny_getItem_of (qdK ry) dd.mapOf hw (h w' _ (I.tok _) rw')
 ·subst ey
  cases (show u=Value.ref b from ry)
  obtain ⟨z,hd,xs,rel,dd⟩:=qdL I.hok e
  obtain ⟨w',hw,rw'⟩:=RelO.some_of (v:=v) (o:=(atKey xs k).map (·.2)) (by rw [l];exact rel.val k)
  obtain ⟨p,hp,hp2⟩:=Option.map_eq_some_iff.mp hw
  refine wpAny_getItem_heap (tupleKind_room_in1 hu) (qb7 I.hok eb) dd hp ?_
  rw [hp2]
  exact h w' _ (I.tok _) rw'
theorem d_in {Q:Value→Shared→Prop} (hu:A.units + 1 < cLine) (I:Inv X pins σ H s) (g:DGet H a y o) (ry:RelV y u) (h:∀ s',Inv X pins σ H s'→Q (.bool o.isSome) s') :
  wpAny (model X.prog X.w) A (compareOp .In u (.ref a)) Q E s:=by
 rcases g with ⟨kvs,k,e,ey,l⟩ | ⟨kvs,k,b,e,ey,eb,l⟩
 ·subst ey
  obtain ⟨z,hd,vs,rel,dd⟩:=qdu I.hok e
  refine wpAny_in_of (qdK ry) hd dd.mapOf ?_
  rw [← (rel.val k).isSome_eq,← l]
  exact h _ (I.tok _)
 ·subst ey
  cases (show u=Value.ref b from ry)
  obtain ⟨z,hd,xs,rel,dd⟩:=qdL I.hok e
  refine wpAny_in_heap (tupleKind_room_in1 hu) (qb7 I.hok eb) hd dd ?_
  have q:=(rel.val k).isSome_eq
  rw [Option.isSome_map] at q
  rw [← q,← l]
  exact h _ (I.tok _)
theorem d_notIn {Q:Value→Shared→Prop} (hu:A.units + 1 < cLine) (I:Inv X pins σ H s) (g:DGet H a y o) (ry:RelV y u) (h:∀ s',Inv X pins σ H s'→Q (.bool (!o.isSome)) s') :
  wpAny (model X.prog X.w) A (compareOp .NotIn u (.ref a)) Q E s:=by
 rcases g with ⟨kvs,k,e,ey,l⟩ | ⟨kvs,k,b,e,ey,eb,l⟩
 ·subst ey
  obtain ⟨z,hd,vs,rel,dd⟩:=qdu I.hok e
  refine wpAny_notIn_of (qdK ry) hd dd.mapOf ?_
  rw [← (rel.val k).isSome_eq,← l]
  exact h _ (I.tok _)
 ·subst ey
  cases (show u=Value.ref b from ry)
  obtain ⟨z,hd,xs,rel,dd⟩:=qdL I.hok e
  refine wpAny_notIn_heap (tupleKind_room_in1 hu) (qb7 I.hok eb) hd dd ?_
  have q:=(rel.val k).isSome_eq
  rw [Option.isSome_map] at q
  rw [← q,← l]
  exact h _ (I.tok _)
theorem qdM {h':Heap} {t':Nat} {ob:HO} (I:Inv X pins σ H s) (mu:Mut (H a)) (hs:Heap.SameBut a s.heap h') (he:∃ q,h'.get? a=some q) (new:ObjOk X.prog X.w (upd H a ob) h' a ob) :
  Inv X pins σ (upd H a ob) { s with heap:=h',toks:=t' }:=
 I.write (x:=a) (e:=a) mu (.inl rfl) (fun b q hb z=>(hs.2 b hb).trans z) he new
theorem dk_new {P:Program} {w:World} {H':Hp} {h':Heap} {kvs:List (Key×V)} {vs:List (Key×Value)} (z:kvs.length≤sizeLine) (hd:(a==sysModules)=false) (rel:KV kvs vs) (dd:h'.DictOf (jS P w) a vs) :
  ObjOk P w H' h' a (.dK kvs):=⟨z,hd,vs,rel,dd⟩
theorem d_setItem {H':Hp} {Q:Unit→Shared→Prop} (hu:A.units + 1 < cLine) (I:Inv X pins σ H s) (g:DPut H a y v H') (ry:RelV y u) (rv:RelV v r) (h:∀ s',Inv X pins σ H' s'→Q () s') :
  wpAny (model X.prog X.w) A (setItem (.ref a) u r) Q E s:=by
 rcases g with ⟨kvs,k,e,ey,l,eH⟩ | ⟨kvs,k,b,e,ey,eb,l,eH⟩
 ·subst ey eH
  obtain ⟨z,hd,vs,rel,dd⟩:=dk_of I.hok e
  have hz:vs.length≤sizeLine:=by rw [← rel.length];exact z
  have hl:(qdt kvs k v).length≤sizeLine:=by have:=qa9 kvs k v;omega
  refine wpAny_setItem_pairs (hsz:=hz) (qdK ry) dd fun h' dd' hs=>h _ ?_
  have he:∃ q,h'.get? a=some q:=let ⟨q,_,_,hq,_⟩:=dd';⟨q,hq⟩
  exact qdM I (by rw [e];exact True.intro) hs he (dk_new hl hd (rel.put k rv) dd')
 ·subst ey eH
  cases (show u=Value.ref b from ry)
  obtain ⟨z,hd,xs,rel,dd⟩:=dt_of I.hok e
  have hz:xs.length≤sizeLine:=by rw [← Paired.length rel];exact z
  have hl:(qdt kvs k v).length≤sizeLine:=by have:=qa9 kvs k v;omega
  refine wpAny_setItem_heap (hsz:=hz) (tupleKind_room_in1 hu) (qb7 I.hok eb) dd fun h' dd' hs=>h _ ?_
  obtain ⟨q,es,ep,hq,h2,h3,h4,_,h5⟩:=dd'
  refine qdM I (by rw [e];exact True.intro) hs ⟨q,hq⟩ ⟨hl,hd,_,(rel.put k eb rv).keeps fun c ys ec=>?_,q,es,ep,hq,h2,h3,h4,h5⟩
  rw [qi (qat ec e (fun z=>nomatch z))]
  exact ec
end
section
variable {X:Cx} {pins:List (Addr×Obj)} {σ:St} {H:Hp} {s:Shared} {a:Addr} {kvs:List (Key×V)} {k:Key} {u:Value} {A:Around} {E:Value→Shared→Prop}
theorem d_len {Q:Value→Shared→Prop} (I:Inv X pins σ H s) (e:Rd H a (.dK kvs)) (h:∀ t s',Inv X pins σ H s'→Q (.int kvs.length t) s'):wpAny (model X.prog X.w) A (call (.builtin "len") [.ref a]) Q E s:=by
 obtain ⟨z,hd,vs,rel,dd⟩:=qdu I.hok e
 refine call_len_dict hd dd (by rw [← rel.length];rw [sizeLine_eq] at z;omega) ?_
 rw [← rel.length]
 exact h _ _ (I.tok _)
end
theorem dict_typeIs {X:Cx} {pins:List (Addr×Obj)} {σ:St} {H:Hp} {s:Shared} {a:Addr} {y:V} {o:Option V} (I:Inv X pins σ H s) (g:DGet H a y o):s.TypeIs (.ref a) "dict":=by
 rcases g with ⟨kvs,k,e,_,_⟩ | ⟨kvs,k,b,e,_,_,_⟩
 ·obtain ⟨_,_,vs,_,dd⟩:=qdu I.hok e
  exact dd.typeIs
 ·obtain ⟨_,_,xs,_,dd⟩:=qdL I.hok e
  exact dd.typeIs
section
variable {X:Cx} {o i e value:Expr} {pos pos' tpos:Pos} {td ty tv:TE}
end
theorem dk_empty {P:Program} {w:World} {H:Hp} (h:Heap) (hb:sysModules < h.objs.size):ObjOk P w H (h.push { cls:=.type "dict",data:=.dict #[] }) h.objs.size (.dK []):=
 ⟨Nat.zero_le _,beq_eq_false_iff_ne.mpr (Ne.symm (Nat.ne_of_lt hb)),[],.nil,Heap.DictOf.new h⟩
def tDNewK:TE:=fun _ H Q=>∀ p,H p=none→Q (.ref p) (upd H p (.dK []))
section
variable {X:Cx} {pos:Pos}
theorem pe_dnewK:PE X (.Dict [] [] pos) tDNewK:=fun pins s σ H Q I h =>
 wpAny_Dict_empty ⟨.ref s.heap.objs.size,_,I.laid (a:=s.heap.objs.size) (o:=.dK []) (t':=s.toks) (fun _ _ q=>Heap.get?_push_of_some _ q) (Nat.le_refl _) (dk_empty s.heap I.big),rfl,h _ (I.hok.fresh (Nat.le_refl _))⟩
end
structure M1 (X:Cx) (o:Expr) (m:Str) (apos:Pos) (e:Expr) (cpos:Pos):Prop where
 base:attributeBase o m X.env (eval o X.env)=eval o X.env
 few:((backTo cpos (starEach [e] X.env)).all (fun x=>!x.1)&&(backToKw cpos (keywordEach [] X.env)).all (fun x=>x.1.isSome)
  && decide (([e]:List Expr).length + ([]:List Keyword).length + (if ([]:List Keyword).isEmpty then 0 else 1) < 30))=true
 line:(apos.endLine==cpos.line)=true
 trees:backTo cpos (starEach [e] X.env)=[(false,eval e X.env)]
structure M2 (X:Cx) (o:Expr) (m:Str) (apos:Pos) (e f:Expr) (cpos:Pos):Prop where
 base:attributeBase o m X.env (eval o X.env)=eval o X.env
 few:((backTo cpos (starEach [e,f] X.env)).all (fun x=>!x.1)&&(backToKw cpos (keywordEach [] X.env)).all (fun x=>x.1.isSome)
  && decide (([e,f]:List Expr).length + ([]:List Keyword).length + (if ([]:List Keyword).isEmpty then 0 else 1) < 30))=true
 line:(apos.endLine==cpos.line)=true
 trees:backTo cpos (starEach [e,f] X.env)=[(false,eval e X.env),(false,eval f X.env)]
def IsD (H:Hp) (a:Addr):Prop:=(∃ kvs,Rd H a (.dK kvs))∨∃ kvs,Rd H a (.dT kvs)
section
variable {X:Cx} {pins:List (Addr×Obj)} {σ:St} {H:Hp} {s:Shared} {a:Addr} {y d:V} {u r:Value} {o:Option V} {A:Around} {E:Value→Shared→Prop}
end
def tDGet2 (td ty tx:TE):TE:=fun σ H Q=>td σ H fun x H1=>∃ a,x=.ref a∧IsD H1 a∧ty σ H1 fun y H2=>tx σ H2 fun z H3=>∃ o,DGet H3 a y o∧Q (o.getD z) H3
section
variable {X:Cx} {o e f:Expr} {apos cpos:Pos} {td ty tx:TE}
end
section
variable {X:Cx} {pins:List (Addr×Obj)} {σ:St} {H:Hp} {s:Shared} {a:Addr} {kvs:List (Key×V)} {A:Around} {E:Value→Shared→Prop}
end
section
variable {X:Cx} {pins:List (Addr×Obj)} {σ:St} {H:Hp} {s:Shared} {a:Addr} {y:V} {u:Value} {A:Around} {E:Value→Shared→Prop}
end
end L2
namespace Att
open PySem PySem.W PySem.Calls PyProof.Rows
theorem ints_of_wellAll {P:Params} {h:Heap}:∀ (ns:List Int) (vs:List Value),WellAll P h vs (ns.map WData.int)→IntsAre vs ns:=by
 intro ns
 induction ns with
 | nil =>
  intro vs w
  rw [List.map_nil] at w
  cases w
  exact .nil
 | cons n ns ih =>
  intro vs w
  rw [List.map_cons] at w
  cases w with
  | cons a b =>
   cases a
   exact .cons _ _ (ih _ b)
theorem script_of {l:OpenLaw} {n:Nat} (hn:l.most=some n) {P:Params} {h:Heap} {args:List WData} {vals:List Value}
  (hpre:l.row.toRowW.claim.pre args=true) (hwl:WellAll P h vals args) :
  ∃ a vs ns,vals=[Value.ref a]∧args=[WData.list (ns.map WData.int)]∧h.get? a=some { cls:=.type "list",data:=.seq vs.toArray }∧IntsAre vs ns∧ns.length≤n:=by
 have hsh:WShape.hasAll [] args [.list .int]=true:=(pre_splitW hpre).1
 have hc:l.pre.holds [] { args:=args }=true:=(pre_splitW hpre).2
 obtain ⟨d,r,rfl,h1,h2⟩:=hasAllW_cons hsh
 obtain rfl:=hasAllW_nil h2
 obtain ⟨xs,rfl,h3⟩:=hasW_list h1
 obtain ⟨ns,rfl⟩:=items_int h3
 have hlen:ns.length≤n:=by
  unfold OpenLaw.pre at hc
  have h4:(WTm.not (.lt (.lit (.int (n:Int))) (.len (.arg 0)))).holds [] { args:=[.list (ns.map .int)] }=true:=by
   have h4:=(holds_andW hc).1
   rw [hn] at h4
   exact h4
  have h5:=condW_of h4 (w_not (w_lt w_lit (w_len_list (w_arg rfl))))
  rw [List.length_map] at h5
  refine Nat.le_of_not_lt fun q=>?_
  have q':(n:Int) < ((ns.length:Nat):Int):=by omega
  first
   | (rw [decide_eq_true q'] at h5;exact absurd h5 (by decide))
   | (simp at h5;omega)
 cases hwl with
 | cons w1 w2 =>
  cases w2
  cases w1 with
  | list ho hall=>exact ⟨_,_,ns,rfl,rfl,ho,ints_of_wellAll ns _ hall,hlen⟩
theorem post_true (l:OpenLaw) (args:List WData):l.row.toRowW.claim.post args (.bool true) args=true:=
 postW_of (r:=l.row.toRowW) (X:=(true==true))
  (show WShape.has [] (.bool true) .bool=true by first | rfl | decide | simp [WShape.has,WShape.arms,WShape.armsAll])
  (show (WTm.eq .res (.lit (.bool true))).value [] { args:=args,res:=some (.bool true),after:=args }=some (.bool (true==true)) from w_eq_bool (w_res rfl) w_lit) rfl
theorem attach_call {l:OpenLaw} {n:Nat} {q:Program} {loose:List Str} {XP:(Str→Option Value)→Heap→Prop} {YP:World→Heap→Prop} {d:DefRec}
  (hn:l.most=some n) (hdf:d.params.defaults=[])
  (call:∀ (w:World) (s₀ s₁:Shared) (mg mb:Str→Option Value) (fa:Addr) (o:Obj) (pm cd doc:Value) (a:Addr) (vs:List Value) (ns:List Int),
   Ground q loose [] XP w s₀ mg mb s₁.heap→YP w s₁.heap →
   s₁.heap.get? fa=some o→o.data=.func (docDef d.name d.params d.body d.scope pm cd doc)→s₁.heap.CodeRec cd d.name→mg d.name=some (.ref fa) →
   s₁.heap.get? a=some { cls:=.type "list",data:=.seq vs.toArray }→IntsAre vs ns→ns.length≤n→s₁.gens=#[] →
   codeAny (model l.prog w) callerA (.call (.ref fa) ⟨[.ref a],[]⟩) (fun r s'=>r=.ok (.ret (.bool true))∧OldK s₁.heap s'.heap∧s'.os=s₁.os∧AllBare s'.gens) s₁) :
  WalkO q loose XP YP l.row.toRowW d [] (fun f vs=>PySem.call f vs):=by
 intro w s₀ s₁ mg mb G Y fa o pm cd doc dV kV ho hd hcd hD hmg hg args vals as hpre hlay hrd hwl hlo
 obtain rfl:dV=.none:=Dflts.none hD hdf
 obtain rfl:kV=.none:=Dflts.noKw hD
 obtain ⟨a,vs,ns,rfl,rfl,hobj,hints,hlen⟩:=script_of hn hpre hwl
 refine enter_call (codeAny_mono (call w s₀ s₁ mg mb fa o pm cd doc a vs ns G Y ho (fd_plain hd) hcd hmg hobj hints hlen hg) fun r s' hq=>?_)
 obtain ⟨rfl,h2,h3,h4⟩:=hq
 exact ⟨.inl ⟨.bool true,.bool true,[],rfl,fun _=>rfl,.bool true,post_true l _,fun _=>⟨List.Pairwise.nil,fun _ hm=>(nomatch hm)⟩⟩,h2,h3,h4⟩
section
variable {prog:Program} {w:World} {A:Around} {E:Value→Shared→Prop} {s:Shared} {K:Frag}
def ledger (h:Heap) (L d:Addr):List (Addr×Obj):=(List.range h.objs.size).filterMap fun a=>if a=L∨a=d then none else (h.get? a).map fun o=>(a,o)
end
end Att
namespace L2
open PySem PySem.Spec PyProof.Rows
theorem qba:∀ {vs:List Value} {ns:List Int},IntsAre vs ns→Vals (ns.map V.int) vs
 | _,_,.nil=>.nil
 | _,_,.cons n t h=>.cons ⟨t,rfl⟩ (qba h)
def qgl (H:Hp):Prop:=∀ b,H b=none∨∃ o xs,H b=some (.frz o (.lst xs))
theorem law_call {P:Program} {w:World} {K:PySem.W.Frag} {mg mb:Str→Option Value} {CX:CXT} {k:Nat} {fa a:Addr} {fd:FuncData} {x:Str} {sp:Sp} {s₁:Shared} {vs:List Value} {ns:List Int}
  (KX:K.In s₁.heap) (hns:s₁.heap.Ns mainGlobals mg) (hb:s₁.heap.Ns builtinsNs mb) (hbb:∀ x:Str,x≠"__name__"→mb x=bootBuiltins x) (hlim:s₁.heap.NoLimit) (hg:s₁.gens=#[])
  (ha:s₁.heap.get? a=some { cls:=.type "list",data:=.seq vs.toArray }) (hi:IntsAre vs ns) (hl:ns.length≤sizeLine) (hr:Room k callerA)
  (F:∀ base:Heap,K.In base→base.Ns mainGlobals mg→FnOk P w K mg base CX k fa fd [x] sp) (hbind:∀ (s:Shared) (u:Value),BindsTo s fd ⟨[u],[]⟩ [(x,u)])
  (hsp:∀ H:Hp,qgl H→SqL K H a (ns.map V.int)→sp [.ref a] H (fun v _=>v=.bl true) fun _ _ _=>False)
  (hCX:∀ H e s',CX [] H s₁ (fun _ _ _=>False) e s'→False) :
  codeAny (model P w) callerA (.call (.ref fa) ⟨[.ref a],[]⟩) (fun r s'=>r=.ok (.ret (.bool true))∧OldK s₁.heap s'.heap∧s'.os=s₁.os∧AllBare s'.gens) s₁:=by
 have rv:=qba hi
 have lenV:=hi.length
 have core:∀ H:Hp,qgl H→SqL K H a (ns.map V.int)→HOk P w H s₁.heap→(∀ b,H b≠none→b=a)→(H a≠none→K.lookup a=none) →
   codeAny (model P w) callerA (.call (.ref fa) ⟨[.ref a],[]⟩) (fun r s'=>r=.ok (.ret (.bool true))∧OldK s₁.heap s'.heap∧s'.os=s₁.os∧AllBare s'.gens) s₁:=by
  intro H hO hS hok hA hK
  have base_of:∀ {b:Addr} {o:Obj},s₁.heap.get? b=some o→H b=none→(qee s₁.heap H).get? b=some o:=fun e n=>hidT_get e n
  have noA:∀ {b:Addr} {o:Obj} {es:Array DictEntry} {ep:Nat},s₁.heap.get? b=some o→o.data=.dict es ep→H b=none:=fun {b o es ep} e d=>by
   cases q:H b with
   | none=>rfl
   | some u =>
    have e':b=a:=hA b (by rw [q];simp)
    subst e'
    rw [ha] at e;cases e
    have d':Data.seq vs.toArray _=Data.dict es ep:=d
    cases d'
  have nsK:∀ {b:Addr} {m:Str→Option Value},s₁.heap.Ns b m→(qee s₁.heap H).Ns b m:=fun {b m} ⟨o,es,ep,e,d,r⟩=>⟨o,es,ep,base_of e (noA e d),d,r⟩
  have hKb:K.In (qee s₁.heap H):=fun b o e=>base_of (KX b o e) (by
   cases q:H b with
   | none=>rfl
   | some u =>
    have e':b=a:=hA b (by rw [q];simp)
    subst e'
    rw [hK (by rw [q];simp)] at e;cases e)
  have hM:Mod K mg (qee s₁.heap H):=⟨hKb,nsK hns,⟨mb,nsK hb,hbb⟩,let ⟨mc,h1,h2⟩:=hlim;⟨mc,nsK h1,h2⟩⟩
  have e0:Env0 P w K mg (qee s₁.heap H) callerA [] s₁ H:=⟨rfl,hM,fun b o e=>of_hidT e,Nat.le_of_eq (hidT_size _ _),trivial,fun b hb=>absurd (show b∈([]:List Addr) from hb) (by simp),hok,.of_eq hg⟩
  refine codeAny_mono ((F _ hKb (nsK hns)).run callerA [] s₁ H ⟨[.ref a],[]⟩ [.ref a] [.ref a] _ _ hr e0 (hbind s₁ (.ref a)) (.cons rfl .nil) (hsp H hO hS)) fun r s' h=>?_
  cases r with
  | error e=>exact (hCX H e s' h).elim
  | ok fl =>
   cases fl with
   | next=>exact False.elim h
   | brk=>exact False.elim h
   | cont=>exact False.elim h
   | ret u =>
    obtain ⟨v,H',os,bare,un,hok',r',q⟩:=h
    have q':v=.bl true:=q
    subst q'
    obtain rfl:u=Value.bool true:=r'
    refine ⟨rfl,OldK.of_keep fun b o e=>?_,os,bare⟩
    cases q:H b with
    | none=>exact un.keep b o e q (by intro z;exact absurd (show b∈([]:List Addr) from z) (by simp)) (by simp)
    | some u =>
     rcases hO b with z | ⟨ob,xs,z⟩
     ·rw [q] at z;cases z
     ·have z2:=un.frzs b ob _ z
      obtain ⟨e1,_⟩:=hok b _ z
      obtain ⟨e2,_⟩:=hok' b _ z2
      rw [e] at e1;cases e1
      exact e2
 cases hk:K.lookup a with
 | some o =>
  have e:=KX a o hk
  rw [ha] at e
  cases e
  refine core (fun _=>none) (fun _=>.inl rfl) (.inr ⟨_,vs.toArray,_,hk,rfl,rfl,rfl,by rw [List.size_toArray,lenV];exact hl,by simpa using rv⟩) (fun b u z=>by have z':(none:Option HO)=some u:=z;cases z') (fun b z=>absurd rfl z) fun z=>absurd rfl z
 | none =>
  refine core (fun b=>if b=a then some (.frz { cls:=.type "list",data:=.seq vs.toArray } (.lst (ns.map V.int))) else none) (fun b=>?_) (.inl (.inr ⟨{ cls:=.type "list",data:=.seq vs.toArray },if_pos rfl⟩)) (fun b u z=>?_) (fun b z=>?_) fun _=>hk
  ·by_cases hb:b=a
   ·exact .inr ⟨_,_,if_pos hb⟩
   ·exact .inl (if_neg hb)
  ·by_cases hb:b=a
   ·have z':=(if_pos hb).symm.trans z
    cases z'
    subst hb
    exact ⟨ha,by rw [List.length_map];exact hl,vs,_,rv,ha⟩
   ·have z':=(if_neg hb).symm.trans z
    cases z'
  ·by_cases hb:b=a
   ·exact hb
   ·exact absurd (if_neg hb) z
end L2
namespace L2
open PySem PySem.Spec PyProof.Rows
abbrev KOf {K:PySem.W.Frag} {h:Heap} (_:K.In h):PySem.W.Frag:=K
theorem walk_of {l:PySem.W.OpenLaw} {n k:Nat} {q:Program} {loose:List Str} {XP:(Str→Option Value)→Heap→Prop} {YP:World→Heap→Prop} {d:DefRec} {K:Params→PySem.W.Frag} {CX:World→CXT} {sp:World→Sp} {x:Str}
  (hn:l.most=some n) (hn2:n≤sizeLine) (hdf:d.params.defaults=[]) (hr:Room k callerA)
  (hY:∀ (w:World) (h:Heap),YP w h→(K w.params).In h)
  (F:∀ (w:World) (mg:Str→Option Value) (fa:Addr) (h:Heap),(K w.params).In h→h.Ns mainGlobals mg→mg d.name=some (.ref fa) →
   ∃ fd:FuncData,(∀ (s:Shared) (u:Value),BindsTo s fd ⟨[u],[]⟩ [(x,u)]) ∧
    ∀ base:Heap,(K w.params).In base→base.Ns mainGlobals mg→FnOk l.prog w (K w.params) mg base (CX w) k fa fd [x] (sp w))
  (hsp:∀ (w:World) (H:Hp) (a:Addr) (ns:List Int),ns.length≤n→qgl H→SqL (K w.params) H a (ns.map V.int)→sp w [.ref a] H (fun v _=>v=.bl true) fun _ _ _=>False)
  (hCX:∀ (w:World) (H:Hp) (s:Shared) (e:Value) (s':Shared),CX w [] H s (fun _ _ _=>False) e s'→False) :
  PySem.W.WalkO q loose XP YP l.row.toRowW d [] (fun f vs=>PySem.call f vs):=by
 refine Att.attach_call hn hdf fun w s₀ s₁ mg mb fa o pm cd doc a vs ns G Y ho hd hcd hmg hobj hints hlen hg=>?_
 have KX:=hY w _ Y
 obtain ⟨fd,hb,hF⟩:=F w mg fa _ KX G.T.g hmg
 exact law_call KX G.T.g G.T.b G.T.builtins G.T.nolimit hg hobj hints (Nat.le_trans hlen hn2) hr hF hb (fun H hO hS=>hsp w H a ns hlen hO hS) fun H e s'=>hCX w H s₁ e s'
end L2
namespace L2
open PySem PySem.Spec PyProof.Rows
abbrev CX0:CXT:=fun _ _ _ _ _ _=>False
abbrev E0:XK:=fun _ _ _=>False
theorem qx {X:Cx}:qac CX0 X E0:=fun _ _ _ _ _ _ _ h=>h.elim
structure Fun (K:PySem.W.Frag) (x qual:Str) (st:Stmt) (f:Addr) (fd:FuncData):Prop where
 ex:∃ (oc:Value) (od:Option Addr) (kV doc pm:Value) (an:Option Addr) (cdv ct:Value) (osl:Array (Option Value)),
  fd=PySem.W.fnOf x qual (qj st) (qh st) (qb st) .none kV doc pm an cdv ct∧K.lookup f=some ⟨oc,od,.func fd,osl⟩∧PySem.W.codeIn K cdv qual=true
 kp:PySem.W.keepIn K (.ref f)=true
section
variable {P:Program} {w:World} {K:PySem.W.Frag} {mg:Str→Option Value} {base:Heap}
theorem Fun.ok {x qual:Str} {st:Stmt} {f:Addr} {fd:FuncData} {N ps:List Str} {k:Nat} {sp:Sp} (F:Fun K x qual st f fd) (S:FnScope N ps (qb st)) (len:∀ vs H Q E,sp vs H Q E→vs.length=ps.length)
  (hbody:∀ (cdv:Value) (A:Around) (outer:List Env) (s:Shared) (H:Hp) (vs:List V) (Q:VK) (E:XK),Room k (A.deeper (envOfC qual (qb st) s.heap.objs.size f cdv))→sp vs H Q E →
   ∃ t,PSs (qeu CX0 P w K mg base N qual (qb st) f cdv A outer s H E).nox (qh st) t∧t { nx:=fun _ H'=>Q .non H',rt:=Q } (qbF N vs) H):FnOk P w K mg base CX0 (k + 1) f fd ps sp:=by
 obtain ⟨oc,od,kV,doc,pm,an,cdv,ct,osl,rfl,lk,hcd⟩:=F.ex
 refine qfD lk hcd S len fun A outer s H vs Q E hr hsp=>?_
 obtain ⟨t,h,q⟩:=hbody cdv A outer s H vs Q E hr hsp
 exact ⟨t,h.nox,q⟩
theorem Fun.binds {x qual:Str} {st:Stmt} {f:Addr} {fd:FuncData} {ps:List Str} (F:Fun K x qual st f fd)
  (h:∀ (kV doc pm:Value) (an:Option Addr) (cdv ct:Value) (us:List Value),us.length=ps.length→bindArgs (PySem.W.fnOf x qual (qj st) (qh st) (qb st) .none kV doc pm an cdv ct) ⟨us,[]⟩=pure (ps.zip us)):Binds K fd ps []:=by
 obtain ⟨oc,od,kV,doc,pm,an,cdv,ct,osl,rfl,lk,hcd⟩:=F.ex
 exact .all (h kV doc pm an cdv ct)
theorem fun_mk {x qual:Str} {st:Stmt} {f:Addr} {oc:Value} {od an:Option Addr} {osl:Array (Option Value)} {kV doc pm cdv ct:Value} (l:K.lookup f=some ⟨oc,od,.func (PySem.W.fnOf x qual (qj st) (qh st) (qb st) .none kV doc pm an cdv ct),osl⟩)
  (c:PySem.W.codeIn K cdv qual=true) (k:PySem.W.keepIn K (.ref f)=true):Fun K x qual st f (PySem.W.fnOf x qual (qj st) (qh st) (qb st) .none kV doc pm an cdv ct):=⟨⟨oc,od,kV,doc,pm,an,cdv,ct,osl,rfl,l,c⟩,k⟩
end
theorem qk {n:Nat} (h:n≤1000):n < sizeLine:=Nat.lt_of_le_of_lt h (by decide)
section
variable {X:Cx}
theorem pv (i:Nat) {x:Str} {pos:Pos} (hN:X.N[i]?=some x:=by rfl) (hv:Vis X.env.scope x:=by first | exact Or.inl rfl | exact Or.inr (Or.inl rfl) | exact Or.inr (Or.inr rfl)) (hd:(x==("__debug__":Str))=false:=by decide)
  (hcd:(x==("__classdict__":Str))=false:=by decide):PE X (.Name x pos) (qbr i):=pe_var hN hv hd hcd
theorem call_lenD:zM X (.builtin "len") (fun xs H Q=>∃ a kvs,xs=[V.ref a]∧H a=some (.dK kvs)∧Q (.int kvs.length) H):=by
 intro pins s σ H xs us Q I r h
 obtain ⟨a,kvs,rfl,ha,q⟩:=h
 obtain ⟨u,rfl,ru⟩:=qa5 r
 cases ru
 exact d_len I (.inl ha) fun t s' I'=>⟨.int kvs.length,H,I',⟨t,rfl⟩,q⟩
end
theorem qau {A B:Prop} (h:A):if true=true then A else B:=by
 rw [if_pos rfl]
 exact h
theorem qQ {c A B:Prop} [Decidable c] (h1:c→A) (h2:¬ c→B):if c then A else B:=by
 by_cases h:c
 ·rw [if_pos h]
  exact h1 h
 ·rw [if_neg h]
  exact h2 h
def Same (H H':Hp):Prop:=∀ b o,H b=some o→H' b=some o
theorem Same.refl (H:Hp):Same H H:=fun _ _ h=>h
theorem Same.trans {H H1 H2:Hp} (a:Same H H1) (b:Same H1 H2):Same H H2:=fun c o h=>b c o (a c o h)
theorem Same.free {H H':Hp} (e:Same H H') {l:Addr} (h:H' l=Option.none):H l=Option.none:=by
 cases q:H l with
 | none=>rfl
 | some o =>
  rw [e l o q] at h
  cases h
section
variable {κ:Type} [DecidableEq κ]
end
end L2
set_option maxHeartbeats 4000000
namespace L2
open PySem PySem.Spec PyProof.Rows
section
variable {prog:Program} {w:World} {A:Around} {R:Result→Shared→Prop} {s:Shared}
theorem compLoop_own {elt target iter:Expr} {ifs:List Expr} {scope:Scope} {pos:Pos} {it acc:Value} {env:Env} (I:Nat→Shared→Prop)
  (turn:∀ n s,I n s→wpAny (model prog w) A (pyNext it) (fun r s1=>match r with
   | none=>R (.ok .next) s1
   | some v=>wpAny (model prog w) A (letOwnedTupleGo target it v) (fun _ s1'=>wpAny (model prog w) A (assign target env v) (fun _ s2 =>
     wpAny (model prog w) A (forIn ifs true fun c r=>if r=true then do let ok ← isTrue c env (eval c env);pure (ForInStep.yield ok) else pure (ForInStep.yield r)) (fun ok s3 =>
      if ok=true then wpAny (model prog w) A (eval elt env) (fun x s4 =>
       wpAny (model prog w) A (call (.builtin "list.append") [acc,x]) (fun _ s5=>∃ m,m < n∧I m s5) (fun _ _=>False) s4) (fun _ _=>False) s3
      else ∃ m,m < n∧I m s3) (fun _ _=>False) s2) (fun _ _=>False) s1') (fun _ _=>False) s1) (fun _ _=>False) s)
  (n:Nat) (h:I n s) :
  codeAny (model prog w) A (.compLoop (.ListComp elt [⟨target,iter,ifs,0⟩] scope pos) 0 it acc env) R s:=by
 refine codeAny_loop rfl I (fun n s hI=>?_) n h
 show wpAny _ A ((compTurn (.ListComp elt [⟨target,iter,ifs,0⟩] scope pos) 0 it acc env).onRaise (fun x=>do noteFrame x env;theTreesLotGoes x)) _ _ s
 refine wpAny_noted ?_
 rw [compTurn_list]
 refine wpAny_bind (wpAny_standAt (wpAny_bind (wpAny_mono (turn n s hI) (fun r s1 h1=>?_) fun _ _ h'=>h'.elim)))
 cases r with
 | none=>exact wpAny_pure h1
 | some v =>
  refine wpAny_bind (wpAny_mono h1 (fun _ s1' h1'=>?_) fun _ _ h'=>h'.elim)
  refine wpAny_bind (wpAny_mono h1' (fun _ s2 h2=>wpAny_bind (wpAny_mono h2 (fun ok s3 h3=>?_) fun _ _ h'=>h'.elim)) fun _ _ h'=>h'.elim)
  cases ok with
  | false=>exact wpAny_pure ⟨rfl,h3⟩
  | true =>
   exact wpAny_bind (wpAny_bind (wpAny_mono h3 (fun x s4 h4=>wpAny_bind (wpAny_mono h4 (fun _ s5 h5=>wpAny_pure (wpAny_pure ⟨rfl,h5⟩)) fun _ _ h'=>h'.elim)) fun _ _ h'=>h'.elim))
end
def q9 (env:Env):List (Str×NameKind)→List (Str×Addr)→List (Str×Addr)
 | [],acc=>acc
 | (n,k)::r,acc=>q9 env r (if (k==.free)=true then (n,(env.cells.lookup n).getD 0)::acc else acc)
theorem zP {env:Env}:∀ {names:List (Str×NameKind)} {acc:List (Str×Addr)} {x:Str} {c:Addr},(q9 env names acc).lookup x=some c →
  ((x,NameKind.free)∈names∧c=(env.cells.lookup x).getD 0)∨acc.lookup x=some c
 | [],_,_,_,h=>.inr h
 | (n,k)::r,acc,x,c,h=>by
  unfold q9 at h
  rcases zP h with ⟨h1,h2⟩ | h1
  ·exact .inl ⟨List.mem_cons_of_mem _ h1,h2⟩
  ·by_cases hk:(k==NameKind.free)=true
   ·rw [if_pos hk,List.lookup_cons] at h1
    cases hx:x==n with
    | true =>
     rw [hx] at h1
     have e:x=n:=beq_iff_eq.mp hx
     have e2:k=.free:=beq_iff_eq.mp hk
     subst e e2
     exact .inl ⟨List.mem_cons_self,(Option.some.inj h1).symm⟩
    | false =>
     rw [hx] at h1
     exact .inr h1
   ·rw [if_neg hk] at h1
    exact .inr h1
theorem qaA {env:Env}:∀ {names:List (Str×NameKind)} {acc:List (Str×Addr)} {x:Str},(∃ c,acc.lookup x=some c)→∃ c,(q9 env names acc).lookup x=some c
 | [],_,_,h=>h
 | (n,k)::r,acc,x,h=>by
  unfold q9
  apply qaA
  by_cases hk:(k==NameKind.free)=true
  ·rw [if_pos hk,List.lookup_cons]
   cases hx:x==n with
   | true=>exact ⟨_,rfl⟩
   | false=>exact h
  ·rw [if_neg hk]
   exact h
theorem zQ {env:Env}:∀ {names:List (Str×NameKind)} {acc:List (Str×Addr)} {x:Str},(x,NameKind.free)∈names→∃ c,(q9 env names acc).lookup x=some c
 | [],_,_,h=>by cases h
 | (n,k)::r,acc,x,h=>by
  unfold q9
  rcases List.mem_cons.mp h with e | e
  ·cases e
   apply qaA
   rw [show (NameKind.free==NameKind.free)=true from rfl,if_pos rfl,List.lookup_cons,beq_self_eq_true]
   exact ⟨_,rfl⟩
  ·exact zQ e
theorem qaB {scope:Scope} {env:Env} (h:∀ n,(n,NameKind.free)∈scope.names→∃ c,env.cells.lookup n=some c):closureFor scope env=pure (q9 env scope.names []):=by
 have key:∀ (names:List (Str×NameKind)) (acc:List (Str×Addr)),(∀ n,(n,NameKind.free)∈names→∃ c,env.cells.lookup n=some c) →
   (forIn names acc (fun (x:Str×NameKind) (r:List (Str×Addr))=>(if (x.2==NameKind.free)=true then (cellOf env x.1>>=fun c=>pure (ForInStep.yield ((x.1,c)::r))) else pure (ForInStep.yield r):Sem (ForInStep (List (Str×Addr))))))=(pure (q9 env names acc):Sem (List (Str×Addr))):=by
  intro names
  induction names with
  | nil=>intro acc _;rfl
  | cons x r ih =>
   intro acc hn
   obtain ⟨n,k⟩:=x
   rw [List.forIn_cons]
   unfold q9
   by_cases hk:(k==NameKind.free)=true
   ·have e2:k=.free:=beq_iff_eq.mp hk
    subst e2
    obtain ⟨c,hc⟩:=hn n List.mem_cons_self
    have e3:cellOf env n=pure c:=by unfold cellOf;rw [hc]
    simp only [hk,if_true,e3,hc,Option.getD_some]
    exact ih _ fun m hm=>hn m (List.mem_cons_of_mem _ hm)
   ·simp only [hk,if_false]
    exact ih _ fun m hm=>hn m (List.mem_cons_of_mem _ hm)
 have e:=key scope.names [] h
 unfold closureFor
 exact Eq.trans (congrArg (fun m=>m>>=pure) e) rfl
@[reducible] def Cx.comp (X:Cx) (N:List Str) (scope:Scope) (C:Addr) (s0:Shared) (H0:Hp) (ex:List Addr):Cx where
 prog:=X.prog
 w:=X.w
 K:=X.K
 mg:=X.mg
 base:=X.base
 A:=X.A
 N:=N
 s₀:=s0
 H₀:=H0
 env:=compEnvC scope (q9 X.env scope.names []) C X.env
 outer:=X.stack
 stack:=X.stack
 ex:=ex
 fn:=fun _=>false
 calm:=X.calm
 pn:=[]
 xe:=fun _ _=>False
structure CompOk (sc scope:Scope):Prop where
 kind:scope.kind=.function
 nocell:∀ y∈scope.names,y.2≠.cell
 loc:∀ y∈scope.names,y.2=.local→scope.names.lookup y.1=some .local
 free:∀ y∈scope.names,y.2=.free→sc.names.lookup y.1=some .cell∨sc.names.lookup y.1=some .free
 once:∀ y∈scope.names,y.2=.free→scope.names.lookup y.1=some .free
def qeh (sc scope:Scope):Bool:=decide (scope.kind=.function)&&scope.names.all fun y=>match y.2 with
 | .local=>scope.names.lookup y.1==some .local
 | .free=>(sc.names.lookup y.1==some .cell||sc.names.lookup y.1==some .free)&&scope.names.lookup y.1==some .free
 | .cell=>false
 | _=>true
theorem qcV {sc scope:Scope} (h:qeh sc scope=true):CompOk sc scope:=by
 unfold qeh at h
 rw [Bool.and_eq_true] at h
 have ha:=List.all_eq_true.mp h.2
 refine ⟨of_decide_eq_true h.1,fun y hy e=>?_,fun y hy e=>?_,fun y hy e=>?_,fun y hy e=>?_⟩
 ·have:=ha y hy
  rw [e] at this
  cases this
 ·have:=ha y hy
  rw [e] at this
  exact beq_iff_eq.mp this
 ·have:=ha y hy
  rw [e,Bool.and_eq_true,Bool.or_eq_true] at this
  exact this.1.imp beq_iff_eq.mp beq_iff_eq.mp
 ·have:=ha y hy
  rw [e,Bool.and_eq_true] at this
  exact beq_iff_eq.mp this.2
def qgm (nl:Nat) (ixs:List Nat) (N XN:List Str) (names:List (Str×NameKind)):Bool:=(List.range ixs.length).all fun k=>match ixs[k]?,N[nl + k]? with
 | some j,some x=>XN[j]?==some x&&names.any fun y=>y.1==x&&y.2==.free
 | _,_=>true
theorem qdN {nl:Nat} {ixs:List Nat} {N XN:List Str} {names:List (Str×NameKind)} (h:qgm nl ixs N XN names=true) (k j:Nat) (x:Str) (h1:ixs[k]?=some j) (h2:N[nl + k]?=some x):XN[j]?=some x∧(x,NameKind.free)∈names:=by
 have hk:k < ixs.length:=(List.getElem?_eq_some_iff.mp h1).1
 have:=List.all_eq_true.mp h k (List.mem_range.mpr hk)
 rw [h1,h2] at this
 simp only [Bool.and_eq_true] at this
 refine ⟨beq_iff_eq.mp this.1,?_⟩
 obtain ⟨⟨n,kd⟩,hy,e⟩:=List.any_eq_true.mp this.2
 rw [Bool.and_eq_true] at e
 have e1:n=x:=beq_iff_eq.mp e.1
 have e2:kd=.free:=beq_iff_eq.mp e.2
 subst e1 e2
 exact hy
def qdC (nl:Nat) (ixs:List Nat) (σ:St):St:=List.replicate nl none++ixs.map fun j=>(σ[j]?).getD none
theorem capS_len (nl:Nat) (ixs:List Nat) (σ:St):(qdC nl ixs σ).length=nl + ixs.length:=by
 unfold qdC;rw [List.length_append,List.length_replicate,List.length_map]
theorem qcW {nl:Nat} {ixs:List Nat} {σ:St} {i:Nat} {v:V} (h:(qdC nl ixs σ)[i]?=some (some v)):nl≤i∧∃ j,ixs[i - nl]?=some j∧σ[j]?=some (some v):=by
 unfold qdC at h
 by_cases hi:i < nl
 ·rw [List.getElem?_append_left (by rw [List.length_replicate];exact hi),List.getElem?_replicate] at h
  split at h<;>cases h
 ·rw [List.getElem?_append_right (by rw [List.length_replicate];omega),List.length_replicate,List.getElem?_map] at h
  refine ⟨by omega,?_⟩
  cases e:ixs[i - nl]? with
  | none=>rw [e] at h;cases h
  | some j =>
   rw [e] at h
   have h':(σ[j]?).getD none=some v:=Option.some.inj h
   cases q:σ[j]? with
   | none=>rw [q] at h';cases h'
   | some u =>
    rw [q] at h'
    exact ⟨j,rfl,by rw [q];exact congrArg some h'⟩
def qei (env:Env) (y:Str×NameKind):Str×NameKind:=if (y.2==NameKind.free&&env.scope.kind==.function&&env.kindOf y.1==some .cell)=true then (y.1,NameKind.cell) else (y.1,y.2)
theorem relF_fst (env:Env) (y:Str×NameKind):(qei env y).1=y.1:=by unfold qei;split<;>rfl
theorem relF_snd (env:Env) (y:Str×NameKind):(qei env y).2=y.2∨((qei env y).2=.cell∧y.2=.free):=by
 unfold qei
 split
 ·rename_i h
  rw [Bool.and_eq_true,Bool.and_eq_true] at h
  exact .inr ⟨rfl,beq_iff_eq.mp h.1.1⟩
 ·exact .inl rfl
theorem zt {env:Env}:∀ {names:List (Str×NameKind)} {x:Str} {k:NameKind},(names.map (qei env)).lookup x=some k→∃ k0,names.lookup x=some k0∧(x,k0)∈names∧(k=k0∨(k=.cell∧k0=.free))
 | [],_,_,h=>by cases h
 | (n,k1)::r,x,k,h=>by
  rw [List.map_cons,show qei env (n,k1)=((qei env (n,k1)).1,(qei env (n,k1)).2) from rfl,List.lookup_cons,relF_fst] at h
  rw [List.lookup_cons]
  cases hx:x==n with
  | true =>
   have e:x=n:=beq_iff_eq.mp hx
   subst e
   have hx':(x==(x,k1).1)=true:=hx
   rw [hx'] at h
   have h':=Option.some.inj h
   refine ⟨k1,rfl,List.mem_cons_self,?_⟩
   rcases relF_snd env (x,k1) with z | ⟨z1,z2⟩
   ·exact .inl (h'.symm.trans z)
   ·exact .inr ⟨h'.symm.trans z1,z2⟩
  | false =>
   have hx':(x==(n,k1).1)=false:=hx
   rw [hx'] at h
   obtain ⟨k0,e1,e2,e3⟩:=zt h
   exact ⟨k0,e1,List.mem_cons_of_mem _ e2,e3⟩
section
variable {X:Cx} {pins:List (Addr×Obj)} {σ:St} {H:Hp} {s:Shared}
theorem comp_free_of {scope:Scope} {x:Str} (O:CompOk X.env.scope scope) {C:Addr} {cl:List (Str×Addr)} (h:(compEnvC scope cl C X.env).kindOf x=some .cell∨(compEnvC scope cl C X.env).kindOf x=some .free):(x,NameKind.free)∈scope.names:=by
 rcases h with h | h
 ·obtain ⟨k0,_,hm,e | ⟨_,e⟩⟩:=zt (env:=X.env) (names:=scope.names) h
  ·exact absurd e.symm (O.nocell _ hm)
  ·rw [e] at hm
   exact hm
 ·obtain ⟨k0,_,hm,e | ⟨e,_⟩⟩:=zt (env:=X.env) (names:=scope.names) h
  ·rw [← e] at hm
   exact hm
  ·cases e
theorem Inv.comp {N:List Str} {scope:Scope} {nl:Nat} {ixs:List Nat} {C D:Addr} {fp:List Addr} {ob:Obj} {h1:Heap} {tk:Nat} (I:Inv X pins σ H s) (O:CompOk X.env.scope scope)
  (hN:N.length=nl + ixs.length) (hcap:∀ (k j:Nat) (x:Str),ixs[k]?=some j→N[nl + k]?=some x→X.N[j]?=some x∧(x,NameKind.free)∈scope.names)
  (hf:∀ b∈fp,qcw X pins H b) (hfl:∀ b∈fp,b < s.heap.objs.size) (hC:s.heap.objs.size≤C) (hD:s.heap.objs.size≤D) (hDC:D≠C) (hns:h1.Ns C fun _=>none) (k:∀ b o,s.heap.get? b=some o→h1.get? b=some o)
  (hob:h1.get? D=some ob) (hcl:∀ v,ob.data≠.cell v):Inv (X.comp N scope C s H fp) [(D,ob)] (qdC nl ixs σ) H { s with heap:=h1,toks:=tk }:=by
 have cells:∀ x c,(q9 X.env scope.names []).lookup x=some c→X.env.cells.lookup x=some c∧(x,NameKind.free)∈scope.names:=fun x c h=>by
  rcases zP h with ⟨h1,h2⟩ | h1
  ·obtain ⟨c',hc'⟩:=I.ok.has x (by
    rcases O.free _ h1 rfl with z | z
    ·exact .inl z
    ·exact .inr z)
   rw [hc'] at h2
   exact ⟨by rw [hc',h2];rfl,h1⟩
  ·cases h1
 refine ⟨⟨I.ok.mod,O.kind,I.ok.glob,I.ok.blt,hC,fun x y c h1 h2=>I.ok.inj x y c (cells x c h1).1 (cells y c h2).1,fun x hx=>zQ (comp_free_of O hx),fun x c z _=>(by cases z),I.ok.hd,I.ok.frames,.inl rfl,
   fun b hb=>⟨Nat.ne_of_lt (Nat.lt_of_lt_of_le (hfl b hb) hC),fun x c e=>(hf b hb).2.2.2.2.1 x c (cells x c e).1⟩,I.bs,Nat.le_trans I.ok.bsz I.sz,fun b o e hb=>?_,fun b hb z=>?_,I.stack,I.stkFree⟩,
  rfl,I.bare,Un.kept k,⟨_,hns,fun i x v e1 e2 e3=>?_⟩,fun x c e=>?_,I.hok.fresh hC,fun x c e=>I.freeC x c (cells x c e).1,fun p hp=>?_,I.hok.kept k,?_⟩
 ·rcases (hf b hb).2.2.2.1 with z | z
  ·exact I.ok.noex b o e z
  ·have:=(I.ok.bs b o e).1
   exact absurd (Nat.lt_of_lt_of_le (Heap.lt_size this) z) (Nat.lt_irrefl _)
 ·rcases List.mem_cons.mp (I.stkSub b z) with e | e
  ·exact (hf b hb).2.1 e
  ·exact (hf b hb).2.2.1 e
 ·obtain ⟨hi,j,hj,hv⟩:=qcW e2
  obtain ⟨hx,hfr⟩:=hcap (i - nl) j x hj (by rw [Nat.add_sub_cancel' hi];exact e1)
  obtain ⟨m,hn,hl⟩:=I.loc
  have hk:=O.free _ hfr rfl
  obtain ⟨u,ru,lk⟩:=hl j x v hx hv (by
   rcases hk with z | z
   ·exact .inr (.inl z)
   ·exact .inr (.inr z))
  refine ⟨u,ru,?_⟩
  rcases lk with ⟨hk2,_⟩ | ⟨_,c,hc,hcell⟩
  ·have hk2':X.env.scope.names.lookup x=some .local:=hk2
   rcases hk with z | z<;>· rw [z] at hk2';cases hk2'
  ·obtain ⟨c',hc'⟩:=zQ (env:=X.env) (acc:=[]) hfr
   have e:c'=c:=by
    have:=(cells x c' hc').1
    rw [hc] at this
    exact (Option.some.inj this).symm
   subst e
   refine .inr ⟨?_,c',hc',?_⟩
   ·rcases e3 with z | z | z
    ·obtain ⟨k0,z3,_,e | ⟨e,_⟩⟩:=zt (env:=X.env) (names:=scope.names) z
     ·rw [O.once _ hfr rfl] at z3
      cases z3
      cases e
     ·cases e
    ·exact .inl z
    ·exact .inr z
   ·obtain ⟨o,ho,hd⟩:=hcell
    exact ⟨o,k _ _ ho,hd⟩
 ·obtain ⟨v,o,ho,hd⟩:=I.cell x c (cells x c e).1
  exact ⟨v,o,k _ _ ho,hd⟩
 ·have e:p=(D,ob):=by simpa using hp
  subst e
  refine ⟨hob,I.hok.fresh hD,hDC,fun z=>?_,hcl⟩
  rcases List.mem_cons.mp (I.stkSub D z) with e | e
  ·exact absurd (show X.env.locals < D from Nat.lt_of_lt_of_le I.lt hD) (by rw [e];exact Nat.lt_irrefl _)
  ·exact I.nofs hD e
 ·show (qdC nl ixs σ).length=N.length
  rw [capS_len,hN]
theorem Inv.compBack {N:List Str} {scope:Scope} {C D:Addr} {fp:List Addr} {its:List Value} {n:Nat} {s':Shared} {H':Hp} {σ':St} {ys:List V} (I:Inv X pins σ H s) (hf:∀ b∈fp,qcw X pins H b) (hC:s.heap.objs.size≤C) (hD:s.heap.objs.size≤D)
  (J:Inv (X.comp N scope C s H fp) [(D,{ cls:=.type "list",data:=.seq its.toArray n })] σ' H' s') (hv:Vals ys its) (hz:ys.length≤sizeLine):Inv X pins σ (upd H' D (.lst ys)) s':=by
 obtain ⟨pD,nD,neD,_,_⟩:=J.pin (D,{ cls:=.type "list",data:=.seq its.toArray n }) (List.mem_append_right _ (List.mem_singleton.mpr rfl))
 have ltD:∀ b o,s.heap.get? b=some o→b≠D:=fun b o e=>Nat.ne_of_lt (Nat.lt_of_lt_of_le (Heap.lt_size e) hD)
 have J0:=J.base
 refine I.call' (ch:=fp) J.os ⟨J0.keep,J0.slot,fun b o e n hx=>?_,J0.there,fun b xs e=>?_,fun b o u e=>?_,fun b ps e=>?_⟩ (fun b u e=>?_) J.bare fun b hb=>⟨(hf b hb).2.2.2.1,(hf b hb).2.1,(hf b hb).2.2.2.2.1,(hf b hb).2.2.2.2.2⟩
 ·rw [qi (ltD b o e)]
  exact J0.free b o e n hx
 ·have q:=J0.tups b xs e
  rw [qi (qC q nD)]
  exact q
 ·have q:=J0.frzs b o u e
  rw [qi (qC q nD)]
  exact q
 ·obtain ⟨more,q⟩:=J0.tbls b ps e
  exact ⟨more,by rw [qi (qC q nD)];exact q⟩
 ·by_cases hb:b=D
  ·subst hb
   rw [qd] at e
   cases e
   exact ⟨hz,its,n,hv,pD⟩
  ·rw [qi hb] at e
   exact (J.hok b u e).stay (fun c v _ q=>q) (fun c q=>by rw [qi (qC q nD)];exact q) fun c xs q=>by rw [qi (qC q nD)];exact q
end
def qgS:TT:=fun _ H Q=>Q true H
def qe9 (wi:TI) (g:TG) (tc:TT) (te:TE) (nl:Nat) (ixs:List Nat):TE:=fun σ H Q=>wi σ H fun J H1 =>
 ∃ W:Nat→Nat→List V→Hp→Prop,(∃ m,W 0 m [] H1)∧∀ i m ys H,W i m ys H →
  (J.stop i H∧ys.length≤sizeLine∧∀ p,H p=none→Q (.ref p) (upd H p (.lst ys))) ∨
  (J.go i H∧∃ M:List V→Hp→Prop,(∀ ys' H',M ys' H'→∃ m',m' < m∧W (i + 1) m' ys' H')∧∀ x H',J.yld i H x H'→g x (qdC nl ixs σ) H' fun σ2 H2=>tc σ2 H2 fun b H3 =>
   if b=true then te σ2 H3 fun v H4=>ys.length < sizeLine∧M (ys++[v]) H4 else M ys H3)
def qdO (nl:Nat) (g:TG):Prop:=∀ x σ H Q,g x σ H Q→g x σ H fun σ2 H2=>Q σ2 H2∧σ2.length=σ.length∧∀ i,nl≤i→σ2[i]?=σ[i]?
theorem zR {nl i:Nat} (h:i < nl:=by decide):qdO nl (qbo i):=fun x σ H Q q=>⟨q,List.length_set ..,fun j hj=>List.getElem?_set_ne (by omega)⟩
def qfH (X:Cx) (ifs:List Expr) (tc:TT):Prop:=
 ∀ (pins:List (Addr×Obj)) (s:Shared) (σ:St) (H:Hp) (Q:Bool→Hp→Prop),Inv X pins σ H s→tc σ H Q →
  wpAny (model X.prog X.w) X.A (forIn ifs true fun c r=>if r=true then do let ok ← isTrue c X.env (eval c X.env);pure (ForInStep.yield ok) else pure (ForInStep.yield r)) (TP X pins σ Q) X.xe s
theorem zS {X:Cx}:qfH X [] qgS:=fun pins s σ H Q I h=>wpAny_tests_nil ⟨H,I,h⟩
theorem zb {X:Cx} {c:Expr} {tc:TT} (h:PT X c tc):qfH X [c] tc:=fun pins s σ H Q I q=>wpAny_tests_one (h pins s σ H Q I q)
section
variable {X:Cx} {pins:List (Addr×Obj)} {σ:St} {H:Hp} {s:Shared}
theorem qbu {N:List Str} {scope:Scope} {nl:Nat} {ixs:List Nat} {fp:List Addr} {it:Addr} {tn:Nat→Heap→Prop} {J:It} {tg elt iter:Expr} {ifs:List Expr} {pos:Pos} {g:TG} {tc:TT} {te:TE} {Q:V→Hp→Prop} {E:Value→Shared→Prop}
  {RR:Value→Addr→Result→Shared→Prop} (I:Inv X pins σ H s) (hc:X.calm=true) (O:CompOk X.env.scope scope)
  (hN:N.length=nl + ixs.length) (hcap:∀ (k j:Nat) (x:Str),ixs[k]?=some j→N[nl + k]?=some x→X.N[j]?=some x∧(x,NameKind.free)∈scope.names)
  (T:Turn X.prog X.w X.K tg J fp it tn) (st:tn 0 s.heap) (hf:∀ b∈fp,qcw X pins H b)
  (hg:∀ C s0 H0 ex,PG (X.comp N scope C s0 H0 ex) tg g) (gk:qdO nl g) (hi:∀ C s0 H0 ex,qfH (X.comp N scope C s0 H0 ex) ifs tc) (he:∀ C s0 H0 ex,PE (X.comp N scope C s0 H0 ex) elt te)
  (h:∃ W:Nat→Nat→List V→Hp→Prop,(∃ m,W 0 m [] H)∧∀ i m ys H,W i m ys H →
   (J.stop i H∧ys.length≤sizeLine∧∀ p,H p=none→Q (.ref p) (upd H p (.lst ys))) ∨
   (J.go i H∧∃ M:List V→Hp→Prop,(∀ ys' H',M ys' H'→∃ m',m' < m∧W (i + 1) m' ys' H')∧∀ x H',J.yld i H x H'→g x (qdC nl ixs σ) H' fun σ2 H2=>tc σ2 H2 fun b H3 =>
    if b=true then te σ2 H3 fun v H4=>ys.length < sizeLine∧M (ys++[v]) H4 else M ys H3))
  (hRR:∀ (D C:Addr) (s':Shared) (H':Hp) (σ':St) (ys:List V) (its:List Value) (n:Nat),s.heap.objs.size≤C→s.heap.objs.size≤D→Inv (X.comp N scope C s H fp) [(D,{ cls:=.type "list",data:=.seq its.toArray n })] σ' H' s'→Vals ys its→ys.length≤sizeLine →
   (∀ p,H' p=none→Q (.ref p) (upd H' p (.lst ys)))→RR (.ref D) C (.ok .next) s') :
  wpAny (model X.prog X.w) X.A (newList []) (fun acc s3=>wpAny (model X.prog X.w) X.A (newFunctionEnv scope X.env.globals (q9 X.env scope.names []) [] X.env.qual none .none (some X.env)) (fun cenv s4 =>
   codeAny (model X.prog X.w) X.A (.compStart (.ListComp elt [⟨tg,iter,ifs,0⟩] scope pos) 0 (.ref it) acc { cenv with scope:=relabel scope X.env }) (RR acc cenv.locals) s4) E s3) E s:=by
 obtain ⟨W,⟨m0,w0⟩,turn⟩:=h
 refine wpAny_newObj_type (wpAny_newFunctionEnv O.nocell (by intro y hy;simp at hy) (fun h1 hns1 hsb1=>?_) O.kind)
 dsimp only at hns1 hsb1 ⊢
 generalize hH2:s.heap.push { cls:=.type "list",dict:=none,data:=.seq ([]:List Value).toArray }=H2 at hns1 hsb1 ⊢
 have hC:H2.objs.size=s.heap.objs.size + 1:=by rw [← hH2,Heap.size_push]
 have hDC:s.heap.objs.size≠H2.objs.size:=by rw [hC];exact Nat.ne_of_lt (Nat.lt_succ_self _)
 have hCle:s.heap.objs.size≤H2.objs.size:=by rw [hC];exact Nat.le_succ _
 have below:∀ b,b < s.heap.objs.size→b≠H2.objs.size∧b≠s.heap.objs.size:=fun b hb=>⟨by rw [hC];exact Nat.ne_of_lt (Nat.lt_succ_of_lt hb),Nat.ne_of_lt hb⟩
 have old:∀ b o,s.heap.get? b=some o→h1.get? b=some o:=fun b o e=>hsb1.extBut b o (below b (Heap.lt_size e)).1 (Heap.get?_push_of_some _ (hH2 ▸ Heap.get?_push_of_some _ e))
 have hacc:h1.get? s.heap.objs.size=some { cls:=.type "list",data:=.seq ([]:List Value).toArray }:=hsb1.extBut _ _ hDC (Heap.get?_push_of_some _ (hH2 ▸ Heap.get?_push_size _ rfl))
 have hfl:∀ b∈fp,b < s.heap.objs.size:=fun b hb=>by
  obtain ⟨o,ho,_⟩:=T.obj 0 _ st b hb
  exact Heap.lt_size ho
 have loop:∀ s3:Shared,s3={ s with heap:=h1,toks:=s.toks + ([]:List (Str×Value)).length } →
   codeAny (model X.prog X.w) X.A (.compLoop (.ListComp elt [⟨tg,iter,ifs,0⟩] scope pos) 0 (.ref it) (.ref s.heap.objs.size) (compEnvC scope (q9 X.env scope.names []) H2.objs.size X.env)) (RR (.ref s.heap.objs.size) H2.objs.size) s3:=by
  rintro s3 rfl
  have I0:=I.comp (N:=N) (C:=H2.objs.size) (D:=s.heap.objs.size) (h1:=h1) (tk:=s.toks + ([]:List (Str×Value)).length) O hN hcap hf hfl hCle (Nat.le_refl _) hDC hns1 old hacc (fun v z=>by cases z)
  have stat:∀ {H':Hp} {σ':St} {s':Shared} {pl:List (Addr×Obj)},Inv (X.comp N scope H2.objs.size s H fp) pl σ' H' s'→(∀ p∈pl,p.1=s.heap.objs.size)→(∀ b∈fp,H' b=none)→∀ b∈fp,qcw (X.comp N scope H2.objs.size s H fp) pl H' b:=fun {H' σ' s' pl} J hpl hn b hb =>
   ⟨hn b hb,(below b (hfl b hb)).1,fun z=>(by
     rcases List.mem_cons.mp (I.stkSub b z) with e | e
     ·exact (hf b hb).2.1 e
     ·exact (hf b hb).2.2.1 e),.inl hb,J.ok.exf b hb |>.2,fun p hp z=>by
    have e:=hpl p (by simpa using hp)
    rw [e] at z
    exact (below b (hfl b hb)).2 z.symm⟩
  refine compLoop_own (fun k s'=>∃ i H' ys its n,Inv (X.comp N scope H2.objs.size s H fp) [(s.heap.objs.size,{ cls:=.type "list",data:=.seq its.toArray n })] (qdC nl ixs σ) H' s'∧tn i s'.heap∧(∀ b∈fp,H' b=none)∧Vals ys its∧W i k ys H') ?_ m0
   ⟨0,H,[],[],0,I0,T.keep _ _ _ st fun b _ o e=>old b o e,fun b hb=>(hf b hb).1,.nil,w0⟩
  rintro k s' ⟨i,H',ys,its,n,J1,st1,fr1,v1,w1⟩
  have one:∀ p∈[((s.heap.objs.size,{ cls:=.type "list",data:=.seq its.toArray n }):Addr×Obj)],p.1=s.heap.objs.size:=fun p hp=>by
   have e:p=_:=List.mem_singleton.mp hp
   rw [e]
  rcases turn i k ys H' w1 with ⟨stop,hz,q⟩ | ⟨go,M,hM,step⟩
  ·refine thn (T.done (X.comp N scope H2.objs.size s H fp) rfl rfl rfl hc i _ s' _ H' _ J1 (stat J1 one fr1) st1 stop) fun r s4 ⟨hr,J4⟩=>?_
   subst hr
   exact hRR _ _ s4 H' _ ys its n hCle (Nat.le_refl _) J4 v1 hz q
  ·refine thn (T.item (X.comp N scope H2.objs.size s H fp) rfl rfl rfl hc i _ s' _ H' _ J1 (stat J1 one fr1) st1 go) fun r s4 ⟨u,hr,h4⟩=>?_
   subst hr
   refine thn h4 fun _ s5 ⟨x,H5,J5,r5,y5,st5,fr5⟩=>?_
   have J5':=J5.pinned (stat J5 one fr5) (T.obj _ _ st5)
   refine thn (hg _ _ _ _ _ s5 _ H5 x u _ J5' r5 (gk _ _ _ _ (step x H5 y5))) fun _ s6 ⟨σ6,H6,J6,q6,l6,k6⟩=>?_
   refine thn (hi _ _ _ _ _ s6 σ6 H6 _ J6 q6) fun ok s7 ⟨H7,J7,q7⟩=>?_
   have again:∀ {s8:Shared} {H8:Hp} {ys':List V} {k':Nat},Inv (X.comp N scope H2.objs.size s H fp) ([((s.heap.objs.size,{ cls:=.type "list",data:=.seq its.toArray n }):Addr×Obj)]++qbW fp s5.heap) σ6 H8 s8 →
     (∀ b o,b≠s.heap.objs.size→s8.heap.get? b=some o→s8.heap.get? b=some o)→tn (i + 1) s8.heap∧∀ b∈fp,H8 b=none:=fun {s8 H8 ys' k'} J8 _=>by
    refine ⟨T.keep _ _ _ st5 fun b hb o e=>(J8.pin (b,o) (List.mem_append_right _ (List.mem_append_right _ (qaj hb e)))).1,fun b hb=>?_⟩
    obtain ⟨o,e,d⟩:=T.obj _ _ st5 b hb
    exact (J8.pin (b,o) (List.mem_append_right _ (List.mem_append_right _ (qaj hb e)))).2.1
   have wk:∀ (j:Nat) v,(qdC nl ixs σ)[j]?=some (some v)→σ6[j]?=some (some v):=fun j v e=>by
    obtain ⟨hj,_⟩:=qcW e
    rw [k6 j hj]
    exact e
   cases ok with
   | false =>
    rw [if_neg Bool.false_ne_true] at q7 ⊢
    obtain ⟨m',hm,w7⟩:=hM _ _ q7
    obtain ⟨st7,fr7⟩:=again (ys':=ys) (k':=0) J7 (fun _ _ _ e=>e)
    exact ⟨m',hm,i + 1,H7,ys,its,n,J7.unpinned.weak l6.symm wk,st7,fr7,v1,w7⟩
   | true =>
    rw [if_pos rfl] at q7 ⊢
    refine thn (he _ _ _ _ _ s7 σ6 H7 _ J7 q7) fun y s8 ⟨v,H8,J8,r8,hlt,mq⟩=>?_
    obtain ⟨m',hm,w8⟩:=hM _ _ mq
    obtain ⟨st8,fr8⟩:=again (ys':=ys) (k':=0) J8 (fun _ _ _ e=>e)
    have J9:=J8.unpinned
    obtain ⟨pD,nD,neD,nfD,_⟩:=J9.pin (s.heap.objs.size,{ cls:=.type "list",data:=.seq its.toArray n }) (List.mem_append_right _ (List.mem_singleton.mpr rfl))
    refine wpAny_list_append_plain (hsz:=by rw [List.size_toArray,← v1.length];omega) ⟨n,pD⟩ fun h9 hl9 hs9=>?_
    obtain ⟨n9,hl9⟩:=hl9
    have e9:(its.toArray.push y)=(its++[y]).toArray:=by simp
    rw [e9] at hl9
    have Ja:Inv (X.comp N scope H2.objs.size s H fp) [] (qdC nl ixs σ) H8 { s8 with heap:=h9,toks:=s8.toks }:=
     ((J9.pins_of (pins':=[]) fun p hp=>absurd hp (by simp)).turned (it:=s.heap.objs.size) (h':=h9) (t':=s8.toks) (fun b o hb e=>(hs9.2 b hb).trans e) nD neD (.inr (Nat.le_refl _))
      (fun x c e z=>by
       obtain ⟨c0,o0,h0,_⟩:=I0.cell x c e
       have:=zP e
       rcases this with ⟨hfr,hcc⟩ | hcc
       ·obtain ⟨c',hc'⟩:=I.ok.has x (by
         rcases O.free _ hfr rfl with q | q
         ·exact .inl q
         ·exact .inr q)
        rw [hc'] at hcc
        have hcc':c=c':=hcc
        obtain ⟨_,q⟩:=I.cell x c' hc'
        rw [← hcc',z] at q
        exact absurd q.lt (Nat.lt_irrefl _)
       ·cases hcc) (fun p hp=>absurd hp (by simp))).weak l6.symm wk
    refine ⟨m',hm,i + 1,H8,ys++[v],its++[y],n9,Ja.pins_of fun p hp=>?_,?_,fr8,v1.append (.cons r8 .nil),w8⟩
    ·have e:p=_:=List.mem_singleton.mp hp
     subst e
     exact ⟨hl9,nD,neD,nfD,fun v z=>by cases z⟩
    ·exact T.keep _ _ _ st8 fun b hb o e=>(hs9.2 b (below b (hfl b hb)).2).trans e
 exact codeAny_compStart_list (loop _ rfl) (T.self _ 0 _ _ _ (T.keep _ _ _ st fun b _ o e=>old b o e) (loop _ rfl))
end
section
variable {X:Cx} {tg elt iter:Expr} {ifs:List Expr} {scope:Scope} {pos:Pos} {N:List Str} {nl:Nat} {ixs:List Nat} {wi:TI} {g:TG} {tc:TT} {te:TE}
theorem zj {sc:Scope} {XN:List Str} (N:List Str) (nl:Nat) (ixs:List Nat) (hsc:X.env.scope=sc) (hXN:X.N=XN) (hc:X.calm=true) (O':qeh sc scope=true) (hN:N.length=nl + ixs.length) (hcap':qgm nl ixs N XN scope.names=true)
  (hi:PI X tg iter wi) (hg:∀ C s0 H0 ex,PG (X.comp N scope C s0 H0 ex) tg g) (gk:qdO nl g) (ht:∀ C s0 H0 ex,qfH (X.comp N scope C s0 H0 ex) ifs tc) (he:∀ C s0 H0 ex,PE (X.comp N scope C s0 H0 ex) elt te)
  (hs:∀ x,foldedSetIterable iter X.env x=pure x:=by intro _;rfl):PE X (.ListComp elt [⟨tg,iter,ifs,0⟩] scope pos) (qe9 wi g tc te nl ixs):=by
 intro pins s σ H Q I h
 subst hsc hXN
 have O:=qcV O'
 have hcap:=qdN hcap'
 rw [eval_ListComp]
 have hcl:=qaB (scope:=scope) (env:=X.env) fun n hn=>I.ok.has n (by
  rcases O.free _ hn rfl with z | z
  ·exact .inl z
  ·exact .inr z)
 refine wpAny_comprehension_free (use:=none) rfl hs hcl O.kind O.loc (thn (hi pins s σ H _ I h) fun v s1 h1=>thn h1 fun itv s2 h2=>?_)
 obtain ⟨it,fp,tn,J,H2,e,I2,T,st2,f2,hW⟩:=h2
 subst e
 refine qbu (Q:=Q) (RR:=fun acc C=>compPost (model X.prog X.w) X.A X.xe none (EP X pins σ Q) acc C) I2 hc O hN hcap T st2 f2 hg gk ht he hW ?_
 intro D C s' H' σ' ys its n hC hD J' hv hz q
 obtain ⟨m,hn,_⟩:=id J'.loc
 have B:=I2.compBack f2 hC hD J' hv hz
 obtain ⟨_,nD,neD,_,_⟩:=J'.pin (D,{ cls:=.type "list",data:=.seq its.toArray n }) (List.mem_append_right _ (List.mem_singleton.mpr rfl))
 refine ⟨m,hn,fun h' sb=>⟨.ref D,_,?_,rfl,q D nD⟩⟩
 refine B.turned (it:=C) (h':=h') (t':=s'.toks) (fun b o hb e=>(sb.2 b hb).trans e) ((qi (H:=H') (a:=D) (b:=C) (o:=.lst ys) (Ne.symm neD)).trans J'.free) (Nat.ne_of_gt (Nat.lt_of_lt_of_le I2.lt hC)) (.inr (Nat.le_trans I2.sz hC)) (fun x c e z=>?_) (fun p hp z=>?_)
 ·obtain ⟨_,q⟩:=I2.cell x c e
  exact absurd (Nat.lt_of_lt_of_le q.lt (by rw [z];exact hC)) (Nat.lt_irrefl _)
 ·exact absurd (Nat.lt_of_lt_of_le (Heap.lt_size (I2.pin p hp).1) (by rw [z];exact hC)) (Nat.lt_irrefl _)
theorem qbb {i:Nat} {y:Str} {py spos:Pos} {sc:Scope} {XN:List Str} (N:List Str) (nl:Nat) (ixs:List Nat) (hsc:X.env.scope=sc) (hXN':X.N=XN) (hc:X.calm=true) (O':qeh sc scope=true) (hN:N.length=nl + ixs.length) (hcap':qgm nl ixs N XN scope.names=true)
  (hXN:X.N.Nodup) (hi':X.N[i]?=some y) (hy:X.env.scope.names.lookup y=some .local)
  (hi:PI X tg iter wi) (hg:∀ C s0 H0 ex,PG (X.comp N scope C s0 H0 ex) tg g) (gk:qdO nl g) (ht:∀ C s0 H0 ex,qfH (X.comp N scope C s0 H0 ex) ifs tc) (he:∀ C s0 H0 ex,PE (X.comp N scope C s0 H0 ex) elt te)
  (hsw:swapsWith (.ListComp elt [⟨tg,iter,ifs,0⟩] scope pos) (some (.Name y py)) spos.line X.env=pure true:=by rfl)
  (hs:∀ x,foldedSetIterable iter X.env x=pure x:=by intro _;rfl):PS X (.Assign [.Name y py] (.ListComp elt [⟨tg,iter,ifs,0⟩] scope pos) spos) (qe5 (qe9 wi g tc te nl ixs) (qbo i)):=by
 intro pins s σ H D0 I h
 subst hsc hXN'
 have O:=qcV O'
 have hcap:=qdN hcap'
 have hcl:=qaB (scope:=scope) (env:=X.env) fun n hn=>I.ok.has n (by
  rcases O.free _ hn rfl with z | z
  ·exact .inl z
  ·exact .inr z)
 rw [exec_Assign_Name_used _ _ _ _ hsw]
 refine wpAny_bind (wpAny_standAt (wpAny_bind ?_))
 show wpAny _ X.A (do let _ ← comprehension (.ListComp elt [⟨tg,iter,ifs,0⟩] scope pos) scope X.env _ (newList []) false (eval iter X.env) (some (assign (.Name y py) X.env))) _ _ s
 refine wpAny_bind (wpAny_mono (wpAny_comprehension_free (use:=some (assign (.Name y py) X.env)) (Q:=fun _ s'=>SP X pins D0 .next s') rfl hs hcl O.kind O.loc
  (thn (hi pins s σ H _ I h) fun v s1 h1=>thn h1 fun itv s2 h2=>?_)) (fun _ s' hq=>wpAny_pure (wpAny_pure hq)) fun _ _ e=>e)
 obtain ⟨it,fp,tn,J,H2,e,I2,T,st2,f2,hW⟩:=h2
 subst e
 refine qbu (Q:=fun v H'=>qbo i v σ H' D0.nx) (RR:=fun acc C=>compPost (model X.prog X.w) X.A X.xe (some (assign (.Name y py) X.env)) (fun _ s'=>SP X pins D0 .next s') acc C) I2 hc O hN hcap T st2 f2 hg gk ht he hW ?_
 intro D C s' H' σ' ys its n hC hD J' hv hz q
 obtain ⟨m,hn,_⟩:=id J'.loc
 have B:=I2.compBack f2 hC hD J' hv hz
 obtain ⟨_,nD,neD,_,_⟩:=J'.pin (D,{ cls:=.type "list",data:=.seq its.toArray n }) (List.mem_append_right _ (List.mem_singleton.mpr rfl))
 show wpAny _ X.A (assign (.Name y py) X.env (.ref D)) _ _ _
 refine wpAny_assign_Name (qbT (i:=i) (x:=y) (v:=.ref D) B hXN hi' (.inl hy) rfl (fun s'' B' hsb=>?_) (.inr hy))
 obtain ⟨a,sa,ha⟩:=hsb
 have hCa:C≠a:=by
  rintro rfl
  rcases ha with z | z
  ·exact absurd (show X.env.locals < C from Nat.lt_of_lt_of_le I2.lt hC) (by rw [z];exact Nat.lt_irrefl _)
  ·obtain ⟨_,q⟩:=I2.cell y C z
   exact absurd (Nat.lt_of_lt_of_le q.lt hC) (Nat.lt_irrefl _)
 refine ⟨m,hn.sameBut sa hCa,fun h' sb=>⟨_,_,?_,q D nD⟩⟩
 refine B'.turned (it:=C) (h':=h') (t':=s''.toks) (fun b o hb e=>(sb.2 b hb).trans e) ((qi (H:=H') (a:=D) (b:=C) (o:=.lst ys) (Ne.symm neD)).trans J'.free) (Nat.ne_of_gt (Nat.lt_of_lt_of_le I2.lt hC)) (.inr (Nat.le_trans I2.sz hC)) (fun x c e z=>?_) (fun p hp z=>?_)
 ·obtain ⟨_,q⟩:=I2.cell x c e
  exact absurd (Nat.lt_of_lt_of_le q.lt (by rw [z];exact hC)) (Nat.lt_irrefl _)
 ·exact absurd (Nat.lt_of_lt_of_le (Heap.lt_size (I2.pin p hp).1) (by rw [z];exact hC)) (Nat.lt_irrefl _)
end
end L2
namespace L2
open PySem PySem.Spec PyProof.Rows
def Its (x:Str):It:=⟨fun i _=>i < x.cps.size,fun i H v H'=>H'=H∧∃ c,x.cps[i]?=some c∧v=.str ⟨#[c]⟩,fun i _=>i=x.cps.size⟩
theorem qcX {P:Program} {w:World} {K:PySem.W.Frag} {tg:Expr} {it:Addr} {x:Str} {t:Tok} {T:String} (W:∀ A:Around,A.handled=none→Walks P w A it [it] [it] x.cps.size (SignAt x) fun i h=>h.IsStrIter it T x t i)
  (sf:∀ (A:Around) (i:Nat) (s:Shared) (Q:Value→Shared→Prop) (E:Value→Shared→Prop),s.heap.IsStrIter it T x t i→Q (.ref it) s→wpAny (model P w) A (pyIter (.ref it)) Q E s)
  (htg:∀ v,letOwnedTupleGo tg (.ref it) v=pure ()):Turn P w K tg (Its x) [it] it (fun i h=>h.IsStrIter it T x t i) where
 mem:=by simp
 obj:=fun i h st b hb=>by
  have e:b=it:=by simpa using hb
  subst e
  obtain ⟨o,e,c,d⟩:=st
  exact ⟨o,e,fun v z=>by rw [d] at z;cases z⟩
 keep:=fun i h h' st k=>by
  obtain ⟨o,e,r⟩:=st
  exact ⟨o,k it (by simp) o e,r⟩
 item:=by
  intro X hP hw hK hc i pins s σ H E I hf st hg
  subst hP hw hK
  obtain ⟨f0,f1,f2,f3,f4,f5⟩:=hf it (by simp)
  refine (W X.A (I.ok.hd hc)).item i s _ _ hg st fun v h' tk hv st' kk=>?_
  obtain ⟨c,u,hcx,rfl⟩:=hv
  have I1:Inv X pins σ H { s with heap:=h',toks:=tk }:=I.turned (fun b o hb e=>kk b o (by simpa using hb) e) f0 f1 f3 f4 f5
  refine ⟨_,rfl,wpAny_of_eq (htg _) ⟨.str ⟨#[c]⟩,H,I1,⟨u,rfl⟩,⟨rfl,c,hcx,rfl⟩,st',fun b hb=>(hf b hb).1⟩⟩
 done:=by
  intro X hP hw hK hc i pins s σ H E I hf st hg
  subst hP hw hK
  obtain ⟨f0,f1,f2,f3,f4,f5⟩:=hf it (by simp)
  have e:i=x.cps.size:=hg
  subst e
  exact (W X.A (I.ok.hd hc)).done s _ _ st fun h' tk kk=>⟨rfl,I.turned (fun b o hb e=>kk b o (by simpa using hb) e) f0 f1 f3 f4 f5⟩
 self:=sf
section
variable {X:Cx} {tg:Expr}
end
section
variable {K:PySem.W.Frag} {a:Addr} {xs:List V} {g:TG} {tc:TT} {te:TE} {σ':St} {H1:Hp} {Q:V→Hp→Prop}
def qdP (J:It) (g:TG) (tc:TT) (te:TE) (σ':St) (H1:Hp) (Q:V→Hp→Prop):Prop:=
 ∃ W:Nat→Nat→List V→Hp→Prop,(∃ m,W 0 m [] H1)∧∀ i m ys H,W i m ys H →
   (J.stop i H∧ys.length≤sizeLine∧∀ p,H p=none→Q (.ref p) (upd H p (.lst ys))) ∨
   (J.go i H∧∃ M:List V→Hp→Prop,(∀ ys' H',M ys' H'→∃ m',m' < m∧W (i + 1) m' ys' H')∧∀ x H',J.yld i H x H'→g x σ' H' fun σ2 H2=>tc σ2 H2 fun b H3 =>
    if b=true then te σ2 H3 fun v H4=>ys.length < sizeLine∧M (ys++[v]) H4 else M ys H3)
theorem jl (Pv:Nat→List V→Hp→Prop) (h0:Pv 0 [] H1) (hl:∀ i ys H,i≤xs.length→Pv i ys H→SqL K H a xs)
  (hs:∀ i x ys H,xs[i]?=some x→Pv i ys H→g x σ' H fun σ2 H2=>tc σ2 H2 fun b H3=>if b=true then te σ2 H3 fun v H4=>ys.length < sizeLine∧Pv (i + 1) (ys++[v]) H4 else Pv (i + 1) ys H3)
  (hd:∀ ys H,Pv xs.length ys H→ys.length≤sizeLine∧∀ p,H p=none→Q (.ref p) (upd H p (.lst ys))):qdP (Itl K a) g tc te σ' H1 Q:=by
 refine ⟨fun i m ys H=>m=xs.length - i∧i≤xs.length∧Pv i ys H,⟨xs.length,by simp,Nat.zero_le _,h0⟩,?_⟩
 rintro i m ys H ⟨rfl,hi,p⟩
 have q:=hl i ys H hi p
 by_cases hlt:i < xs.length
 ·refine .inr ⟨⟨xs,xs[i],q,by simp [hlt]⟩,Pv (i + 1),fun ys' H' p'=>⟨xs.length - (i + 1),by omega,rfl,hlt,p'⟩,fun x H' y=>?_⟩
  obtain ⟨e,y⟩:=y
  subst e
  exact hs i x ys _ (y xs q) p
 ·have e:i=xs.length:=by omega
  subst e
  exact .inl ⟨⟨xs,q,Nat.le_refl _⟩,hd ys H p⟩
theorem comp_range {lo:Int} {n:Nat} (Pv:Nat→List V→Hp→Prop) (h0:Pv 0 [] H1)
  (hs:∀ i ys H,i < n→Pv i ys H→g (.int (lo + i)) σ' H fun σ2 H2=>tc σ2 H2 fun b H3=>if b=true then te σ2 H3 fun v H4=>ys.length < sizeLine∧Pv (i + 1) (ys++[v]) H4 else Pv (i + 1) ys H3)
  (hd:∀ ys H,Pv n ys H→ys.length≤sizeLine∧∀ p,H p=none→Q (.ref p) (upd H p (.lst ys))):qdP (Itr lo n) g tc te σ' H1 Q:=by
 refine ⟨fun i m ys H=>m=n - i∧i≤n∧Pv i ys H,⟨n,by simp,Nat.zero_le _,h0⟩,?_⟩
 rintro i m ys H ⟨rfl,hi,p⟩
 by_cases hlt:i < n
 ·refine .inr ⟨hlt,Pv (i + 1),fun ys' H' p'=>⟨n - (i + 1),by omega,rfl,hlt,p'⟩,fun x H' y=>?_⟩
  obtain ⟨e,y⟩:=y
  subst e y
  exact hs i ys _ hlt p
 ·have e:i=n:=by omega
  subst e
  exact .inl ⟨Nat.le_refl _,hd ys H p⟩
theorem comp_str {x:Str} (Pv:Nat→List V→Hp→Prop) (h0:Pv 0 [] H1)
  (hs:∀ i c ys H,x.cps[i]?=some c→Pv i ys H→g (.str ⟨#[c]⟩) σ' H fun σ2 H2=>tc σ2 H2 fun b H3=>if b=true then te σ2 H3 fun v H4=>ys.length < sizeLine∧Pv (i + 1) (ys++[v]) H4 else Pv (i + 1) ys H3)
  (hd:∀ ys H,Pv x.cps.size ys H→ys.length≤sizeLine∧∀ p,H p=none→Q (.ref p) (upd H p (.lst ys))):qdP (Its x) g tc te σ' H1 Q:=by
 refine ⟨fun i m ys H=>m=x.cps.size - i∧i≤x.cps.size∧Pv i ys H,⟨x.cps.size,by simp,Nat.zero_le _,h0⟩,?_⟩
 rintro i m ys H ⟨rfl,hi,p⟩
 by_cases hlt:i < x.cps.size
 ·refine .inr ⟨hlt,Pv (i + 1),fun ys' H' p'=>⟨x.cps.size - (i + 1),by omega,rfl,hlt,p'⟩,fun v H' y=>?_⟩
  obtain ⟨e,c,hc,y⟩:=y
  subst e y
  exact hs i c ys _ hc p
 ·have e:i=x.cps.size:=by omega
  subst e
  exact .inl ⟨rfl,hd ys H p⟩
end
def qb8:V→Option Value
 | .ty n=>some (.type n)
 | .ref a=>some (.ref a)
 | _=>none
theorem qbv {y:V} {c u:Value} (h:qb8 y=some c) (r:RelV y u):u=c:=by
 cases y with
 | ty n=>cases h;exact r
 | ref a=>cases h;exact r
 | _=>cases h
section
variable {X:Cx} {pins:List (Addr×Obj)} {σ:St} {H:Hp} {s:Shared}
theorem TyOf.kit {x:V} {u t:Value} (I:Inv X pins σ H s) (rx:RelV x u) (ty:TyOf X.K H x t):∃ P:Heap→Prop,PySem.W.KitX X.K u t P∧P s.heap∧u≠.builtin "__main__.__loader__#opaque":=by
 cases ty with
 | non=>cases (show u=Value.none from rx);exact ⟨_,PySem.W.kitx_none,True.intro,(fun z=>nomatch z)⟩
 | bl y=>cases (show u=Value.bool y from rx);exact ⟨_,PySem.W.kitx_bool,True.intro,(fun z=>nomatch z)⟩
 | int i=>obtain ⟨t,q⟩:=(show ∃ t,u=Value.int i t from rx);cases q;exact ⟨_,PySem.W.kitx_int,True.intro,(fun z=>nomatch z)⟩
 | str y=>obtain ⟨t,q⟩:=(show ∃ t,u=Value.str y t from rx);cases q;exact ⟨_,PySem.W.kitx_str,True.intro,(fun z=>nomatch z)⟩
 | flt y=>obtain ⟨t,q⟩:=(show ∃ t,u=Value.float y t from rx);cases q;exact ⟨_,PySem.W.kitx_float,True.intro,(fun z=>nomatch z)⟩
 | @lst a xs ea =>
  cases (show u=Value.ref a from rx)
  obtain ⟨_,_,n,_,h1⟩:=(show ObjOk X.prog X.w H s.heap a (.lst xs) from I.hok a _ ea)
  exact ⟨_,PySem.W.kitx_list,⟨_,h1,rfl⟩,(fun z=>nomatch z)⟩
 | @frz a ob xs ea =>
  cases (show u=Value.ref a from rx)
  obtain ⟨_,_,_,n,_,h1⟩:=(show ObjOk X.prog X.w H s.heap a (.frz ob (.lst xs)) from I.hok a _ ea)
  exact ⟨_,PySem.W.kitx_list,⟨_,h1,rfl⟩,(fun z=>nomatch z)⟩
 | @tup a xs ea =>
  cases (show u=Value.ref a from rx)
  obtain ⟨_,_,_,p⟩:=(show ObjOk X.prog X.w H s.heap a (.tup xs) from I.hok a _ ea)
  obtain ⟨o,h1,h2,_⟩:=p
  exact ⟨_,PySem.W.kitx_tuple,⟨o,h1,h2⟩,(fun z=>nomatch z)⟩
 | @dK a kvs ea =>
  cases (show u=Value.ref a from rx)
  obtain ⟨_,_,vs,_,p⟩:=(show ObjOk X.prog X.w H s.heap a (.dK kvs) from I.hok a _ ea)
  obtain ⟨o,es,ep,h1,h2,_⟩:=p
  exact ⟨_,PySem.W.kitx_dict,⟨o,h1,h2.1⟩,(fun z=>nomatch z)⟩
 | @dT a kvs ea =>
  cases (show u=Value.ref a from rx)
  obtain ⟨_,_,xs,_,o,es,ep,h1,h2,_⟩:=(show ObjOk X.prog X.w H s.heap a (.dT kvs) from I.hok a _ ea)
  exact ⟨_,PySem.W.kitx_dict,⟨o,h1,h2.1⟩,(fun z=>nomatch z)⟩
 | @ins a C dx fs ea cl ha hn htk hm =>
  cases (show u=Value.ref a from rx)
  obtain ⟨mA,O,_⟩:=qaM I.hok ea
  obtain ⟨od,J,_⟩:=O.look
  exact ⟨_,PySem.W.kitx_own (cl.get _) cl.hd ha hn htk hm,J,(fun z=>nomatch z)⟩
end
section
variable {X:Cx}
theorem qbc:∀ {ys:List V} {cs us:List Value},ys.map qb8=cs.map some→Vals ys us→us=cs
 | [],[],_,_,.nil=>rfl
 | [],_::_,_,h,_=>by cases h
 | y::ys,[],_,h,_=>by cases h
 | y::ys,c::cs,_,h,.cons r t=>by
  rw [List.map_cons,List.map_cons] at h
  injection h with h1 h2
  rw [qbv h1 r,qbc h2 t]
theorem qcY:∀ {bs:List Bool} {us:List Value},Vals (bs.map V.bl) us→us=bs.map Value.bool
 | [],_,.nil=>rfl
 | b::bs,_,.cons r t=>by
  have e:=qcY t
  rw [e]
  cases r
  rfl
def qgT (K:PySem.W.Frag):List V→Hp→VK→Prop:=fun xs H Q=>∃ (p:Addr) (bs:List Bool),xs=[.ref p]∧SqL K H p (bs.map V.bl)∧Q (.bl (bs.all id)) H
theorem call_all (hc:X.calm=true):zM X (.builtin "all") (qgT X.K):=by
 intro pins s σ H xs us Q I r h
 obtain ⟨p,bs,rfl,hp,q⟩:=h
 obtain ⟨u,rfl,ru⟩:=qa5 r
 cases ru
 obtain ⟨its,rv,pl,hz⟩:=I.list hp
 have e:=qcY rv
 subst e
 have hh:X.A.in1.handled=none:=I.ok.hd hc
 refine call_all_walk (wpAny_pyIter_list pl.isList ?_)
 have hne:p≠s.heap.objs.size:=by
  obtain ⟨o,ho,_⟩:=pl.isList
  exact Nat.ne_of_lt (Heap.lt_size ho)
 refine ⟨s.heap.objs.size,_,_,_,_,_,fun i=>(bs[i]?).getD false,rfl,Walks.list hh s.heap.objs.size p hne (bs.map Value.bool).toArray,⟨⟨_,Heap.get?_push_size _ rfl,rfl,rfl⟩,pl.isList.at fun o e=>Heap.get?_push_of_some _ e⟩,fun i v s Q E hv hq=>?_,fun h' tk hk=>?_⟩
 ·have hv':(bs.map Value.bool)[i]?=some v:=by simpa using hv
  rw [List.getElem?_map] at hv'
  cases e:bs[i]? with
  | none=>rw [e] at hv';cases hv'
  | some b =>
   rw [e] at hv'
   cases hv'
   have hq':Q ((bs[i]?).getD false) s:=hq
   rw [e] at hq'
   exact wpAny_pure hq'
 ·have e:((List.range (bs.map Value.bool).toArray.size).all fun i=>(bs[i]?).getD false)=bs.all id:=by
   rw [List.size_toArray,List.length_map]
   have key:∀ bs:List Bool,((List.range bs.length).all fun i=>(bs[i]?).getD false)=bs.all id:=by
    intro bs
    induction bs with
    | nil=>rfl
    | cons b r ih =>
     rw [List.length_cons,List.range_succ_eq_map,List.all_cons,List.all_map,List.all_cons,← ih]
     rfl
   exact key bs
  rw [e]
  refine ⟨.bl _,H,?_,rfl,q⟩
  have I1:Inv X pins σ H { s with heap:=s.heap.push { cls:=.type "list_iterator",data:=.fields #[.ref p,.int 0 0] } }:=I.kept (t':=s.toks) fun b o e=>Heap.get?_push_of_some _ e
  have nf:=I.fpOk (b:=s.heap.objs.size) (Nat.le_refl _) (I.hok.fresh (Nat.le_refl _))
  exact I1.turned (it:=s.heap.objs.size) (h':=h') (t':=tk) (fun b o hb e=>hk b o (by simpa using hb) e) nf.1 nf.2.1 nf.2.2.2.1 nf.2.2.2.2.1 nf.2.2.2.2.2
theorem op_le_str:OpR X (compareOp .LtE) (fun x y H Q=>∃ i j,x=.str i∧y=.str j∧Q (.bl (!decide (j.cps.toList < i.cps.toList))) H):=by
 intro pins s σ H x y v u Q I rx ry h
 obtain ⟨i,j,rfl,rfl,q⟩:=h
 obtain ⟨t,rfl⟩:=rx
 obtain ⟨t',rfl⟩:=ry
 exact PySem.P.le_str (fin_bl I q (by rfl))
def qgn:R2:=fun x y H Q=>match x,y with
 | .int i,.int j=>Q (.bl (decide (i≤j))) H
 | .str i,.str j=>Q (.bl (!decide (j.cps.toList < i.cps.toList))) H
 | _,_=>False
theorem qfs:OpR X (compareOp .LtE) qgn:=by
 intro pins s σ H x y v u Q I rx ry h
 cases x with
 | int i=>cases y with
  | int j=>exact op_le pins s σ H _ _ v u Q I rx ry ⟨i,j,rfl,rfl,h⟩
  | _=>exact False.elim h
 | str i=>cases y with
  | str j=>exact op_le_str pins s σ H _ _ v u Q I rx ry ⟨i,j,rfl,rfl,h⟩
  | _=>exact False.elim h
 | _=>exact False.elim h
def rIsU:R2:=fun x y H Q=>match x,y with
 | .bl i,.bl j=>Q (.bl (i==j)) H
 | x,.non=>Q (.bl (decide (x=.non))) H
 | _,_=>False
theorem op_rep_str:OpR X (binaryOp .Mult) (fun x y H Q=>∃ z k,x=.str z∧y=.int k∧MulOk z k∧Q (.str (Txt.mul z k)) H):=by
 intro pins s σ H x y v u Q I rx ry h
 obtain ⟨z,k,rfl,rfl,hm,q⟩:=h
 obtain ⟨t,rfl⟩:=rx
 obtain ⟨t',rfl⟩:=ry
 exact SB.mul hm fun t' k'=>⟨.str _,H,I.tok _,⟨_,rfl⟩,q⟩
def qfI:R2:=fun x y H Q=>match x,y with
 | .int i,.int j=>CMul i j∧Q (.int (i * j)) H
 | .str z,.int k=>MulOk z k∧Q (.str (Txt.mul z k)) H
 | .ref a,.int k=>qgR (.ref a) (.int k) H Q
 | _,_=>False
theorem qcA:OpR X (binaryOp .Mult) qfI:=by
 intro pins s σ H x y v u Q I rx ry h
 cases y with
 | int j=>cases x with
  | int i=>exact op_mul pins s σ H _ _ v u Q I rx ry ⟨i,j,rfl,rfl,h.1,h.2⟩
  | str i=>exact op_rep_str pins s σ H _ _ v u Q I rx ry ⟨i,j,rfl,rfl,h.1,h.2⟩
  | ref a=>exact qex pins s σ H _ _ v u Q I rx ry h
  | _=>exact False.elim h
 | _=>cases x<;>exact False.elim h
def qej (K:PySem.W.Frag):R2:=fun x y H Q=>match x,y with
 | .int i,.int j=>Q (.int (i + j)) H
 | .str i,.str j=>i.length + j.length≤sizeLine∧Q (.str (i++j)) H
 | .ref a,.ref b=>qgQ (.ref a) (.ref b) H Q∨qfF K (.ref a) (.ref b) H Q
 | _,_=>False
theorem u_add:OpR X (binaryOp .Add) (qej X.K):=by
 intro pins s σ H x y v u Q I rx ry h
 cases x with
 | int i=>cases y with
  | int j=>exact op_add pins s σ H _ _ v u Q I rx ry ⟨i,j,rfl,rfl,h⟩
  | _=>exact False.elim h
 | str i=>cases y with
  | str j=>exact op_add_str pins s σ H _ _ v u Q I rx ry ⟨i,j,rfl,rfl,h.1,h.2⟩
  | _=>exact False.elim h
 | ref a=>cases y with
  | ref b=>exact h.elim (fun h=>op_cat pins s σ H _ _ v u Q I rx ry h) fun h=>op_catT pins s σ H _ _ v u Q I rx ry h
  | _=>exact False.elim h
 | _=>exact False.elim h
def qb9 (K:PySem.W.Frag):List V→Hp→VK→Prop:=fun xs H Q=>match xs with
 | [.str z]=>z.length≤sizeLine∧Q (.int z.length) H
 | [.ref p]=>(∃ ys,(SqL K H p ys∨SqT K H p ys)∧Q (.int ys.length) H)∨∃ kvs,H p=some (.dK kvs)∧Q (.int kvs.length) H
 | _=>False
theorem call_lenU:zM X (.builtin "len") (qb9 X.K):=by
 intro pins s σ H xs us Q I r h
 match xs,h with
 | [.str z],h=>exact call_len_str pins s σ H _ us Q I r ⟨z,rfl,h.1,h.2⟩
 | [.ref p],.inl ⟨ys,h,q⟩=>exact call_len_seq pins s σ H _ us Q I r ⟨p,ys,rfl,h,q⟩
 | [.ref p],.inr ⟨kvs,h,q⟩=>exact call_lenD pins s σ H _ us Q I r ⟨p,kvs,rfl,h,q⟩
theorem sl_str:SlR X (fun x lo hi H Q=>∃ z,x=.str z∧z.length≤sizeLine∧Q (.str (Txt.slice z lo hi)) H):=by
 intro pins s σ H x v vl vu lo hi sl Q I rx hs pl pu h
 obtain ⟨z,rfl,hz,q⟩:=h
 obtain ⟨t,rfl⟩:=rx
 refine ⟨"str",_,F.slot_str_getitem.lookup,typeIs_str _ _ _,?_⟩
 cases pl with
 | none =>
  cases pu with
  | none=>exact wpAny_getItem_str_slice (l:=none) (u:=none) (st:=none) hs rfl (post_val_or_str ⟨Nat.le_trans (Txt.slice_le z _ _) hz,fun t' k=>⟨.str _,H,I.tok _,⟨_,rfl⟩,q⟩⟩)
  | int j uj=>exact wpAny_getItem_str_slice (l:=none) (u:=some (j,uj)) (st:=none) hs rfl (post_val_or_str ⟨Nat.le_trans (Txt.slice_le z _ _) hz,fun t' k=>⟨.str _,H,I.tok _,⟨_,rfl⟩,q⟩⟩)
 | int i ui =>
  cases pu with
  | none=>exact wpAny_getItem_str_slice (l:=some (i,ui)) (u:=none) (st:=none) hs rfl (post_val_or_str ⟨Nat.le_trans (Txt.slice_le z _ _) hz,fun t' k=>⟨.str _,H,I.tok _,⟨_,rfl⟩,q⟩⟩)
  | int j uj=>exact wpAny_getItem_str_slice (l:=some (i,ui)) (u:=some (j,uj)) (st:=none) hs rfl (post_val_or_str ⟨Nat.le_trans (Txt.slice_le z _ _) hz,fun t' k=>⟨.str _,H,I.tok _,⟨_,rfl⟩,q⟩⟩)
def qgo (K:PySem.W.Frag):V→Option Int→Option Int→Hp→VK→Prop:=fun x lo hi H Q=>match x with
 | .str z=>z.length≤sizeLine∧Q (.str (Txt.slice z lo hi)) H
 | .ref a=>qgO K (.ref a) lo hi H Q∨qgK K (.ref a) lo hi H Q
 | _=>False
theorem u_sl:SlR X (qgo X.K):=by
 intro pins s σ H x v vl vu lo hi sl Q I rx hs pl pu h
 cases x with
 | str z=>exact sl_str pins s σ H _ v vl vu lo hi sl Q I rx hs pl pu ⟨z,rfl,h.1,h.2⟩
 | ref a=>exact h.elim (fun h=>sl_list pins s σ H _ v vl vu lo hi sl Q I rx hs pl pu h) fun h=>sl_tup pins s σ H _ v vl vu lo hi sl Q I rx hs pl pu h
 | _=>exact False.elim h
def qgp (K:PySem.W.Frag) (te:TE):TI:=fun σ H R=>te σ H fun v H1=>match v with
 | .str x=>R (Its x) H1
 | .ref a=>((∃ xs,SqL K H1 a xs)∧R (Itl K a) H1)∨((∃ xs,SqT K H1 a xs)∧R (Itt K a) H1)
 | _=>False
theorem pi_any {tg e:Expr} {te:TE} (he:PE X e te) (htg:∀ it v,letOwnedTupleGo tg it v=pure ():=by intro _ _;rfl):PI X tg e (qgp X.K te):=by
 intro pins s σ H R I h
 refine thn (he pins s σ H _ I h) fun v s1 ⟨y,H1,I1,r1,q1⟩=>?_
 cases y with
 | str x =>
  obtain ⟨t,rfl⟩:=r1
  have fp:∀ b∈[s1.heap.objs.size],qcw X pins H1 b:=fun b hb=>by
   have e:b=s1.heap.objs.size:=by simpa using hb
   subst e
   exact I1.fpOk (Nat.le_refl _) (I1.hok.fresh (Nat.le_refl _))
  cases ha:x.cps.all (· < 128)
  ·exact wpAny_pyIter_wide ha ⟨s1.heap.objs.size,[s1.heap.objs.size],_,_,H1,rfl,I1.kept (t':=s1.toks) fun b o e=>Heap.get?_push_of_some _ e,
    qcX (T:="str_iterator") (fun A hA=>Walks.strWide hA _ x t) (fun A i s Q E st h=>wpAny_pyIter_striter_wide st h) (htg _),⟨_,Heap.get?_push_size _ rfl,rfl,rfl⟩,fp,q1⟩
  ·exact wpAny_pyIter_ascii ha ⟨s1.heap.objs.size,[s1.heap.objs.size],_,_,H1,rfl,I1.kept (t':=s1.toks) fun b o e=>Heap.get?_push_of_some _ e,
    qcX (T:="str_ascii_iterator") (fun A hA=>Walks.strAscii hA _ x t) (fun A i s Q E st h=>wpAny_pyIter_striter_ascii st h) (htg _),⟨_,Heap.get?_push_size _ rfl,rfl,rfl⟩,fp,q1⟩
 | ref a =>
  cases r1
  have fp:∀ b∈[s1.heap.objs.size],qcw X pins H1 b:=fun b hb=>by
   have e:b=s1.heap.objs.size:=by simpa using hb
   subst e
   exact I1.fpOk (Nat.le_refl _) (I1.hok.fresh (Nat.le_refl _))
  rcases q1 with ⟨⟨xs,hq⟩,q⟩ | ⟨⟨xs,hq⟩,q⟩
  ·obtain ⟨its,rv,p,hz⟩:=I1.list hq
   exact wpAny_pyIter_list p.isList ⟨s1.heap.objs.size,[s1.heap.objs.size],_,_,H1,rfl,I1.kept (t':=s1.toks) fun b o e=>Heap.get?_push_of_some _ e,qbV a _,⟨_,Heap.get?_push_size _ rfl,rfl,rfl⟩,fp,q⟩
  ·obtain ⟨its,rv,p,hz⟩:=I1.tuple hq
   exact wpAny_pyIter_tuple (show s1.heap.IsTuple a its.toArray from p) ⟨s1.heap.objs.size,[s1.heap.objs.size],_,_,H1,rfl,I1.kept (t':=s1.toks) fun b o e=>Heap.get?_push_of_some _ e,turn_tuple a _,⟨_,Heap.get?_push_size _ rfl,rfl,rfl⟩,fp,q⟩
 | _=>exact False.elim q1
end
end L2
namespace L2
open PySem PySem.Spec PyProof.Rows
section
variable {D:Ends} {σ:St} {H:Hp} {Q:VK} {QT:Bool→Hp→Prop} {QA:List V→Hp→Prop} {t u:TS} {te ta tb tc:TE} {c c':TT} {tr tas:TA} {r r':R2} {K:PySem.W.Frag}
theorem vSeq (h:t { D with nx:=u D } σ H):qfy t u D σ H:=h
theorem vAsg {i:Nat} (h:te σ H fun x H1=>D.nx (σ.set i (some x)) H1):qe5 te (qbo i) D σ H:=h
theorem vAsgS {to ti:TE} {s:qfz} (h:te σ H fun x H1=>to σ H1 fun o H2=>ti σ H2 fun i H3=>s o i x H3 fun H4=>D.nx σ H4):qe5 te (qgF to ti s) D σ H:=h
theorem vIfS (h:c σ H fun b H1=>if b=true then t D σ H1 else u D σ H1):qgg c t u D σ H:=h
theorem vRet (h:te σ H D.rt):qf4 te D σ H:=h
theorem vRetN (h:D.rt .non H):tRetN D σ H:=h
theorem vDrop (h:te σ H fun _ H1=>D.nx σ H1):qef te D σ H:=h
theorem vNext (h:D.nx σ H):qe3 D σ H:=h
theorem vC {v:V} (h:Q v H):tC v σ H Q:=h
theorem vVar {i:Nat} {v:V} (e:σ[i]?=some (some v)) (h:Q v H):qbr i σ H Q:=⟨v,e,h⟩
theorem vOp (h:ta σ H fun x H1=>tb σ H1 fun y H2=>r x y H2 Q):tOp r ta tb σ H Q:=h
theorem vUn {f:V→Hp→VK→Prop} (h:ta σ H fun x H1=>f x H1 Q):tUn f ta σ H Q:=h
theorem vChain (h:ta σ H fun x H1=>tb σ H1 fun y H2=>r x y H2 fun z H3=>∃ k,z=.bl k∧if k=true then tc σ H3 fun z2 H4=>r' y z2 H4 Q else Q (.bl false) H3):qdE r r' ta tb tc σ H Q:=h
theorem vNil (h:QA [] H):qdB σ H QA:=h
theorem vCons (h:ta σ H fun x H1=>tr σ H1 fun xs H2=>QA (x::xs) H2):j6 ta tr σ H QA:=h
theorem vCB {f:List V→Hp→VK→Prop} (h:tas σ H fun vs H1=>f vs H1 Q):tCB f tas σ H Q:=h
theorem vCall {sp:Sp} {E:XK} (h:tas σ H fun vs H1=>sp (vs++[]) H1 Q E):qcx sp [] E tas σ H Q:=h
theorem vLst (h:tas σ H fun xs H1=>xs.length≤sizeLine∧∀ p,H1 p=none→Q (.ref p) (upd H1 p (.lst xs))):qgj tas σ H Q:=h
theorem vTup (h:tas σ H fun xs H1=>xs.length≤sizeLine∧∀ p,H1 p=none→Q (.ref p) (upd H1 p (.tup xs))):qgJ tas σ H Q:=h
theorem vTest (h:te σ H fun x H'=>∃ k,x=.bl k∧QT k H'):qeg te σ H QT:=h
theorem vB (h:te σ H fun x H'=>∃ k,x=.bl k∧QT k H'):tB te σ H QT:=h
theorem vNot (h:c σ H fun b H1=>QT (!b) H1):qgC c σ H QT:=h
theorem vAnd (h:c σ H fun b H1=>if b=true then c' σ H1 QT else QT false H1):qgB c c' σ H QT:=h
theorem vOr (h:c σ H fun b H1=>if b=true then QT true H1 else c' σ H1 QT):tOr c c' σ H QT:=h
theorem vAndV (h:ta σ H fun x H1=>∃ k,x=.bl k∧if k=true then tb σ H1 Q else Q (.bl false) H1):qe2 ta tb σ H Q:=h
theorem vOrV (h:ta σ H fun x H1=>∃ k,x=.bl k∧if k=true then Q (.bl true) H1 else tb σ H1 Q):qgD ta tb σ H Q:=h
theorem vNotV (h:ta σ H fun x H1=>∃ k,x=.bl k∧Q (.bl (!k)) H1):qfx ta σ H Q:=h
theorem vIf (h:c σ H fun b H1=>if b=true then ta σ H1 Q else tb σ H1 Q):tIf c ta tb σ H Q:=h
theorem vYes (h:QT true H):qgS σ H QT:=h
theorem vI0 {g:Int→Int→V} {i j:Int} (h:Q (g i j) H):rI0 g (.int i) (.int j) H Q:=⟨i,j,rfl,rfl,h⟩
theorem vI {C:Int→Int→Prop} {g:Int→Int→V} {i j:Int} (hc:C i j) (h:Q (g i j) H):rI C g (.int i) (.int j) H Q:=⟨i,j,rfl,rfl,hc,h⟩
theorem vU {g:Int→V} {i:Int} (h:Q (g i) H):rU g (.int i) H Q:=⟨i,rfl,h⟩
theorem vEqI {i j:Int} (h:Q (.bl (decide (i=j))) H):rEq (.int i) (.int j) H Q:=⟨rfl,by
 have e:decide (V.int i=V.int j)=decide (i=j):=by
  by_cases h:i=j
  ·subst h;simp
  ·rw [decide_eq_false h,decide_eq_false (fun e=>h (V.int.inj e))]
 rw [e];exact h⟩
theorem vEqB {i j:Bool} (h:Q (.bl (i==j)) H):rEq (.bl i) (.bl j) H Q:=⟨rfl,by rw [dec_bl];exact h⟩
theorem qaC {p:Addr} {xs:List V} {i:Int} {v:V} (hp:H p=some (.lst xs)) (ha:atI xs i=some v) (h:Q v H):rIx K (.ref p) (.int i) H Q:=.inl ⟨p,xs,i,v,rfl,rfl,SqL.of hp,ha,h⟩
theorem vIxLs {p:Addr} {xs:List V} {i:Int} {v:V} (hp:SqL K H p xs) (ha:atI xs i=some v) (h:Q v H):rIx K (.ref p) (.int i) H Q:=.inl ⟨p,xs,i,v,rfl,rfl,hp,ha,h⟩
theorem qft {p:Addr} {xs:List V} {i:Int} {v:V} (hp:H p=some (.tup xs)) (ha:atI xs i=some v) (h:Q v H):rIx K (.ref p) (.int i) H Q:=.inr (.inl ⟨p,xs,i,v,rfl,rfl,SqT.of hp,ha,h⟩)
theorem qgU {z:Str} {i:Int} {ch:Nat} (hz:z.length≤sizeLine) (ha:atI z.cps.toList i=some ch) (h:Q (.str ⟨#[ch]⟩) H):rIx K (.str z) (.int i) H Q:=.inr (.inr ⟨z,i,ch,rfl,rfl,hz,ha,h⟩)
theorem qfa {p:Addr} {xs:List V} {k:Int} {v:V} {j:Nat} {QH:Hp→Prop} (hp:H p=some (.lst xs)) (hj:ixN xs.length k=some j) (h:QH (upd H p (.lst (xs.set j v)))):qe8 (.ref p) (.int k) v H QH:=⟨p,xs,k,j,rfl,rfl,hp,hj,h⟩
theorem vEx {k:Bool} {P:Bool→Prop} (h:P k):∃ k',V.bl k=.bl k'∧P k':=⟨k,rfl,h⟩
theorem vLeI {i j:Int} (h:Q (.bl (decide (i≤j))) H):qgn (.int i) (.int j) H Q:=h
theorem vLeS {i j:Str} (h:Q (.bl (!decide (j.cps.toList < i.cps.toList))) H):qgn (.str i) (.str j) H Q:=h
theorem vIsB {i j:Bool} (h:Q (.bl (i==j)) H):rIsU (.bl i) (.bl j) H Q:=h
theorem vAddI {i j:Int} (h:Q (.int (i + j)) H):qej K (.int i) (.int j) H Q:=h
theorem qfJ {i j:Str} (hz:i.length + j.length≤sizeLine) (h:Q (.str (i++j)) H):qej K (.str i) (.str j) H Q:=⟨hz,h⟩
theorem qdv {i j:Int} (hc:CMul i j) (h:Q (.int (i * j)) H):qfI (.int i) (.int j) H Q:=⟨hc,h⟩
theorem vLenS {z:Str} (hz:z.length≤sizeLine) (h:Q (.int z.length) H):qb9 K [.str z] H Q:=⟨hz,h⟩
theorem qaV {p:Addr} {ys:List V} (hp:H p=some (.lst ys)) (h:Q (.int ys.length) H):qb9 K [.ref p] H Q:=.inl ⟨ys,.inl (SqL.of hp),h⟩
theorem vLenLs {p:Addr} {ys:List V} (hp:SqL K H p ys) (h:Q (.int ys.length) H):qb9 K [.ref p] H Q:=.inl ⟨ys,.inl hp,h⟩
theorem qfK {p:Addr} {ys:List V} (hp:H p=some (.tup ys)) (h:Q (.int ys.length) H):qb9 K [.ref p] H Q:=.inl ⟨ys,.inr (SqT.of hp),h⟩
theorem qgV {z:Str} {lo hi:Option Int} (hz:z.length≤sizeLine) (h:Q (.str (Txt.slice z lo hi)) H):qgo K (.str z) lo hi H Q:=⟨hz,h⟩
theorem vSl {f:V→Option Int→Option Int→Hp→VK→Prop} {tl th:TO} (h:te σ H fun x H1=>tl σ H1 fun l H2=>th σ H2 fun u H3=>f x l u H3 Q):tSl f te tl th σ H Q:=h
theorem vNoPart {QO:Option Int→Hp→Prop} (h:QO none H):qdH σ H QO:=h
theorem vPart {QO:Option Int→Hp→Prop} (h:te σ H fun x H1=>∃ i,x=.int i∧QO (some i) H1):qfE te σ H QO:=h
theorem vExI {i:Int} {P:Int→Prop} (h:P i):∃ j,V.int i=.int j∧P j:=⟨i,rfl,h⟩
theorem vBM {T:String} {f:V→List V→Hp→VK→Prop} (h:te σ H fun x H1=>tyV K T x H1∧tas σ H1 fun xs H2=>f x xs H2 Q):tBM K T f te tas σ H Q:=h
theorem vBM0 {T:String} {f:V→List V→Hp→VK→Prop} (h:te σ H fun x H1=>tyV K T x H1∧f x [] H1 Q):qgk K T f te σ H Q:=h
theorem vComp {wi:TI} {g:TG} {nl:Nat} {ixs:List Nat} (h:wi σ H fun J H1=>qdP J g c te (qdC nl ixs σ) H1 Q):qe9 wi g c te nl ixs σ H Q:=h
theorem vFor {wi:TI} {g:TG} (h:wi σ H fun J H1=>∃ W:Nat→Nat→St→Hp→Prop,(∃ m,W 0 m σ H1)∧∀ i m σ H,W i m σ H →
 (J.stop i H∧D.nx σ H)∨(J.go i H∧∃ N:St→Hp→Prop,(∀ σ' H',N σ' H'→∃ m',m' < m∧W (i + 1) m' σ' H')∧∀ x H',J.yld i H x H'→g x σ H' fun σ2 H2=>t { D with nx:=N,ct:=N,bk:=D.nx } σ2 H2)):qgG wi g t D σ H:=h
theorem vRng1 {R:It→Hp→Prop} (h:tas σ H fun vs H1=>∃ j:Int,vs=[.int j]∧-(2 ^ 62)≤j∧j < 2 ^ 62∧R (Itr 0 j.toNat) H1):qfA tas σ H R:=h
theorem vAny {R:It→Hp→Prop} (h:te σ H fun v H1=>match v with
 | .str x=>R (Its x) H1
 | .ref a=>((∃ xs,SqL K H1 a xs)∧R (Itl K a) H1)∨((∃ xs,SqT K H1 a xs)∧R (Itt K a) H1)
 | _=>False):qgp K te σ H R:=h
theorem vGN {i:Nat} {v:V} {QS:St→Hp→Prop} (h:QS (σ.set i (some v)) H):qbo i v σ H QS:=h
end
section
variable {X:Cx} {K:PySem.W.Frag} {o e:Expr} {es:List Expr} {to ta:TE} {t:TA} {name f:Str} {apos cpos pos:Pos} {T id:String} {r:V→List V→Hp→VK→Prop} {tg:Expr}
theorem zC (hK:X.K=K):zM X (.builtin "len") (qb9 K):=by subst hK;exact call_lenU
theorem k_all (hK:X.K=K) (hc:X.calm=true):zM X (.builtin "all") (qgT K):=by subst hK;exact call_all hc
theorem qfu (hK:X.K=K):SlR X (qgo K):=by subst hK;exact u_sl
theorem qaa (hK:X.K=K):OpR X (binaryOp .Add) (qej K):=by subst hK;exact u_add
theorem j7 (hK:X.K=K) (he:PE X e ta) (htg:∀ it v,letOwnedTupleGo tg it v=pure ():=by intro _ _;rfl):PI X tg e (qgp K ta):=by subst hK;exact pi_any he htg
theorem qfb (hK:X.K=K) (pa:PlainAttrs T) (slot:Slot T name id) (hty:typeOf (.builtin id)=pure (.type "method_descriptor")) (hm:MtR X id r) (ho:PE X o to)
  (hbase:attributeBase o name X.env (eval o X.env)=eval o X.env:=by rfl) (hline:(apos.endLine==cpos.line)=true:=by rfl):PE X (.Call (.Attribute o name apos) [] [] cpos) (qgk K T r to):=by
 subst hK
 exact pe_bm0 pa slot hty hm ho hbase hline
theorem qdQ (hK:X.K=K) (pa:PlainAttrs T) (slot:Slot T name id) (hty:typeOf (.builtin id)=pure (.type "method_descriptor")) (hm:MtR X id r) (ho:PE X o to) (ha:PA X (e::es) t)
  (hbase:attributeBase o name X.env (eval o X.env)=eval o X.env:=by rfl)
  (hfew:((backTo cpos (starEach (e::es) X.env)).all (fun x=>!x.1)&&(backToKw cpos (keywordEach [] X.env)).all (fun x=>x.1.isSome)
   && decide ((e::es).length + ([]:List Keyword).length + (if ([]:List Keyword).isEmpty then 0 else 1) < 30))=true:=by rfl)
  (hline:(apos.endLine==cpos.line)=true:=by rfl) (hs:starEach (e::es) X.env=(false,eval e X.env)::starEach es X.env:=by rfl) (hplain:(backTo cpos (starEach es X.env)).any (·.1)=false:=by rfl) :
  PE X (.Call (.Attribute o name apos) (e::es) [] cpos) (tBM K T r to t):=by
 subst hK
 exact pe_bm pa slot hty hm ho ha hbase hfew hline hs hplain
end
structure DefOk (P:Program) (w:World) (K:PySem.W.Frag) (mg:Str→Option Value) (base:Heap) (CX:CXT) (k:Nat) (x:Str) (ps:List Str) (sp:Sp):Prop where
 ex:∃ f fd,FnOk P w K mg base CX k f fd ps sp∧mg x=some (.ref f)∧PySem.W.keepIn K (.ref f)=true∧Binds K fd ps []
section
variable {X:Cx} {CX:CXT} {k:Nat} {ps:List Str} {sp:Sp} {E:XK} {x:Str} {p pos:Pos} {e:Expr} {es:List Expr} {t:TA}
theorem qq (D:DefOk X.prog X.w X.K X.mg X.base CX k x ps sp) (hr:Room k X.A) (hx:qac CX X E) (ha:PA X (e::es) t) (hg:Gl X x:=by rfl) (hdb:(x==("__debug__":Str))=false:=by decide)
  (he:starEach (e::es) X.env=(false,eval e X.env)::starEach es X.env:=by rfl) (hpl:(backTo pos (starEach es X.env)).any (·.1)=false:=by rfl):PE X (.Call (.Name x p) (e::es) [] pos) (qcx sp [] E t):=by
 obtain ⟨f,fd,F,hm,hk,hb⟩:=D.ex
 exact pe_call F hr hg hm hk hb .nil hx ha hdb he hpl
theorem qaD {i:Int} (hg:Gl X x) (hm:∃ tk,X.mg x=some (.int i tk)) (hd:(x==("__debug__":Str))=false:=by decide):PE X (.Name x pos) (tC (.int i)):=by
 obtain ⟨tk,hm⟩:=hm
 exact qcv hg hm ⟨tk,rfl⟩ hd
end
def qca (t c:String):Bool:=t==c||(t=="bool"&&c=="int")
theorem j8 (K:PySem.W.Frag):∀ t∈["NoneType", "bool", "int", "str", "list", "tuple", "dict"],∀ c∈["bool", "int", "str", "list", "tuple", "dict"],PySem.W.kitOne K (.type t) (.type c)=some (qca t c):=by
 intro t ht c hc
 simp only [List.mem_cons,List.not_mem_nil,or_false] at ht hc
 rcases ht with rfl | rfl | rfl | rfl | rfl | rfl | rfl<;>rcases hc with rfl | rfl | rfl | rfl | rfl | rfl<;>rfl
end L2
namespace L2
open PySem PySem.Spec PyProof.Rows
def qbS:List Value→Bool
 | [.type a,.type b,.type c,.type d]=>a=="ValueError"&&b=="Exception"&&c=="BaseException"&&d=="object"
 | .ref _::r=>qbS r
 | _=>false
def qf8 (K:PySem.W.Frag) (C:Addr):Bool:=match K.lookup C with
 | some ⟨.type "type",_,.cls cd,sl⟩=>(match cd.mro,sl.toList with
  | .ref D::bm,[_,_,_,_,some (.builtin n),_]=>D==C&&!cd.hasDel&&qbS bm&&n=="ValueError.__new__"
  | _,_=>false)
 | _=>false
theorem qcZ {K:PySem.W.Frag} {h:Heap} {C:Addr} (X:K.In h) (q:qf8 K C=true):∃ nm qn N bs bm hdct sn sub ab col dd k0 k1 k2 k3 k5,
  h.get? C=some (excClassObj nm qn C N bs bm hdct sn sub ab col dd k0 k1 k2 k3 k5 "ValueError.__new__")∧qbS bm=true:=by
 unfold qf8 at q
 split at q
 ·rename_i dd cd sl ho
  split at q
  ·rename_i D bm k0 k1 k2 k3 n k5 hm hs
   simp only [Bool.and_eq_true,beq_iff_eq,Bool.not_eq_true'] at q
   obtain ⟨⟨⟨e1,e2⟩,e3⟩,e4⟩:=q
   subst e1 e4
   obtain ⟨nm,bs,mro,ns,qn,hd,sn,sub,ab,col,del⟩:=cd
   dsimp only at hm e2
   subst hm e2
   obtain ⟨l⟩:=sl
   dsimp only at hs
   subst hs
   exact ⟨nm,qn,ns,bs,bm,hd,sn,sub,ab,col,dd,k0,k1,k2,k3,k5,X _ _ ho,e3⟩
  ·cases q
 ·cases q
structure XAt (K:PySem.W.Frag) (C:Addr):Prop where
 ga:PySem.W.findIn K (.ref C) "__getattribute__"=some (some (.builtin "BaseException.__getattribute__"))
 gn:PySem.W.findIn K (.ref C) "__getattr__"=some none
 bx:PySem.W.mroIn K C (.type "BaseException")=some true
 ob:PySem.W.mroIn K C (.type "object")=some true
 hd:PySem.W.hasDictIn K C=true
 cl:PySem.W.findIn K (.ref C) "__class__"=some (some (.builtin "object.__class__"))
 cg:PySem.W.specialIn K (.builtin "object.__class__") "__get__"=some (some (.builtin "getset_descriptor.__get__"))
 ct:PySem.W.takesIn K (.builtin "object.__class__")=some true
 sa:PySem.W.findIn K (.ref C) "__setattr__"=some (some (.builtin "object.__setattr__"))
 mr:(PySem.W.clsIn K C).any (fun cd=>qbS cd.mro)=true
 xc:qf8 K C=true
theorem bexc_ga_slot:Slot "ValueError" "__getattribute__" "BaseException.__getattribute__":=PySem.F.attr_ValueError.ga
section
variable {prog:Program} {w:World} {A:Around} {E:Value→Shared→Prop} {s:Shared} {K:PySem.W.Frag} {x C:Addr} {ox:Obj} {od:Option Obj} {name:Str} {v:Value}
theorem xga_value {tk:Tok} {Q:Fin→Shared→Prop} (X:K.In s.heap) (I:PySem.W.InstAt s.heap x ox C od) (hf:PySem.W.findObj K C od name=some (.value v)) (h:Q (.done (.ret v)) s) :
  wpAny (model prog w) A (Builtin.«object.__getattribute__» ⟨[.ref x,.str name tk],[]⟩) Q E s:=by
 have F:=PySem.W.looks_find (M:=model prog w) X I hf
 refine wpAny_bind (wpAny_pure (wpAny_bind (wpAny_pure (wpAny_bind (I.type.here (wpAny_bind (F.here ?_)))))))
 exact wpAny_pure h
theorem xga_call {tk:Tok} {R:Result→Shared→Prop} (X:K.In s.heap) (I:PySem.W.InstAt s.heap x ox C od) (hb:PySem.W.mroIn K C (.type "BaseException")=some true)
  (h:wpAny (model prog w) A.in1 (Builtin.«object.__getattribute__» ⟨[.ref x,.str name tk],[]⟩) (fun fin s'=>match fin with | .done f=>R (.ok f) s' | .again c'=>c'.quiet=true∧codeAny (model prog w) A c' R s') (fun e s'=>R (.error e) s') s) :
  codeAny (model prog w) A (.call (.builtin "BaseException.__getattribute__") ⟨[.ref x,.str name tk],[]⟩) R s:=by
 refine codeAny_call_builtin bexc_ga_slot.plain PySem.F.entry_bexc_ga ?_
 exact @PySem.W.check_slot (model prog w) _ _ s "BaseException.__getattribute__" "BaseException" "__getattribute__" (.ref x) [.str name tk] [] _ (by decide +kernel) (by decide +kernel) (I.type.andThen (PySem.W.looks_mroIn X hb)) (PySem.F.args_bexc_ga _ _) h
theorem qdR {fill expr:Bool} {tk:Tok} {Q:Value→Shared→Prop} (X:K.In s.heap) (I:PySem.W.InstAt s.heap x ox C od) (c:XAt K C)
  (h:wpAny (model prog w) A.in1 (Builtin.«object.__getattribute__» ⟨[.ref x,.str name tk],[]⟩) (fun fin s'=>match fin with | .done (.ret v)=>wpAny (model prog w) A (handedOut v) Q E s' | _=>False) (fun _ _=>False) s) :
  wpAny (model prog w) A (getAttrBy (.ref x) (.str name tk) fill expr) Q E s:=by
 unfold getAttrBy
 refine wpAny_holding (wpAny_bind (I.type.here (wpAny_bind ((PySem.W.looks_findIn X c.ga).here ?_))))
 have e1:(onTheHeap (Value.ref C)&&Value.builtin "BaseException.__getattribute__"==Value.builtin "object.__getattribute__")=false:=by
  rw [show (Value.builtin "BaseException.__getattribute__"==Value.builtin "object.__getattribute__")=false by decide +kernel]
  rfl
 dsimp only
 rw [e1,if_neg (by decide)]
 unfold getAttrByItsOwn hookBefore
 rw [if_pos (show onTheHeap (Value.ref C)=true from rfl)]
 refine wpAny_bind ((PySem.W.looks_findIn X c.gn).here (wpAny_bind (wpAny_attempt (wpAny_holding ?_))))
 have e2:(expr&&onTheHeap (Value.builtin "BaseException.__getattribute__"))=false:=by cases expr<;>rfl
 unfold callGetattribute
 rw [e2,if_neg (by decide)]
 unfold boundAndCalled
 rw [bexc_ga_slot.bind]
 refine wpAny_bind (wpAny_pure ?_)
 show wpAny _ _ (call (.builtin "BaseException.__getattribute__") [.ref x,.str name tk]) _ _ _
 refine wpAny_call (xga_call X I c.bx (wpAny_mono h (fun fin s' z=>?_) fun _ _ z=>z.elim))
 rcases fin with (_ | _ | _ | _) | _<;>first | exact z | exact z.elim
theorem xget {expr:Bool} {Q:Value→Shared→Prop} (X:K.In s.heap) (I:PySem.W.InstAt s.heap x ox C od) (c:XAt K C) (hf:PySem.W.findObj K C od name=some (.value v)) (hh:PySem.W.handedIn v=true)
  (h:Q v { s with toks:=s.toks + 1 }):wpAny (model prog w) A (getAttr (.ref x) name expr) Q E s:=by
 unfold getAttr
 refine wpAny_bind (wpAny_mkText (qdR (s:={ s with toks:=s.toks + 1 }) X I c (xga_value (s:={ s with toks:=s.toks + 1 }) X I hf ?_)))
 show wpAny _ _ (handedOut v) _ _ _
 rw [PySem.W.handedOut_of hh]
 exact wpAny_pure h
theorem xclass {Q:Option Value→Shared→Prop} (X:K.In s.heap) (I:PySem.W.InstAt s.heap x ox C od) (c:XAt K C) (hf:PySem.W.findObj K C od "__class__"=some (.bind (.builtin "getset_descriptor.__get__") (.builtin "object.__class__")))
  (h:Q (some (.ref C)) { s with toks:=s.toks + 1 }):wpAny (model prog w) A (getAttr? (.ref x) "__class__") Q E s:=by
 unfold getAttr? getAttrBy?
 refine wpAny_bind (wpAny_mkText (wpAny_bind (wpAny_attempt (qdR (s:={ s with toks:=s.toks + 1 }) X I c ?_))))
 have F:=PySem.W.looks_find (M:=model prog w) X I hf
 refine wpAny_bind (wpAny_pure (wpAny_bind (wpAny_pure (wpAny_bind (I.type.here (s:={ s with toks:=s.toks + 1 }) (wpAny_bind (F.here (s:={ s with toks:=s.toks + 1 }) ?_)))))))
 show wpAny _ _ (holding [Value.builtin "object.__class__"] (call (.builtin "getset_descriptor.__get__") [.builtin "object.__class__",.ref x,.ref C])>>=ret) _ _ _
 refine wpAny_bind (wpAny_holding (wpAny_call (PySem.W.class_get (s:={ s with toks:=s.toks + 1 }) X I c.ob ?_)))
 refine wpAny_pure ?_
 show wpAny _ _ (handedOut (.ref C)) _ _ _
 exact wpAny_pure (wpAny_pure h)
theorem findObj_class (c:XAt K C):PySem.W.findObj K C od "__class__"=some (.bind (.builtin "getset_descriptor.__get__") (.builtin "object.__class__")):=by
 obtain ⟨cd,hc,_⟩:=PySem.W.any_some c.hd
 unfold PySem.W.findObj
 rw [hc,Option.bind_some,c.cl,Option.bind_some]
 simp [c.cg,c.ct]
theorem qc0 {od:Option Obj} (c:XAt K C):PySem.W.KitX K (.ref x) (.ref C) (fun h=>PySem.W.InstAt h x ox C od) where
 ty:=fun _ _ _ I=>I.type
 it:=fun _ _ X _=>by
  obtain ⟨cd,hc,_⟩:=PySem.W.any_some c.hd
  unfold PySem.W.clsIn at hc
  split at hc
  ·rename_i c1 d1 cd1 sl1 ho
   intro A' Q' E' s' k q
   unfold isType loadHead
   exact wpAny_bind (wpAny_loadPart (k _ _ (X _ _ ho)) (wpAny_pure q))
  ·cases hc
 ne:=fun h tp dd its n sl X htp=>by
  obtain ⟨cd,hc,_⟩:=PySem.W.any_some c.hd
  refine Bool.eq_false_iff.mpr fun q=>?_
  have e:C=tp:=Value.ref.inj (beq_iff_eq.mp q)
  subst e
  unfold PySem.W.clsIn at hc
  split at hc
  ·rename_i c1 d1 cd1 sl1 ho
   have z:=(X _ _ ho).symm.trans htp
   cases z
  ·cases hc
 ca:=fun X I k=>xclass X I c (findObj_class c) k
end
end L2
namespace L2
open PySem PySem.Spec PyProof.Rows
theorem qcb {c:Addr} {r:List Value} (e:qbS (.ref c::r)=true):qbS r=true:=by
 cases r with
 | nil=>cases e
 | cons a r=>exact e
theorem qaE:∀ {l:List Value},qbS l=true→∃ rs:List Addr,l=rs.map Value.ref++[.type "ValueError",.type "Exception",.type "BaseException",.type "object"]
 | [],e=>by cases e
 | .ref c::r,e=>by
  obtain ⟨rs,q⟩:=qaE (qcb e)
  exact ⟨c::rs,by rw [q];rfl⟩
 | .type a::r,e=>by
  match r,e with
  | [.type b,.type c,.type d],e =>
   simp only [qbS,Bool.and_eq_true,beq_iff_eq] at e
   obtain ⟨⟨⟨rfl,rfl⟩,rfl⟩,rfl⟩:=e
   exact ⟨[],rfl⟩
theorem refuse_exc (self:Value) {l:List Value} (e:qbS l=true):refuseLoop self "__setattr__" l=pure ():=by
 obtain ⟨rs,rfl⟩:=qaE e
 induction rs with
 | nil=>exact PySem.F.store_ValueError.passes self
 | cons c rs ih=>rw [List.map_cons,List.cons_append,refuseLoop_ref];exact ih (qcb e)
theorem qaF {l:List Value} (e:qbS l=true) {T:String} (h:T∈["ValueError", "Exception", "BaseException", "object"]):l.contains (.type T)=true:=by
 obtain ⟨rs,rfl⟩:=qaE e
 rw [List.contains_iff_mem]
 refine List.mem_append_right _ ?_
 simp only [List.mem_cons,List.not_mem_nil,or_false] at h ⊢
 rcases h with rfl | rfl | rfl | rfl<;>simp
section
variable {prog:Program} {w:World} {A:Around} {E:Value→Shared→Prop} {s:Shared} {K:PySem.W.Frag} {x C:Addr} {name:Str} {v:Value} {R:Result→Shared→Prop}
theorem xosa {tk:Tok} {ox:Obj} {od:Option Obj} (X:K.In s.heap) (I:PySem.W.InstAt s.heap x ox C od) (c:XAt K C) (n:NoAttr K C name)
  (h:wpAny (model prog w) A.in1 (Builtin.ObjectAttr.storeInOwnDict (.ref x) (.ref C) (.str name tk) name v false)
   (fun fin s'=>match fin with | .done f=>R (.ok f) s' | .again c'=>c'.quiet=true∧codeAny (model prog w) A c' R s') (fun e s'=>R (.error e) s') s) :
  codeAny (model prog w) A (.call (.builtin "object.__setattr__") ⟨[.ref x,.str name tk,v],[]⟩) R s:=by
 have SF:=PySem.F.store_object
 obtain ⟨cd,hc,ho⟩:=PySem.W.any_some c.mr
 have hm:PySem.W.Looks (model prog w) s.heap (mroOf (.ref C)) cd.mro:=(PySem.W.looks_clsIn X hc).andThen .now
 refine codeAny_call_builtin SF.slot.plain SF.entry (@PySem.W.check_slot (model prog w) _ _ s "object.__setattr__" "object" "__setattr__" (.ref x) [.str name tk,v] [] _ SF.kind SF.split (I.type.andThen (PySem.W.looks_mroIn X c.ob)) (SF.args (.ref x) (.str name tk) v) ?_)
 rw [PySem.W.osa_eq,refuse_eq]
 refine wpAny_bind (wpAny_bind (I.type.here (wpAny_bind (hm.here ?_))))
 rw [refuse_exc _ ho]
 refine wpAny_pure (wpAny_bind (I.type.here (wpAny_bind ((PySem.W.looks_findIn X n).here (wpAny_bind (wpAny_pure ?_))))))
 exact h
theorem xset {vs:Array Value} (X:K.In s.heap) (hx:s.heap.get? x=some ⟨.ref C,none,.fields vs,#[]⟩) (c:XAt K C) (n:NoAttr K C name) {Q:Unit→Shared→Prop}
  (h:∀ h',h'.get? x=some ⟨.ref C,some s.heap.objs.size,.fields vs,#[]⟩→h'.Ns1 s.heap.objs.size (fun y=>if y=name then some v else none)→(∀ b o,b≠x→s.heap.get? b=some o→h'.get? b=some o) →
   Q () { s with heap:=h',toks:=s.toks + 2 }):wpAny (model prog w) A (setAttr (.ref x) name v) Q E s:=by
 have I:PySem.W.InstAt s.heap x ⟨.ref C,none,.fields vs,#[]⟩ C none:=⟨hx,rfl,rfl,True.intro⟩
 obtain ⟨cd,hc,hd⟩:=PySem.W.any_some c.hd
 refine PySem.W.set_plain X I c.sa (xosa (s:={ s with toks:=s.toks + 1 }) X I c n ?_)
 refine wpAny_bind (wpAny_pure (wpAny_bind (wpAny_bind (wpAny_loadPart hx (wpAny_bind ((PySem.W.looks_clsIn X hc).here (s:={ s with toks:=s.toks + 1 }) ?_))))))
 rw [hd]
 obtain ⟨hh,g,dr,tk,os⟩:=s
 show wpAny _ _ (alloc { cls:=.type "dict",data:=.dict #[] }>>=fun d=>update x (fun o=>{ cls:=o.cls,dict:=some d,data:=o.data,slots:=o.slots })>>=fun _=>pure (some d)) _ _ _
 have hxs:x≠hh.objs.size:=Nat.ne_of_lt (Heap.lt_size hx)
 have hx1:=Heap.get?_push_of_some { cls:=.type "dict",data:=.dict #[] } hx
 refine wpAny_bind (wpAny_alloc' (wpAny_bind (wpAny_update' hx1 (wpAny_pure ?_))))
 have hx2:=Heap.get?_update_self (fun o:Obj=>{ cls:=o.cls,dict:=some hh.objs.size,data:=o.data,slots:=o.slots }) hx1 rfl
 have hd2:=(Heap.get?_update_ne (hh.push { cls:=.type "dict",data:=.dict #[] }) hh.objs.size x (fun o:Obj=>{ cls:=o.cls,dict:=some hh.objs.size,data:=o.data,slots:=o.slots }) hxs.symm).trans (Heap.get?_push_at rfl rfl)
 generalize hg:(hh.push { cls:=.type "dict",data:=.dict #[] }).update x (fun o:Obj=>{ cls:=o.cls,dict:=some hh.objs.size,data:=o.data,slots:=o.slots })=h2 at hx2 hd2 ⊢
 have nd:h2.Ns hh.objs.size (fun _=>none):=⟨_,#[],_,hd2,rfl,fun e he=>absurd he (by simp),fun _=>rfl⟩
 show wpAny _ _ (Builtin.ObjectAttr.storeInDict hh.objs.size (.str name tk) name v) _ _ _
 unfold Builtin.ObjectAttr.storeInDict Builtin.ObjectAttr.newKeyGuard
 refine wpAny_bind (wpAny_pure (wpAny_bind (wpAny_nsSet1 (Heap.Ns1.of_empty nd) fun h' n2 sb=>?_)))
 obtain ⟨oD,esD,epD,hoD,hdD,hcD⟩:=n2.count (PySem.Within.cons name v PySem.Within.nil)
 have hz:esD.size≤sizeLine:=Nat.le_trans hcD (by rw [List.length_cons,List.length_nil,sizeLine_eq];omega)
 refine wpAny_bind (wpAny_lookBehind hoD (by rw [hdD];exact pastItsLine_dict (Nat.le_succ_of_le hz)) ?_)
 refine wpAny_pure (h h' ((sb.2 x hxs).trans hx2) n2 fun b o hb e=>(sb.2 b (Nat.ne_of_lt (Heap.lt_size e))).trans ?_)
 rw [← hg]
 exact (Heap.get?_update_ne _ _ _ _ hb).trans (Heap.get?_push_of_some _ e)
theorem ve_check {M:Model} {ox:Obj} {u:Value} {Q:Unit→Shared→Prop} (X:K.In s.heap) (c:XAt K C) (hx:s.heap.get? x=some ox) (hcls:ox.cls=.ref C) (q:Q () s) :
  wpAny M A (checkBuiltinCall "ValueError.__init__" ⟨[.ref x,u],[]⟩) Q E s:=by
 have F:=PySem.F.excBase_ValueError
 have hshort:=F.noStar
 obtain ⟨nm,qn,N,bs,bm,hdct,sn,sub,ab,col,dd,k0,k1,k2,k3,k5,hC,hm⟩:=qcZ X c.xc
 have hcB:(Value.ref C::bm).contains (.type "ValueError")=true:=by rw [List.contains_cons,qaF hm (by simp),Bool.or_true]
 obtain ⟨hh,g,dr,tk,os⟩:=s
 simp only [checkBuiltinCall,F.initKind,F.initSplit,F.initRow]
 repeat (first | (with_reducible refine wpAny_loadPart_at hx ?_;rw [hcls]) | with_reducible refine wpAny_loadPart_at hC ?_ | (with_reducible refine wpAny_isSubtype_exc hC ?_;rw [hcB]) | wp_step)
 exact q
abbrev xfs (a0:Addr):Array Value:=#[.ref a0,.none,.none,.none,.bool false,.none]
theorem xbase_init {a0:Addr} {u:Value} (X:K.In s.heap) (hx:s.heap.get? x=some ⟨.ref C,none,.fields (xfs a0),#[]⟩) (c:XAt K C) {Q:Value→Shared→Prop}
  (h:∀ h' a1,h'.get? x=some ⟨.ref C,none,.fields (xfs a1),#[]⟩→(∀ b o,b≠x→s.heap.get? b=some o→h'.get? b=some o)→Q .none { s with heap:=h' }) :
  wpAny (model prog w) A (call (.builtin "ValueError.__init__") [.ref x,u]) Q E s:=by
 have F:=PySem.F.excBase_ValueError
 refine wpAny_call (codeAny_call_builtin F.init.plain F.initEntry (ve_check X c hx rfl ?_))
 obtain ⟨hh,g,dr,tk,os⟩:=s
 wp_walk
 refine h _ hh.objs.size ?_ fun b o hb e=>?_
 ·rw [Heap.get?_update_self _ (Heap.get?_push_of_some _ hx) rfl]
  rfl
 ·rw [Heap.get?_update_other _ _ (Ne.symm hb)]
  exact Heap.get?_push_of_some _ e
end
end L2
namespace L2
open PySem PySem.Spec PyProof.Rows
theorem qc1 {l:List Value} (e:qbS l=true) {T:String} (h:T∉["ValueError", "Exception", "BaseException", "object"]):l.contains (.type T)=false:=by
 obtain ⟨rs,rfl⟩:=qaE e
 refine Bool.eq_false_iff.mpr fun q=>?_
 rcases List.mem_append.mp (List.contains_iff_mem.mp q) with z | z
 ·obtain ⟨a,_,q⟩:=List.mem_map.mp z
  cases q
 ·simp only [List.mem_cons,List.not_mem_nil,or_false,Value.type.injEq] at z h
  exact h z
section
variable {prog:Program} {w:World} {A:Around} {R:Result→Shared→Prop} {E:Value→Shared→Prop} {h:Heap} {g:Array GenState} {d:Drawn} {t:Nat} {os:OsState}
variable {nm q:Str} {C N:Addr} {bs bm:List Value} {hdct:Bool} {sn:List Str} {sub:List Value} {ab:Bool} {col:Option Bool} {dd:Option Addr} {k0 k1 k2 k3 k5:Option Value}
theorem xnew_check {M:Model} {rest:List Value} {Q:Unit→Shared→Prop} (hC:h.get? C=some (excClassObj nm q C N bs bm hdct sn sub ab col dd k0 k1 k2 k3 k5 "ValueError.__new__")) (hm:qbS bm=true) (hq:Q () ⟨h,g,d,t,os⟩) :
  wpAny M A (checkBuiltinCall "ValueError.__new__" ⟨.ref C::rest,[]⟩) Q E ⟨h,g,d,t,os⟩:=by
 have F:=PySem.F.excBase_ValueError
 have hcont:(Value.ref C::bm).contains (.type "ValueError")=true:=by rw [List.contains_cons,qaF hm (by simp),Bool.or_true]
 have hstar:=F.noStar
 simp only [checkBuiltinCall,F.newKind,F.newSplit,F.newRow]
 repeat (first | refine wpAny_loadPart_at hC ?_ | (refine wpAny_isSubtype_exc hC ?_;rw [hcont]) | refine wpAny_staticBase_exc hC ?_ | refine wpAny_madeBy_exc hC ?_ | simp only [bne_self_eq_false,Bool.false_eq_true,if_false] | wp_step)
 exact hq
theorem xnew {rest:List Value} (hC:h.get? C=some (excClassObj nm q C N bs bm hdct sn sub ab col dd k0 k1 k2 k3 k5 "ValueError.__new__")) (hm:qbS bm=true) (hrest:rest.length≤sizeLine)
  (hq:R (.ok (.ret (.ref (h.objs.size + 1)))) ⟨(h.push { cls:=.type "tuple",data:=.seq rest.toArray }).push { cls:=.ref C,data:=.fields (xfs h.objs.size) },g,d,t,os⟩) :
  codeAny (model prog w) A (.builtin "ValueError.__new__" ⟨.ref C::rest,[]⟩) R ⟨h,g,d,t,os⟩:=by
 have F:=PySem.F.excBase_ValueError
 have hends:=F.ends
 have hcB:(Value.ref C::bm).contains (.type "ValueError")=true:=by rw [List.contains_cons,qaF hm (by simp),Bool.or_true]
 have hcA:(Value.ref C::bm).contains (.type "AttributeError")=false:=by rw [List.contains_cons,qc1 hm (by simp)];rfl
 have hcN:(Value.ref C::bm).contains (.type "NameError")=false:=by rw [List.contains_cons,qc1 hm (by simp)];rfl
 refine codeAny_builtinAt F.entry ?_
 unfold Builtin.«BaseException.__new__»
 refine PySem.wpAt_bind ?_
 show PySem.wpAt _ _ _ (stack>>=_) _ _ _
 refine PySem.wpAt_bind (PySem.wpAt_stack fun p0 below0=>PySem.wpAt_of_wpAny ?_)
 wp_walk
 refine PySem.wpAt_of_wpAny ?_
 rw [F.owner]
 repeat (first | with_reducible refine wpAny_madeHere_exc F.canon hC ?_ | with_reducible refine wpAny_loadPart_at hC ?_ | (with_reducible refine wpAny_isSubtype_exc hC ?_;first | rw [hcB] | rw [hcA] | rw [hcN]) | wp_step)
 show R _ _
 rw [Heap.size_push]
 exact hq
theorem xtype_call {K:PySem.W.Frag} {f:Addr} {rest:List Value} {Q:Fin→Shared→Prop} (X:K.In h) (hC:h.get? C=some (excClassObj nm q C N bs bm hdct sn sub ab col dd k0 k1 k2 k3 k5 "ValueError.__new__")) (hm:qbS bm=true)
  (hi:PySem.W.findIn K (.ref C) "__init__"=some (some (.ref f))) (hf:PySem.W.isFn K (.ref f)=true) (hrest:rest.length≤sizeLine)
  (hq:wpAny (model prog w) A (call (.ref f) (.ref (h.objs.size + 1)::rest)) (fun r s'=>r=.none∧Q (.done (.ret (.ref (h.objs.size + 1)))) s') E
   ⟨(h.push { cls:=.type "tuple",data:=.seq rest.toArray }).push { cls:=.ref C,data:=.fields (xfs h.objs.size) },g,d,t,os⟩) :
  wpAny (model prog w) A (Builtin.«type.__call__» ⟨.ref C::rest,[]⟩) Q E ⟨h,g,d,t,os⟩:=by
 have F:=PySem.F.excBase_ValueError
 repeat (first | with_reducible refine wpAny_loadPart_at hC ?_ | with_reducible refine wpAny_madeBy_exc hC ?_ | wp_step)
 refine codeAny_call_builtin_code (Code.quiet_builtin _ F.quiet) (xnew_check hC hm (xnew hC hm hrest ?_))
 show wpAny _ _ _ _ _ _
 have up:∀ b o,h.get? b=some o→((h.push { cls:=.type "tuple",data:=.seq rest.toArray }).push { cls:=.ref C,data:=.fields (xfs h.objs.size) }).get? b=some o:=fun b o e=>Heap.get?_push_of_some _ (Heap.get?_push_of_some _ e)
 have hC1:=up _ _ hC
 have hget:((h.push { cls:=.type "tuple",data:=.seq rest.toArray }).push { cls:=.ref C,data:=.fields (xfs h.objs.size) }).get? (h.objs.size + 1)=some { cls:=.ref C,data:=.fields (xfs h.objs.size) }:=Heap.get?_push_at (by rw [Heap.size_push]) rfl
 have X1:K.In ((h.push { cls:=.type "tuple",data:=.seq rest.toArray }).push { cls:=.ref C,data:=.fields (xfs h.objs.size) }):=X.keeps up
 have hcC:(Value.ref C::bm).contains (.ref C)=true:=by simp
 unfold isInstance
 repeat (first | with_reducible refine wpAny_loadPart_at hget ?_ | (with_reducible refine wpAny_isSubtype_exc hC1 ?_;rw [hcC]) | wp_step)
 show wpAny _ _ (typeLookup (.ref C) _) _ _ _
 refine (PySem.W.looks_findIn X1 hi).at (wpAny_holding (wpAny_bind ((PySem.W.bind_fn X1 _ (beq_iff_eq.mp hf)).at (wpAny_bind (wpAny_mono hq (fun r s' hr=>?_) fun _ _ z=>z)))))
 obtain ⟨rfl,hQ⟩:=hr
 wp_walk
 exact hQ
theorem xcall {K:PySem.W.Frag} {f:Addr} {rest:List Value} {s:Shared} {Q:Value→Shared→Prop} (X:K.In s.heap) (c:XAt K C) (hi:PySem.W.findIn K (.ref C) "__init__"=some (some (.ref f))) (hf:PySem.W.isFn K (.ref f)=true) (hrest:rest.length≤sizeLine)
  (hq:wpAny (model prog w) (A.under (.builtin "type.__call__" ⟨.ref C::rest,[]⟩)) (call (.ref f) (.ref (s.heap.objs.size + 1)::rest)) (fun r s'=>r=.none∧Q (.ref (s.heap.objs.size + 1)) s') E
   { s with heap:=(s.heap.push { cls:=.type "tuple",data:=.seq rest.toArray }).push { cls:=.ref C,data:=.fields (xfs s.heap.objs.size) } }) :
  wpAny (model prog w) A (call (.ref C) rest) Q E s:=by
 obtain ⟨nm,qn,N,bs,bm,hdct,sn,sub,ab,col,dd,k0,k1,k2,k3,k5,hC,hm⟩:=qcZ X c.xc
 obtain ⟨h,g,d,t,os⟩:=s
 have f1:=tc_lookup
 have f2:=tc_bind (.ref C)
 have hT:(⟨h,g,d,t,os⟩:Shared).TypeIs (.ref C) "type":=⟨_,hC,rfl⟩
 refine wpAny_call (codeAny_of_tree ?_)
 show wpAny _ _ (callAny (.ref C) _) _ _ _
 repeat (any_goals (first | assumption | with_reducible refine wpAny_loadPart_at hC ?_ | wp_step))
 refine ⟨rfl,?_⟩
 exact codeAny_call_builtin_at (Code.quiet_builtin _ (by decide +kernel)) entry_typeCall (wpAny_check_type_call_sub hC (xtype_call X hC hm hi hf hrest hq))
end
end L2
namespace L2
open PySem PySem.Spec PyProof.Rows
def XN (e C:Addr) (dx:Option Addr):HO:=.ext fun h=>∃ a0,h.get? e=some ⟨.ref C,dx,.fields (xfs a0),#[]⟩
def XO (e C:Addr) (dx:Option Addr):HO:=.ext fun h=>∃ vs,h.get? e=some ⟨.ref C,dx,.fields vs,#[]⟩
theorem XN.ok {P:Program} {w:World} {H:Hp} {h:Heap} {e C a0:Addr} {dx:Option Addr} (q:h.get? e=some ⟨.ref C,dx,.fields (xfs a0),#[]⟩):ObjOk P w H h e (XN e C dx):=
 ⟨⟨a0,q⟩,⟨_,q⟩,fun _ _ ⟨a,x⟩ k=>⟨a,k _ x⟩⟩
theorem XO.ok {P:Program} {w:World} {H:Hp} {h:Heap} {e C:Addr} {vs:Array Value} {dx:Option Addr} (q:h.get? e=some ⟨.ref C,dx,.fields vs,#[]⟩):ObjOk P w H h e (XO e C dx):=
 ⟨⟨vs,q⟩,⟨_,q⟩,fun _ _ ⟨a,x⟩ k=>⟨a,k _ x⟩⟩
def IsX (H:Hp) (e C:Addr) (dx:Option Addr):Prop:=H e=some (XN e C dx)∨H e=some (XO e C dx)
theorem IsX.get {P:Program} {w:World} {H:Hp} {h:Heap} {e C:Addr} {dx:Option Addr} (q:IsX H e C dx) (hok:HOk P w H h):∃ vs,h.get? e=some ⟨.ref C,dx,.fields vs,#[]⟩:=by
 rcases q with q | q
 ·obtain ⟨⟨a,x⟩,_⟩:=(show ObjOk P w H h e (XN e C dx) from hok e _ q)
  exact ⟨_,x⟩
 ·obtain ⟨⟨a,x⟩,_⟩:=(show ObjOk P w H h e (XO e C dx) from hok e _ q)
  exact ⟨_,x⟩
theorem upd_id {H:Hp} {a:Addr} {o:HO} (h:H a=some o):upd H a o=H:=by
 funext b
 unfold upd
 split
 ·rename_i e;subst e;exact h.symm
 ·rfl
section
variable {X:Cx} {pins:List (Addr×Obj)} {σ:St} {H:Hp} {s:Shared} {e C:Addr} {dx:Option Addr}
theorem qey (I:Inv X pins σ H s) {d:Addr} {fs:List (Str×V)} (h:H d=some (.xd fs)):∃ (od:Obj) (mA:Str→Option Value),s.heap.get? d=some od∧(∀ name,PySem.W.lookIn name od=some (mA name))∧∀ f,RelO (fs.lookup f) (mA f):=by
 obtain ⟨mA,n,r⟩:=(show ObjOk X.prog X.w H s.heap d (.xd fs) from I.hok d _ h)
 obtain ⟨od,h1,h2⟩:=qbZ n
 exact ⟨od,mA,h1,h2,r⟩
end
section
variable {X:Cx} {pins:List (Addr×Obj)} {σ:St} {H:Hp} {s:Shared} {a d:Addr} {h':Heap} {o u:HO} {t':Nat}
theorem Inv.both (I:Inv X pins σ H s) (mu:Mut (H a)) (hd:s.heap.objs.size≤d) (k:∀ b v,b≠a→s.heap.get? b=some v→h'.get? b=some v) (ha:∃ v,h'.get? a=some v)
  (n1:ObjOk X.prog X.w (upd (upd H d u) a o) h' a o) (n2:ObjOk X.prog X.w (upd (upd H d u) a o) h' d u) (ne:d≠a):Inv X pins σ (upd (upd H d u) a o) { s with heap:=h',toks:=t' }:=by
 have nd:H d=none:=I.hok.fresh hd
 have na:∀ b q,H b=some q→¬ Mut (some q)→b≠a:=fun b q e nm z=>by subst z;rw [e] at mu;exact nm mu
 have nn:∀ b,H b=none→b≠a:=fun b e z=>by subst z;rw [e] at mu;exact mu
 have big:∀ b v,s.heap.get? b=some v→b≠d:=fun b v e=>Nat.ne_of_lt (Nat.lt_of_lt_of_le (Heap.lt_size e) hd)
 have up:∀ b q,H b=some q→b≠a→upd (upd H d u) a o b=some q:=fun b q e n=>by rw [qi n,qi (qC e nd)];exact e
 refine I.un ⟨fun b v e n _ _=>k b v (nn b n) e,fun b v e n _ _=>⟨v.slots,k b v (nn b n) e⟩,fun b v e n _=>by rw [qi (nn b n),qi (big b v e)];exact n,fun b v e _=>?_,fun b xs e=>up b _ e (na b _ e fun z=>z),fun b q xs e=>up b _ e (na b _ e fun z=>z),
  fun b ps e=>⟨#[],by rw [up b _ e (na b _ e fun z=>z)];simp⟩⟩ fun b q e=>?_
 ·by_cases hb:b=a
  ·subst hb;exact ha
  ·exact ⟨v,k b v hb e⟩
 ·by_cases hb:b=a
  ·subst hb
   rw [qd] at e
   cases e
   exact n1
  ·rw [qi hb] at e
   by_cases hbd:b=d
   ·subst hbd
    rw [qd] at e
    cases e
    exact n2
   ·rw [qi hbd] at e
    refine (I.hok b q e).stay (fun c v hc r=>k c v ?_ r) (fun c r=>up c _ r (na c _ r fun z=>z)) fun c xs r=>up c _ r (na c _ r fun z=>z)
    rcases hc with rfl | hc
    ·exact hb
    ·exact na c _ hc fun z=>z
end
def qfL (K:PySem.W.Frag) (ta:TE) (f:Str):TE:=fun σ H Q=>ta σ H fun x H1=>(∃ a C dx fs v,x=.ref a∧H1 a=some (.ins C dx fs)∧Cls K C∧NoAttr K C f∧fs.lookup f=some v∧Q v H1) ∨
 (∃ a C dx fs v,x=.ref a∧IsX H1 a C (some dx)∧XAt K C∧NoAttr K C f∧H1 dx=some (.xd fs)∧fs.lookup f=some v∧Q v H1)
def qfM (K:PySem.W.Frag) (ta tv:TE) (f:Str):TS:=fun D σ H=>tv σ H fun y H1=>ta σ H1 fun x H2=>(∃ a C dx fs,x=.ref a∧H2 a=some (.ins C dx fs)∧Cls K C∧NoAttr K C f∧fs.length < 1000 ∧
  D.nx σ (upd H2 a (.ins C dx (jf f y fs)))) ∨
 (∃ a C,x=.ref a∧H2 a=some (XN a C none)∧XAt K C∧NoAttr K C f∧∀ dx,H2 dx=none→D.nx σ (upd (upd H2 dx (.xd [(f,y)])) a (XN a C (some dx))))
section
variable {X:Cx} {o e value:Expr} {f:Str} {pos pos':Pos} {ta tv:TE} {K:PySem.W.Frag}
theorem qT (hK:X.K=K) (he:PE X e ta) (hb:attributeBase e f X.env (eval e X.env)=eval e X.env):PE X (.Attribute e f pos) (qfL K ta f):=by
 subst hK
 intro pins s σ H Q I h
 refine attr_of hb (thn (he pins s σ H _ I h) fun u s1 ⟨x,H1,I1,rx,hx⟩=>?_)
 rcases hx with ⟨a,C,dx,fs,v,rfl,ea,c,n,l,q⟩ | ⟨a,C,dx,fs,v,rfl,ea,c,n,hd,l,q⟩
 ·obtain rfl:u=Value.ref a:=rx
  exact getattr_ok I1 ea c n l fun u' s2 I2 ru=>⟨v,H1,I2,ru,q⟩
 ·obtain rfl:u=Value.ref a:=rx
  obtain ⟨vs,hx⟩:=ea.get I1.hok
  obtain ⟨od,mA,h1,h2,r⟩:=qey I1 hd
  obtain ⟨u',hu,ru⟩:=RelO.some_of (v:=v) (o:=mA f) (by rw [← l];exact r f)
  exact xget I1.kIn (od:=some od) ⟨hx,rfl,rfl,h1⟩ c (PySem.W.findObj_own c.hd n rfl (by rw [h2,hu])) (qb0 ru) ⟨v,H1,I1.tok _,ru,q⟩
theorem jU (hK:X.K=K) (ha:PE X o ta) (hv:PE X value tv) (hs:swapsWith value (some (.Attribute o f pos')) pos.line X.env=pure false):PS X (.Assign [.Attribute o f pos'] value pos) (qfM K ta tv f):=by
 subst hK
 intro pins s σ H D I h
 refine plainObj_wpAny_Assign_Attribute (thn (hv pins s σ H _ I h) fun u s1 ⟨y,H1,I1,ry,q⟩=>thn (ha pins s1 σ H1 _ I1 q) fun ov s2 ⟨x,H2,I2,rx,hx⟩=>?_) hs
 rcases hx with ⟨a,C,dx,fs,rfl,ea,c,n,l,q2⟩ | ⟨a,C,rfl,ea,c,n,q2⟩
 ·obtain rfl:ov=Value.ref a:=rx
  exact setattr_ok I2 ea c n l ry fun s3 I3=>⟨σ,_,I3,q2⟩
 ·obtain rfl:ov=Value.ref a:=rx
  obtain ⟨⟨a0,hx⟩,_⟩:=(show ObjOk X.prog X.w H2 s2.heap a (XN a C none) from I2.hok a _ ea)
  refine xset I2.kIn hx c n fun h' g1 g2 g3=>?_
  have nd:H2 s2.heap.objs.size=none:=I2.hok.fresh (Nat.le_refl _)
  have ne:s2.heap.objs.size≠a:=Nat.ne_of_gt (Heap.lt_size hx)
  refine ⟨σ,_,I2.both (o:=XN a C (some s2.heap.objs.size)) (u:=.xd [(f,y)]) (by rw [ea];exact True.intro) (Nat.le_refl _) g3 ⟨_,g1⟩ (XN.ok g1) ⟨_,g2,fun g=>?_⟩ ne,q2 _ nd⟩
  by_cases hg:g=f
  ·subst hg
   simp only [List.lookup,beq_self_eq_true,if_true]
   exact ry
  ·have hb:(g==f)=false:=beq_eq_false_iff_ne.mpr hg
   simp only [List.lookup,hb,if_neg hg]
   exact True.intro
end
def qdS (C:Addr) (sp:Sp) (E:XK) (t:TA):TE:=fun σ H Q=>t σ H fun vs H1=>vs.length≤1000∧∀ x,H1 x=none→sp (.ref x::vs) (upd H1 x (XN x C none)) (fun v H2=>v=.non∧Q (.ref x) H2) E
structure XMk (K:PySem.W.Frag) (C f:Addr):Prop where
 at_:XAt K C
 init:PySem.W.findIn K (.ref C) "__init__"=some (some (.ref f))
 fn:PySem.W.isFn K (.ref f)=true
 kp:PySem.W.keepIn K (.ref C)=true
section
variable {X:Cx} {CX:CXT} {k:Nat} {f C:Addr} {fd:FuncData} {ps:List Str} {sp:Sp} {E:XK} {x m:Str} {p pos apos:Pos} {e o:Expr} {es:List Expr} {ta:TE} {t:TA}
theorem run_xmake {pins:List (Addr×Obj)} {σ:St} {H:Hp} {s:Shared} {Q:VK} {us:List Value} {vs:List V} (M:XMk X.K C f) (F:FnOk X.prog X.w X.K X.mg X.base CX k f fd ps sp) (hr:Room (k + 1) X.A) (hb:Binds X.K fd ps [])
  (hx:qac CX X E) (I:Inv X pins σ H s) (r:Vals vs us) (hl0:vs.length≤1000) (h:∀ x,H x=none→sp (.ref x::vs) (upd H x (XN x C none)) (fun v H2=>v=.non∧Q (.ref x) H2) E) :
  wpAny (model X.prog X.w) X.A (call (.ref C) us) (EP X pins σ Q) X.xe s:=by
 have hq:=h (s.heap.objs.size + 1) (I.hok.fresh (Nat.le_succ _))
 have up:∀ b o,s.heap.get? b=some o→((s.heap.push { cls:=.type "tuple",data:=.seq us.toArray }).push { cls:=.ref C,data:=.fields (xfs s.heap.objs.size) }).get? b=some o:=fun b o q=>Heap.get?_push_of_some _ (Heap.get?_push_of_some _ q)
 have hget:((s.heap.push { cls:=.type "tuple",data:=.seq us.toArray }).push { cls:=.ref C,data:=.fields (xfs s.heap.objs.size) }).get? (s.heap.objs.size + 1)=some ⟨.ref C,none,.fields (xfs s.heap.objs.size),#[]⟩:=Heap.get?_push_at (by rw [Heap.size_push]) rfl
 have I2:=I.laid (a:=s.heap.objs.size + 1) (o:=XN (s.heap.objs.size + 1) C none) (t':=s.toks) up (Nat.le_succ _) (XN.ok hget)
 have r2:Vals (V.ref (s.heap.objs.size + 1)::vs) (Value.ref (s.heap.objs.size + 1)::us):=.cons rfl r
 have hl:(Value.ref (s.heap.objs.size + 1)::us++[]).length=ps.length:=by
  have q:=r2.length
  rw [F.len _ _ _ _ hq] at q
  rw [List.append_nil]
  exact q.symm
 have hus:us.length≤sizeLine:=by rw [← r.length];exact Nat.le_of_lt (qk hl0)
 refine xcall I.kIn M.at_ M.init M.fn hus (wpAny_call (codeAny_mono (F.run _ X.stack _ _ ⟨Value.ref (s.heap.objs.size + 1)::us,[]⟩ (Value.ref (s.heap.objs.size + 1)::us) _ _ E (hr.make C us [])
  (I2.env0.make C us []) (by have z:=hb _ (Value.ref (s.heap.objs.size + 1)::us) I2.kIn hl;rw [List.append_nil] at z;exact z) r2 hq) fun r s' hq'=>?_))
 cases r with
 | error e=>exact hx pins σ _ _ e s' I2 hq'
 | ok fl =>
  cases fl with
  | ret u =>
   obtain ⟨v,H',I3,rv,ev,q3⟩:=I2.after hq'
   subst ev
   exact ⟨rv,⟨V.ref (s.heap.objs.size + 1),H',I3,rfl,q3⟩⟩
  | next=>exact False.elim hq'
  | brk=>exact False.elim hq'
  | cont=>exact False.elim hq'
theorem pe_xmake (M:XMk X.K C f) (F:FnOk X.prog X.w X.K X.mg X.base CX k f fd ps sp) (hr:Room (k + 1) X.A) (hg:Gl X x) (hm:X.mg x=some (.ref C)) (hb:Binds X.K fd ps []) (hx:qac CX X E)
  (ha:PA X (e::es) t) (hdb:(x==("__debug__":Str))=false:=by decide) (he:starEach (e::es) X.env=(false,eval e X.env)::starEach es X.env:=by rfl) (hpl:(backTo pos (starEach es X.env)).any (·.1)=false:=by rfl) :
  PE X (.Call (.Name x p) (e::es) [] pos) (qdS C sp E t):=by
 intro pins s σ H Q I h
 refine wpAny_Call_Name_kw (qab I hg hm ?_ hdb)
 refine PySem.W.callWith_K (h₀:=X.base) I.ok.mod.kin M.kp (thn (ha pos pins s σ H _ I h) fun us s1 ⟨vs,H1,I1,r,z,q⟩=>⟨I1.kIn,?_⟩) he hpl
 exact run_xmake M F hr hb hx I1 r z q
structure CMeth (K:PySem.W.Frag) (C:Addr) (m:Str) (f:Addr):Prop where
 rd:PySem.W.readsIn K C (.type "type")=true
 at_:PySem.W.findCls K (.ref C) (.type "type") m=some (.val (.ref f))
 ga:PySem.W.specialIn K (.ref C) "__getattribute__"=some (some (.builtin "type.__getattribute__"))
 kp:PySem.W.keepIn K (.ref f)=true
theorem pe_clsm {pl:Sem Bool} (M:CMeth X.K C m f) (F:FnOk X.prog X.w X.K X.mg X.base CX k f fd ps sp) (hr:Room k X.A) (hg:Gl X x) (hm:X.mg x=some (.ref C)) (hb:Binds X.K fd ps []) (hx:qac CX X E) (ha:PA X (e::es) t)
  (hdb:(x==("__debug__":Str))=false:=by decide) (hst:starEach (e::es) X.env=(false,eval e X.env)::starEach es X.env:=by rfl) (hpl:(backTo pos (starEach es X.env)).any (·.1)=false:=by rfl)
  (ht:eval (.Call (.Attribute (.Name x p) m apos) (e::es) [] pos) X.env=(do
   let ov ← eval (.Name x p) X.env
   standAt apos.atName
   let (f,first) ← holding [ov] (getMethod ov m pl)
   callWith pos f first (backTo pos (starEach (e::es) X.env)) (backToKw pos (keywordEach [] X.env))):=by rfl) :
  PE X (.Call (.Attribute (.Name x p) m apos) (e::es) [] pos) (qcx sp [] E t):=by
 intro pins s σ H Q I h
 refine PySem.W.methodCall_KW (pl:=pl) (qab I hg hm ?_ hdb) ht
 refine PySem.W.method_cls I.kIn M.ga (PySem.W.cls_value I.kIn M.rd M.at_ rfl ?_)
 refine PySem.W.callWith_K (first:=[]) (h₀:=X.base) I.ok.mod.kin M.kp (thn (ha pos pins _ σ H _ (I.tok (s.toks + 1)) h) fun us s2 ⟨vs,H2,I2,r,q2⟩=>⟨I2.kIn,?_⟩) hst hpl
 exact qcT F hr hb .nil hx I2 r q2
end
end L2
namespace L2
open PySem PySem.Spec PyProof.Rows
def qez (K:PySem.W.Frag) (t:TA):TE:=fun σ H Q=>t σ H fun vs H1=>∃ a C y,vs=[.ref a,y]∧H1 a=some (XN a C none)∧XAt K C∧Q .non H1
theorem ve_type {M:Model} {h:Heap}:PySem.W.Looks M h (typeOf (.type "ValueError")) (.type "type"):=PySem.W.Looks.of_pure (by kernel_rfl)
theorem ve_opaque {M:Model} {h:Heap}:PySem.W.Looks M h (opaqueClassAbove (.type "ValueError")) none:=PySem.W.Looks.of_pure (by kernel_rfl)
structure VInit (K:PySem.W.Frag):Prop where
 ga:PySem.W.findIn K (.type "type") "__getattribute__"=some (some (.builtin "type.__getattribute__"))
 su:PySem.W.subIn K (.type "type") (.type "type")=some true
 at_:PySem.W.findCls K (.type "ValueError") (.type "type") "__init__"=some (.val (.builtin "ValueError.__init__"))
section
variable {X:Cx} {p pos apos:Pos} {e:Expr} {es:List Expr} {t:TA} {K:PySem.W.Frag}
theorem k_vinit {pl:Sem Bool} (hK:X.K=K) (V:VInit K) (hg:Gl X "ValueError") (hm:X.mg "ValueError"=none) (hv:bootBuiltins "ValueError"=some (.type "ValueError")) (ha:PA X (e::es) t)
  (hst:starEach (e::es) X.env=(false,eval e X.env)::starEach es X.env:=by rfl) (hpl:(backTo pos (starEach es X.env)).any (·.1)=false:=by rfl)
  (ht:eval (.Call (.Attribute (.Name "ValueError" p) "__init__" apos) (e::es) [] pos) X.env=(do
   let ov ← eval (.Name "ValueError" p) X.env
   standAt apos.atName
   let (f,first) ← holding [ov] (getMethod ov "__init__" pl)
   callWith pos f first (backTo pos (starEach (e::es) X.env)) (backToKw pos (keywordEach [] X.env))):=by rfl) :
  PE X (.Call (.Attribute (.Name "ValueError" p) "__init__" apos) (e::es) [] pos) (qez K t):=by
 subst hK
 intro pins s σ H Q I h
 refine PySem.W.methodCall_KW (pl:=pl) (qa4 I hg hm hv ?_) ht
 have hgm:∀ {Q':Value×List Value→Shared→Prop},Q' (.builtin "ValueError.__init__",[]) { s with toks:=s.toks + 1 }→wpAny (model X.prog X.w) X.A (getMethod (.type "ValueError") "__init__" pl) Q' X.xe s:=fun {Q'} q=>by
  unfold getMethod
  refine wpAny_bind ((ve_type.andThen (PySem.W.looks_findIn I.kIn V.ga)).here ?_)
  dsimp only
  rw [if_pos PySem.W.canon_tga]
  refine wpAny_bind (PySem.W.cls_open (hook:=none) I.kIn ve_opaque ve_type V.ga (PySem.W.Looks.now) V.su V.at_ (wpAny_pure ?_))
  show wpAny _ _ (handedOut _) _ _ _
  exact PySem.W.handed_on rfl (wpAny_pure q)
 refine hgm ?_
 have hA:=ha pos pins _ σ H _ (I.tok (s.toks + 1)) h
 rw [hst] at hA ⊢
 refine Calls.callWith_builtin (by show (false||(backTo pos (starEach es X.env)).any (·.1))=false;rw [hpl]<;>rfl) (Calls.evalArgs_plain ?_)
 refine thn hA fun us s2 ⟨vs,H2,I2,r2,a,C,y,e1,ea,c,q⟩=>?_
 subst e1
 obtain ⟨u,v,rfl,ru,rv⟩:=qdF r2
 cases ru
 obtain ⟨⟨a0,hx⟩,_⟩:=(show ObjOk X.prog X.w H2 s2.heap a (XN a C none) from I2.hok a _ ea)
 refine xbase_init I2.kIn hx c fun h' a1 g1 g2=>?_
 have J:=I2.write (x:=a) (e:=a) (o:=XN a C none) (t':=s2.toks) (by rw [ea];exact True.intro) (.inl rfl) g2 ⟨_,g1⟩ (XN.ok g1)
 rw [upd_id ea] at J
 exact ⟨.non,H2,J,rfl,q⟩
end
end L2
namespace L2
open PySem PySem.Spec PyProof.Rows
structure Keep (fs zs:List Addr) (h h':Heap):Prop where
 keep:∀ b o,h.get? b=some o→b∉zs→b∉fs→h'.get? b=some o
 slot:∀ b o,h.get? b=some o→b∉zs→b∈fs→∃ sl,h'.get? b=some { o with slots:=sl }
structure Trc (h:Heap) (e:Addr) (C:Value) (dx:Option Addr) (T:Addr) (fl:Value):Prop where
 ex:∃ vs,h.get? e=some ⟨C,dx,.fields vs,#[]⟩∧vs[1]?=some (.ref T)∧vs[2]?=some .none
 tb:∃ ts,h.get? T=some ⟨.type "traceback",none,.fields ts,#[]⟩∧ts[3]?=some fl
 ne:T≠e
section
variable {M:Model} {A:Around} {E:Value→Shared→Prop} {s:Shared} {base:Heap} {env:Env} {outer:List Env} {L e:Addr} {C:Value} {dx:Option Addr} {vs:Array Value}
theorem qeA {head:Value} {had:Bool} {Q:Unit→Shared→Prop} (hfr:A.frames=some (env::outer)) (hl:s.heap.FunFrames base (env::outer)) (hf:env.frame=some L) (he:s.heap.get? e=some ⟨C,dx,.fields vs,#[]⟩) (hsz:1 < vs.size) (h2:vs[2]?=some .none)
  (h:∀ h' T,s.heap.objs.size≤T→Trc h' e C dx T (rawInt L)→Keep (frs (env::outer)) [e] s.heap h'→Q () { s with heap:=h' }) :
  wpAny M A (do let a ← frameOf env;let pl ← entryPlaceOf L had;let b ← EntryCells.newEntry head a .none (rawInt L) .none pl;setField (.ref e) 1 b) Q E s:=by
 have hene:e∉frs (env::outer):=fun hm=>by
  obtain ⟨_,o,ho,hnf⟩:=hl.mem hm
  rw [he] at ho
  cases ho
  exact hnf vs rfl
 refine wpAny_bind (wpAny_frameOf_fun hfr hl hf fun h₁ hs=>wpAny_bind (wpAny_entryPlaceOf fun pl hpl=>?_))
 unfold EntryCells.newEntry newFields
 refine wpAny_bind (wpAny_newObj_type ?_ (hpl.sizeOk5 _ _ _ _ _))
 have he1:h₁.get? e=some ⟨C,dx,.fields vs,#[]⟩:=(hs.2.1 e hene).trans he
 generalize hts:([head,.ref L,.none,rawInt L,.none]++(if pl.isEmpty then List.replicate 6 Value.none else pl)).toArray=ts
 have h3:ts[3]?=some (rawInt L):=by rw [← hts];first | (simp;done) | (rcases hpl with rfl | ⟨_,_,_,_,_,_,_,rfl⟩<;>simp)
 have he2:=Heap.get?_push_of_some (h:=h₁) { cls:=.type "traceback",dict:=none,data:=.fields ts } he1
 have hTe:h₁.objs.size≠e:=Nat.ne_of_gt (Heap.lt_size he1)
 refine wpAny_setField he2 rfl hsz (h _ h₁.objs.size (Nat.le_of_eq hs.1.symm) ⟨⟨vs.setIfInBounds 1 (.ref h₁.objs.size),?_,by simp [hsz],by rw [Array.getElem?_setIfInBounds_ne (by decide)];exact h2⟩,⟨ts,?_,h3⟩,hTe⟩ ⟨fun b o q hb hn=>?_,fun b o q hb hn=>?_⟩)
 ·rw [Heap.get?_update_self _ he2 rfl]
  rfl
 ·rw [Heap.get?_update_other _ _ (Ne.symm hTe)]
  exact Heap.get?_push_size h₁ rfl
 ·have hbe:b≠e:=fun z=>hb (by simp [z])
  rw [Heap.get?_update_other _ _ (Ne.symm hbe)]
  exact Heap.get?_push_of_some _ ((hs.2.1 b hn).trans q)
 ·have hbe:b≠e:=fun z=>hb (by simp [z])
  obtain ⟨sl,z⟩:=hs.2.2 b o q
  exact ⟨sl,by rw [Heap.get?_update_other _ _ (Ne.symm hbe)];exact Heap.get?_push_of_some _ z⟩
theorem qcc {Q:Unit→Shared→Prop} (hfr:A.frames=some (env::outer)) (hl:s.heap.FunFrames base (env::outer)) (hf:env.frame=some L) (he:s.heap.get? e=some ⟨C,dx,.fields vs,#[]⟩) (h1:vs[1]?=some .none) (h2:vs[2]?=some .none)
  (h:∀ h' T,s.heap.objs.size≤T→Trc h' e C dx T (rawInt L)→Keep (frs (env::outer)) [e] s.heap h'→Q () { s with heap:=h' }):wpAny M A (noteFrame (.ref e) env) Q E s:=by
 unfold noteFrame
 simp only [hf]
 refine wpAny_bind (wpAny_field he rfl h1 ?_)
 rw [if_neg (by decide)]
 exact qeA hfr hl hf he (Array.getElem?_eq_some_iff.mp h1).1 h2 h
theorem qc2 {T:Addr} {Q:Unit→Shared→Prop} (hfr:A.frames=some (env::outer)) (hl:s.heap.FunFrames base (env::outer)) (hf:env.frame=some L) (t:Trc s.heap e C dx T .none)
  (h:∀ h' T',s.heap.objs.size≤T'→Trc h' e C dx T' (rawInt L)→Keep (frs (env::outer)) [e,T] s.heap h'→Q () { s with heap:=h' }):wpAny M A (noteFrame (.ref e) env) Q E s:=by
 obtain ⟨⟨vs,he,h1,h2⟩,⟨ts,hT,h3⟩,hne⟩:=t
 unfold noteFrame
 simp only [hf]
 refine wpAny_bind (wpAny_field he rfl h1 ?_)
 rw [if_pos (show (Value.ref T != Value.none)=true from by simp)]
 refine wpAny_bind (wpAny_field hT rfl h3 ?_)
 rw [if_neg (show ¬ ((Value.none==rawInt L)=true) from by simp [rawInt])]
 refine wpAny_bind (wpAny_setField hT rfl (Array.getElem?_eq_some_iff.mp h3).1 ?_)
 have other:∀ b,b≠T→(s.heap.update T (Obj.mapFields (·.setIfInBounds 3 Value.none))).get? b=s.heap.get? b:=fun b hb=>Heap.get?_update_other _ _ (Ne.symm hb)
 have szu:(s.heap.update T (Obj.mapFields (·.setIfInBounds 3 Value.none))).objs.size=s.heap.objs.size:=Heap.size_after_update ..
 refine qeA (s:={ s with heap:=s.heap.update T (Obj.mapFields (·.setIfInBounds 3 Value.none)) }) hfr (hl.of_keeps fun b o hb hnf=>?_) hf ((other e (Ne.symm hne)).trans he) (Array.getElem?_eq_some_iff.mp h1).1 h2 fun h' T' hs t' k=>?_
 ·have nb:b≠T:=fun q=>by rw [q,hT] at hb;cases hb;exact hnf ts rfl
  exact ⟨o,(other b nb).trans hb,rfl⟩
 ·refine h h' T' (by rw [← szu];exact hs) t' ⟨fun b o q hb hn=>?_,fun b o q hb hn=>?_⟩
  ·have nb:b≠T:=fun z=>hb (by simp [z])
   exact k.keep b o ((other b nb).trans q) (fun z=>hb (by simp only [List.mem_singleton] at z;simp [z])) hn
  ·have nb:b≠T:=fun z=>hb (by simp [z])
   exact k.slot b o ((other b nb).trans q) (fun z=>hb (by simp only [List.mem_singleton] at z;simp [z])) hn
theorem qbd {T:Addr} {fl:Value} {Q:Unit→Shared→Prop} (t:Trc s.heap e C dx T fl) (h:∀ h',Trc h' e C dx T .none→(∀ b o,b≠T→s.heap.get? b=some o→h'.get? b=some o)→h'.objs.size=s.heap.objs.size→Q () { s with heap:=h' }) :
  wpAny M A (setFlight (.ref e) none) Q E s:=by
 obtain ⟨⟨vs,he,h1,h2⟩,⟨ts,hT,h3⟩,hne⟩:=t
 have h3':3 < ts.size:=(Array.getElem?_eq_some_iff.mp h3).1
 unfold setFlight
 refine wpAny_bind (wpAny_field he rfl h1 ?_)
 rw [if_pos (show (Value.ref T != Value.none)=true from by simp)]
 refine wpAny_setField hT rfl h3' (h _ ⟨⟨vs,?_,h1,h2⟩,⟨ts.setIfInBounds 3 .none,?_,by simp [h3']⟩,hne⟩ (fun b o hb q=>?_) (Heap.size_after_update ..))
 ·rw [Heap.get?_update_other _ _ hne]
  exact he
 ·rw [Heap.get?_update_self _ hT rfl]
  rfl
 ·rw [Heap.get?_update_other _ _ (Ne.symm hb)]
  exact q
end
end L2
namespace L2
open PySem PySem.Spec PyProof.Rows
def CX1 (P:Program) (w:World):CXT:=fun outer H s E ev s'=>∃ (a C:Addr) (dx:Option Addr) (T:Addr) (H':Hp),ev=.ref a∧s'.os=s.os∧AllBare s'.gens∧Un (frs outer) [] H H' s.heap s'.heap∧HOk P w H' s'.heap ∧
 H' a=some (XO a C dx)∧Trc s'.heap a (.ref C) dx T .none∧s.heap.objs.size≤T∧H' T=none∧E (.ref C) dx H'
section
variable {X:Cx} {pins:List (Addr×Obj)} {σ:St} {H:Hp} {s:Shared}
theorem qbJ {a C T:Addr} {dx:Option Addr} {h':Heap} {fl:Value} {zs:List Addr} (I:Inv X pins σ H s) (ha:H a=some (XO a C dx)) (k:Keep (frs X.stack) zs s.heap h') (hz:∀ b∈zs,b=a∨H b=none) (t:Trc h' a (.ref C) dx T fl):HOk X.prog X.w H h':=fun b u e=>by
 by_cases hb:b=a
 ·subst hb
  rw [ha] at e
  cases e
  obtain ⟨vs,q,_⟩:=t.ex
  exact XO.ok q
 ·have nz:∀ c o,H c=some o→c≠a→c∉zs∧c∉frs X.stack:=fun c o q n=>⟨fun z=>(hz c z).elim n fun y=>(by rw [y] at q;cases q),fun z=>(by have y:=I.stkFree c z;rw [y] at q;cases q)⟩
  refine (I.hok b u e).stay (fun c v hc r=>?_) (fun _ q=>q) fun _ _ q=>q
  rcases hc with rfl | hc
  ·exact k.keep c v r (nz c _ e hb).1 (nz c _ e hb).2
  ·have n:c≠a:=fun z=>by rw [z,ha] at hc;cases hc
   exact k.keep c v r (nz c _ hc n).1 (nz c _ hc n).2
theorem qeB {a C T:Addr} {dx:Option Addr} {h':Heap} {fl:Value} {zs:List Addr} (I:Inv X pins σ H s) (hex:X.ex=[]) (ha:H a=some (XO a C dx)) (k:Keep (frs X.stack) zs s.heap h') (hz:∀ b∈zs,b=a∨X.s₀.heap.objs.size≤b) (t:Trc h' a (.ref C) dx T fl) :
  Un X.fs [] X.H₀ H X.s₀.heap h':=by
 have B:=I.base
 rw [hex] at B
 have low:∀ b o,X.s₀.heap.get? b=some o→b≠X.env.locals:=fun b o e=>Nat.ne_of_lt (Nat.lt_of_lt_of_le (Heap.lt_size e) I.ok.above)
 have nz:∀ b o,X.s₀.heap.get? b=some o→b≠a→b∉zs:=fun b o e n z=>(hz b z).elim n fun y=>absurd (Nat.lt_of_lt_of_le (Heap.lt_size e) y) (Nat.lt_irrefl _)
 have na:∀ b,H b=none→b≠a:=fun b n z=>by rw [z,ha] at n;cases n
 have nfs:∀ b o,X.s₀.heap.get? b=some o→b∉X.fs→b∉frs X.stack:=fun b o e n z=>(List.mem_cons.mp (I.stkSub b z)).elim (low b o e) n
 refine ⟨fun b o e n hb hx=>?_,fun b o e n hb hx=>?_,B.free,fun b o e hx=>?_,B.tups,B.frzs,B.tbls⟩
 ·exact k.keep b o (B.keep b o e n hb hx) (nz b o e (na b (B.free b o e n hx))) (nfs b o e hb)
 ·obtain ⟨sl,q⟩:=B.slot b o e n hb hx
  have zz:=nz b o e (na b (B.free b o e n hx))
  by_cases hs:b∈frs X.stack
  ·obtain ⟨sl2,q2⟩:=k.slot b _ q zz hs
   exact ⟨sl2,q2⟩
  ·exact ⟨sl,k.keep b _ q zz hs⟩
 ·obtain ⟨o',q⟩:=B.there b o e hx
  by_cases hb:b=a
  ·subst hb
   obtain ⟨vs,z,_⟩:=t.ex
   exact ⟨_,z⟩
  ·have zz:=nz b o e hb
   by_cases hs:b∈frs X.stack
   ·obtain ⟨sl2,q2⟩:=k.slot b _ q zz hs
    exact ⟨_,q2⟩
   ·exact ⟨o',k.keep b _ q zz hs⟩
end
structure XOk (X:Cx) (EK:St→XK):Prop where
 pass:∀ (pins:List (Addr×Obj)) (σ:St) (H:Hp) (s:Shared) (e:Value) (s':Shared),Inv X pins σ H s→CX1 X.prog X.w X.stack H s (EK σ) e s'→X.xe e s'
 rais:∀ (pins:List (Addr×Obj)) (σ:St) (H:Hp) (s:Shared) (a C:Addr) (dx:Option Addr),Inv X pins σ H s→H a=some (XN a C dx)→EK σ (.ref C) dx (upd H a (XO a C dx))→X.xe (.ref a) s
 calm:X.calm=true
section
variable {P:Program} {w:World} {K:PySem.W.Frag} {mg:Str→Option Value} {base:Heap} {N:List Str} {qual:Str} {scope:Scope} {f:Addr} {cd:Value} {A:Around} {outer:List Env} {s0:Shared} {H0:Hp} {E:XK}
theorem za:XOk (qeu (CX1 P w) P w K mg base N qual scope f cd A outer s0 H0 E) fun _=>E where
 calm:=rfl
 pass:=by
  intro pins σ H s ev s' I hx
  obtain ⟨a,C,dx,T,H',rfl,hos,hbr,un,hok,ha,t,hT,hTn,q⟩:=hx
  have J:=I.call' (s':=s') (H':=H') (ch:=[]) hos un hok hbr (fun b z=>absurd z (by simp))
  show wpAny _ _ (leaving _ _) _ _ _
  unfold leaving
  refine wpAny_bind (qc2 (base:=base) J.ok.frames J.stack rfl t fun h' T' hs t' k=>?_)
  refine qbd (s:={ s' with heap:=h' }) t' fun h2 t2 k2 sz2=>?_
  have hz0:s0.heap.objs.size≤s.heap.objs.size:=I.sz
  have J2:=J.sz
  have kk:Keep (frs (envOfC qual scope s0.heap.objs.size f cd::outer)) [a,T,T'] s'.heap h2:=by
   refine ⟨fun b o e z n=>?_,fun b o e z n=>?_⟩
   ·simp only [List.mem_cons,List.not_mem_nil,or_false,not_or] at z
    exact k2 b o z.2.2 (k.keep b o e (by simp [z.1,z.2.1]) n)
   ·simp only [List.mem_cons,List.not_mem_nil,or_false,not_or] at z
    obtain ⟨sl,y⟩:=k.slot b o e (by simp [z.1,z.2.1]) n
    exact ⟨sl,k2 b _ z.2.2 y⟩
  have nT':H' T'=none:=J.hok.fresh hs
  refine ⟨a,C,dx,T',H',rfl,J.os,hbr,qeB J rfl ha kk (fun b hb=>?_) t2,qbJ J ha kk (fun b hb=>?_) t2,ha,t2,Nat.le_trans J2 hs,nT',q⟩
  ·simp only [List.mem_cons,List.not_mem_nil,or_false] at hb
   rcases hb with rfl | rfl | rfl
   ·exact .inl rfl
   ·exact .inr (Nat.le_trans hz0 hT)
   ·exact .inr (Nat.le_trans J2 hs)
  ·simp only [List.mem_cons,List.not_mem_nil,or_false] at hb
   rcases hb with rfl | rfl | rfl
   ·exact .inl rfl
   ·exact .inr hTn
   ·exact .inr nT'
 rais:=by
  intro pins σ H s a C dx I e q
  obtain ⟨⟨a0,hx⟩,_⟩:=(show ObjOk _ _ H s.heap a (XN a C dx) from I.hok a _ e)
  have J:Inv _ pins σ (upd H a (XO a C dx)) s:=I.write (x:=a) (e:=a) (o:=XO a C dx) (h':=s.heap) (t':=s.toks) (by rw [e];exact True.intro) (.inl rfl) (fun _ _ _ q=>q) ⟨_,hx⟩ (XO.ok hx)
  show wpAny _ _ (leaving _ _) _ _ _
  unfold leaving
  refine wpAny_bind (qcc (base:=base) J.ok.frames J.stack rfl hx rfl rfl fun h' T' hs t' k=>?_)
  refine qbd (s:={ s with heap:=h' }) t' fun h2 t2 k2 sz2=>?_
  have J2:=J.sz
  have ha:upd H a (XO a C dx) a=some (XO a C dx):=qd
  have kk:Keep (frs (envOfC qual scope s0.heap.objs.size f cd::outer)) [a,T'] s.heap h2:=by
   refine ⟨fun b o e z n=>?_,fun b o e z n=>?_⟩
   ·simp only [List.mem_cons,List.not_mem_nil,or_false,not_or] at z
    exact k2 b o z.2 (k.keep b o e (by simp [z.1]) n)
   ·simp only [List.mem_cons,List.not_mem_nil,or_false,not_or] at z
    obtain ⟨sl,y⟩:=k.slot b o e (by simp [z.1]) n
    exact ⟨sl,k2 b _ z.2 y⟩
  have nT':upd H a (XO a C dx) T'=none:=J.hok.fresh hs
  refine ⟨a,C,dx,T',_,rfl,J.os,J.bare,qeB J rfl ha kk (fun b hb=>?_) t2,qbJ J ha kk (fun b hb=>?_) t2,ha,t2,Nat.le_trans J2 hs,nT',q⟩
  ·simp only [List.mem_cons,List.not_mem_nil,or_false] at hb
   rcases hb with rfl | rfl
   ·exact .inl rfl
   ·exact .inr (Nat.le_trans J2 hs)
  ·simp only [List.mem_cons,List.not_mem_nil,or_false] at hb
   rcases hb with rfl | rfl
   ·exact .inl rfl
   ·exact .inr nT'
end
def qeC (K:PySem.W.Frag) (EK:St→XK) (te:TE):TS:=fun _ σ H=>te σ H fun x H1=>∃ a C dx,x=.ref a∧H1 a=some (XN a C dx)∧XAt K C∧EK σ (.ref C) dx (upd H1 a (XO a C dx))
section
variable {X:Cx} {EK:St→XK} {e:Expr} {te:TE} {pos:Pos} {K:PySem.W.Frag}
theorem xraise {M:Model} {A:Around} {E:Value→Shared→Prop} {env:Env} {s:Shared} {x:Sem Value} {Q:Flow→Shared→Prop} (hh:A.handled=none)
  (h:wpAny M A x (fun v s1=>∃ a C dx a0,v=.ref a∧K.In s1.heap∧XAt K C∧s1.heap.get? a=some ⟨.ref C,dx,.fields (xfs a0),#[]⟩∧E (.ref a) s1) E s):wpAny M A (raiseStmt env (some x) none) Q E s:=by
 unfold raiseStmt
 refine wpAny_bind (wpAny_mono h (fun v s1 h1=>?_) fun _ _ z=>z)
 obtain ⟨a,C,dx,a0,rfl,kin,c,he,hE⟩:=h1
 obtain ⟨nm,qn,N,bs,bm,hdct,sn,sub,ab,col,dd,k0,k1,k2,k3,k5,hC,hm⟩:=qcZ kin c.xc
 have hcB:(Value.ref C::bm).contains (.type "BaseException")=true:=by rw [List.contains_cons,qaF hm (by simp),Bool.or_true]
 obtain ⟨hp,g,d,tk,os⟩:=s1
 repeat (first | with_reducible refine wpAny_loadPart_at he ?_ | with_reducible refine wpAny_loadPart_at hC ?_ | (with_reducible refine wpAny_isSubtype_exc hC ?_;rw [hcB]) | wp_step)
 exact wpAny_raiseNew_none hh hE
theorem zx (hK:X.K=K) (XX:XOk X EK) (he:PE X e te):PS X (.Raise (some e) none pos) (qeC K EK te):=by
 subst hK
 intro pins s σ H D I h
 rw [arm_exec_Raise]
 refine wpAny_bind (wpAny_standAt (xraise (K:=X.K) (I.ok.hd XX.calm) ?_))
 refine wpAny_bind (thn (he pins s σ H _ I h) fun v s1 ⟨x,H1,I1,rx,a,C,dx,ex,ea,c,q⟩=>wpAny_bind (wpAny_standAt (wpAny_pure ?_)))
 subst ex
 cases rx
 obtain ⟨⟨a0,hx⟩,_⟩:=(show ObjOk _ _ H1 s1.heap a (XN a C dx) from I1.hok a _ ea)
 exact ⟨a,C,dx,a0,rfl,I1.kIn,c,hx,XX.rais pins σ H1 s1 a C dx I1 ea q⟩
end
end L2
namespace L2
open PySem PySem.Spec PyProof.Rows
def qeD (sp:Sp) (EK:St→XK) (t:TA):TE:=fun σ H Q=>t σ H fun vs H1=>sp vs H1 Q (EK σ)
def qeE (C:Addr) (m:Str) (sp:Sp) (EK:St→XK) (ta:TE) (t:TA):TE:=fun σ H Q=>ta σ H fun x H1=>∃ a dx fs,x=.ref a∧H1 a=some (.ins C dx fs)∧fs.lookup m=none∧t σ H1 fun vs H2=>sp (x::vs) H2 Q (EK σ)
def tMakeS (C:Addr) (sp:Sp) (EK:St→XK) (t:TA):TE:=fun σ H Q=>t σ H fun vs H1=>∀ x dx,H1 x=none→H1 dx=none→dx≠x →
 sp (.ref x::vs) (upd (upd H1 dx (.own x)) x (.ins C dx [])) (fun v H2=>v=.non∧Q (.ref x) H2) (EK σ)
theorem FnOk.quiet {P:Program} {w:World} {K:PySem.W.Frag} {mg:Str→Option Value} {base:Heap} {k:Nat} {f:Addr} {fd:FuncData} {ps:List Str} {sp:Sp} (F:FnOk P w K mg base (CX1 P w) k f fd ps sp) :
  FnOk P w K mg base CX0 k f fd ps (fun vs H Q _=>sp vs H Q E0):=by
 refine ⟨fun vs H Q E h=>F.len vs H Q E0 h,fun A outer s H args us vs Q E hr he hb hv hs=>codeAny_mono (F.run A outer s H args us vs Q E0 hr he hb hv hs) fun r s' q=>?_⟩
 cases r with
 | ok fl=>cases fl<;>exact q
 | error e =>
  obtain ⟨_,_,_,_,_,_,_,_,_,_,_,_,_,_,z⟩:=q
  exact z.elim
structure MethOk (P:Program) (w:World) (K:PySem.W.Frag) (mg:Str→Option Value) (base:Heap) (CX:CXT) (k:Nat) (C:Addr) (m:Str) (ps:List Str) (sp:Sp):Prop where
 ex:∃ f fd,FnOk P w K mg base CX k f fd ps sp∧Meth K C m f∧Binds K fd ps []
 cl:Cls K C
structure MakeOk (P:Program) (w:World) (K:PySem.W.Frag) (mg:Str→Option Value) (base:Heap) (CX:CXT) (k:Nat) (C:Addr) (x:Str) (ps:List Str) (sp:Sp):Prop where
 ex:∃ f fd,FnOk P w K mg base CX k f fd ps sp∧Mk K C f∧Binds K fd ps []
 mg_:mg x=some (.ref C)
structure XMakeOk (P:Program) (w:World) (K:PySem.W.Frag) (mg:Str→Option Value) (base:Heap) (k:Nat) (C:Addr) (x:Str) (ps:List Str) (sp:Sp):Prop where
 ex:∃ f fd,FnOk P w K mg base CX0 k f fd ps sp∧XMk K C f∧Binds K fd ps []
 mg_:mg x=some (.ref C)
section
variable {X:Cx} {EK:St→XK} {k:Nat} {f C:Addr} {fd:FuncData} {ps:List Str} {sp:Sp} {x m:Str} {p pos apos:Pos} {e o:Expr} {es:List Expr} {ta:TE} {t:TA}
theorem qdT {pins:List (Addr×Obj)} {σ:St} {H:Hp} {s:Shared} {Q:VK} {us:List Value} {vs:List V} (F:FnOk X.prog X.w X.K X.mg X.base (CX1 X.prog X.w) k f fd ps sp) (hr:Room k X.A) (hb:Binds X.K fd ps []) (XX:XOk X EK)
  (I:Inv X pins σ H s) (r:Vals vs us) (h:sp vs H Q (EK σ)):wpAny (model X.prog X.w) X.A (call (.ref f) us) (EP X pins σ Q) X.xe s:=by
 have hl:(us++[]).length=ps.length:=by rw [List.append_nil,← r.length];exact F.len _ _ _ _ h
 have b:=hb s us I.kIn hl
 rw [List.append_nil] at b
 refine wpAny_call (codeAny_mono (F.run X.A X.stack s H ⟨us,[]⟩ us vs Q (EK σ) hr I.env0 b r h) fun r s' hq=>?_)
 cases r with
 | error e=>exact XX.pass pins σ H s e s' I hq
 | ok fl =>
  cases fl with
  | ret u=>exact I.after hq
  | _=>exact False.elim hq
theorem qcB (D:DefOk X.prog X.w X.K X.mg X.base (CX1 X.prog X.w) k x ps sp) (hr:Room k X.A) (XX:XOk X EK) (ha:PA X (e::es) t) (hg:Gl X x:=by rfl) (hdb:(x==("__debug__":Str))=false:=by decide)
  (he:starEach (e::es) X.env=(false,eval e X.env)::starEach es X.env:=by rfl) (hpl:(backTo pos (starEach es X.env)).any (·.1)=false:=by rfl):PE X (.Call (.Name x p) (e::es) [] pos) (qeD sp EK t):=by
 obtain ⟨f,fd,F,hm,hk,hb⟩:=D.ex
 intro pins s σ H Q I h
 refine wpAny_Call_Name_kw (qab I hg hm ?_ hdb)
 refine PySem.W.callWith_K (h₀:=X.base) I.ok.mod.kin hk (thn (ha pos pins s σ H _ I h) fun us s1 ⟨vs,H1,I1,r,q⟩=>⟨I1.kIn,?_⟩) he hpl
 exact qdT F hr hb XX I1 r q
theorem qc3 {pl:Sem Bool} (D:MethOk X.prog X.w X.K X.mg X.base (CX1 X.prog X.w) k C m ps sp) (hr:Room k X.A) (XX:XOk X EK) (he:PE X o ta) (ha:PA X (e::es) t)
  (hst:starEach (e::es) X.env=(false,eval e X.env)::starEach es X.env:=by rfl) (hpl:(backTo pos (starEach es X.env)).any (·.1)=false:=by rfl)
  (ht:eval (.Call (.Attribute o m apos) (e::es) [] pos) X.env=(do
   let ov ← eval o X.env
   standAt apos.atName
   let (f,first) ← holding [ov] (getMethod ov m pl)
   callWith pos f first (backTo pos (starEach (e::es) X.env)) (backToKw pos (keywordEach [] X.env))):=by rfl) :
  PE X (.Call (.Attribute o m apos) (e::es) [] pos) (qeE C m sp EK ta t):=by
 obtain ⟨f,fd,F,hm,hb⟩:=D.ex
 intro pins s σ H Q I h
 refine PySem.W.methodCall_KW (pl:=pl) (thn (he pins s σ H _ I h) fun u s1 ⟨x,H1,I1,rx,a,dx,fs,ex,ea,l,q⟩=>?_) ht
 subst ex
 obtain rfl:u=Value.ref a:=rx
 refine qaN I1 ea D.cl hm l ?_
 refine PySem.W.callWith_K (first:=[.ref a]) (h₀:=X.base) I.ok.mod.kin hm.kp (thn (ha pos pins s1 σ H1 _ I1 q) fun us s2 ⟨vs,H2,I2,r,q2⟩=>⟨I2.kIn,?_⟩) hst hpl
 exact qdT (us:=.ref a::us) (vs:=.ref a::vs) F hr hb XX I2 (.cons rfl r) q2
theorem qbp (D:XMakeOk X.prog X.w X.K X.mg X.base k C x ps sp) (hr:Room (k + 1) X.A) (ha:PA X (e::es) t) (hg:Gl X x:=by rfl) (hdb:(x==("__debug__":Str))=false:=by decide)
  (he:starEach (e::es) X.env=(false,eval e X.env)::starEach es X.env:=by rfl) (hpl:(backTo pos (starEach es X.env)).any (·.1)=false:=by rfl):PE X (.Call (.Name x p) (e::es) [] pos) (qdS C sp E0 t):=by
 obtain ⟨f,fd,F,M,hb⟩:=D.ex
 exact pe_xmake M F hr hg D.mg_ hb qx ha hdb he hpl
theorem jH {pl:Sem Bool} (D:MethOk X.prog X.w X.K X.mg X.base CX0 k C m ps sp) (hr:Room k X.A) (he:PE X o ta) (ha:PA X (e::es) t)
  (hst:starEach (e::es) X.env=(false,eval e X.env)::starEach es X.env:=by rfl) (hpl:(backTo pos (starEach es X.env)).any (·.1)=false:=by rfl)
  (ht:eval (.Call (.Attribute o m apos) (e::es) [] pos) X.env=(do
   let ov ← eval o X.env
   standAt apos.atName
   let (f,first) ← holding [ov] (getMethod ov m pl)
   callWith pos f first (backTo pos (starEach (e::es) X.env)) (backToKw pos (keywordEach [] X.env))):=by rfl) :
  PE X (.Call (.Attribute o m apos) (e::es) [] pos) (qds C m sp [] E0 ta t):=by
 obtain ⟨f,fd,F,hm,hb⟩:=D.ex
 exact pe_meth (pl:=pl) he D.cl hm F hr hb .nil qx ha hst hpl ht
theorem qo {pl:Sem Bool} (D:MethOk X.prog X.w X.K X.mg X.base CX0 k C m ps sp) (hr:Room k X.A) (he:PE X o ta)
  (ht:eval (.Call (.Attribute o m apos) [] [] pos) X.env=(do
   let ov ← eval o X.env
   standAt apos.atName
   let (f,first) ← holding [ov] (getMethod ov m pl)
   callWith pos f first (backTo pos (starEach [] X.env)) (backToKw pos (keywordEach [] X.env))):=by rfl) :
  PE X (.Call (.Attribute o m apos) [] [] pos) (qds C m sp [] E0 ta qdB):=by
 obtain ⟨f,fd,F,hm,hb⟩:=D.ex
 exact pe_meth0 (pl:=pl) he D.cl hm F hr hb .nil qx ht
end
section
variable {P:Program} {w:World} {K:PySem.W.Frag} {mg:Str→Option Value} {base:Heap}
theorem Fun.ok1 {x qual:Str} {st:Stmt} {f:Addr} {fd:FuncData} {N ps:List Str} {k:Nat} {sp:Sp} (F:Fun K x qual st f fd) (S:FnScope N ps (qb st)) (len:∀ vs H Q E,sp vs H Q E→vs.length=ps.length)
  (hbody:∀ (cdv:Value) (A:Around) (outer:List Env) (s:Shared) (H:Hp) (vs:List V) (Q:VK) (E:XK),Room k (A.deeper (envOfC qual (qb st) s.heap.objs.size f cdv))→sp vs H Q E →
   ∃ t,PSs (qeu (CX1 P w) P w K mg base N qual (qb st) f cdv A outer s H E) (qh st) t∧t { nx:=fun _ H'=>Q .non H',rt:=Q } (qbF N vs) H):FnOk P w K mg base (CX1 P w) (k + 1) f fd ps sp:=by
 obtain ⟨oc,od,kV,doc,pm,an,cdv,ct,osl,rfl,lk,hcd⟩:=F.ex
 exact qfD lk hcd S len fun A outer s H vs Q E hr hsp=>hbody cdv A outer s H vs Q E hr hsp
end
end L2
namespace L2
open PySem PySem.Spec PyProof.Rows
abbrev Cx.tried (X:Cx) (pn:List (Addr×Obj)) (E:Value→Shared→Prop):Cx:={ X with pn:=pn,xe:=E }
abbrev Cx.hand (X:Cx) (a:Addr):Cx:={ X with A:=X.A.mark (some (.ref a)),calm:=false,xe:=fun _ _=>False }
section
variable {X:Cx} {pins pins':List (Addr×Obj)} {σ:St} {H:Hp} {s:Shared} {E:Value→Shared→Prop} {a:Addr}
theorem Inv.tried (I:Inv X pins σ H s) (E:Value→Shared→Prop):Inv (X.tried (X.pn++pins) E) [] σ H s:=
 ⟨⟨I.ok.mod,I.ok.kind,I.ok.glob,I.ok.blt,I.ok.above,I.ok.inj,I.ok.has,I.ok.cab,I.ok.hd,I.ok.frames,I.ok.stk,I.ok.exf,I.ok.bs,I.ok.bsz,I.ok.noex,I.ok.exfs,I.ok.funs,I.ok.frf⟩,I.os,I.bare,I.base,I.loc,I.cell,I.free,I.freeC,
  fun p hp=>I.pin p (by have hp:p∈(X.pn++pins)++[]:=hp;rw [List.append_nil] at hp;exact hp),I.hok,I.len⟩
theorem Inv.untried (I:Inv (X.tried (X.pn++pins) E) pins' σ H s):Inv X pins σ H s:=
 ⟨⟨I.ok.mod,I.ok.kind,I.ok.glob,I.ok.blt,I.ok.above,I.ok.inj,I.ok.has,I.ok.cab,I.ok.hd,I.ok.frames,I.ok.stk,I.ok.exf,I.ok.bs,I.ok.bsz,I.ok.noex,I.ok.exfs,I.ok.funs,I.ok.frf⟩,I.os,I.bare,I.base,I.loc,I.cell,I.free,I.freeC,
  fun p hp=>I.pin p (List.mem_append_left _ hp),I.hok,I.len⟩
theorem Inv.hand (I:Inv X pins σ H s) (a:Addr):Inv (X.hand a) pins σ H s:=
 ⟨⟨I.ok.mod,I.ok.kind,I.ok.glob,I.ok.blt,I.ok.above,I.ok.inj,I.ok.has,I.ok.cab,(fun h=>nomatch h),I.ok.frames,I.ok.stk,I.ok.exf,I.ok.bs,I.ok.bsz,I.ok.noex,I.ok.exfs,I.ok.funs,I.ok.frf⟩,I.os,I.bare,I.base,I.loc,I.cell,I.free,I.freeC,I.pin,I.hok,I.len⟩
theorem Inv.unhand (hc:X.calm=true→X.A.handled=none) (I:Inv (X.hand a) pins σ H s):Inv X pins σ H s:=
 ⟨⟨I.ok.mod,I.ok.kind,I.ok.glob,I.ok.blt,I.ok.above,I.ok.inj,I.ok.has,I.ok.cab,hc,I.ok.frames,I.ok.stk,I.ok.exf,I.ok.bs,I.ok.bsz,I.ok.noex,I.ok.exfs,I.ok.funs,I.ok.frf⟩,I.os,I.bare,I.base,I.loc,I.cell,I.free,I.freeC,I.pin,I.hok,I.len⟩
structure Loose (X:Cx) (pins:List (Addr×Obj)) (H:Hp) (T:Addr):Prop where
 hn:H T=none
 lo:X.s₀.heap.objs.size≤T
 nl:T≠X.env.locals
 nf:T∉X.fs
 nc:∀ x c,X.env.cells.lookup x=some c→c≠T
 np:∀ p∈X.pn++pins,p.1≠T
theorem Inv.loose (I:Inv X pins σ H s) {T:Addr} (hT:s.heap.objs.size≤T) {H':Hp} (hn:H' T=none):Loose X pins H' T where
 hn:=hn
 lo:=Nat.le_trans I.sz hT
 nl:=Nat.ne_of_gt (Nat.lt_of_lt_of_le I.lt hT)
 nf:=I.nofs hT
 nc:=fun x c e=>by
  obtain ⟨v,o,ho,_⟩:=I.cell x c e
  exact Nat.ne_of_lt (Nat.lt_of_lt_of_le (Heap.lt_size ho) hT)
 np:=fun p hp=>Nat.ne_of_lt (Nat.lt_of_lt_of_le (Heap.lt_size (I.pin p hp).1) hT)
theorem Inv.noted {C T:Addr} {dx:Option Addr} {fl:Value} {zs:List Addr} {h':Heap} (I:Inv X pins σ H s) (ha:H a=some (XO a C dx)) (k:Keep (frs X.stack) zs s.heap h') (hz:∀ b∈zs,b=a∨Loose X pins H b) (t:Trc h' a (.ref C) dx T fl) :
  Inv X pins σ H { s with heap:=h' }:=by
 have hh:=qbJ I ha k (fun b hb=>(hz b hb).imp (fun e=>e) fun l=>l.hn) t
 have nz:∀ b,H b=none→b∉zs.filter (fun b=>decide (b≠a))→b∉zs:=fun b n z y=>z (List.mem_filter.mpr ⟨y,decide_eq_true fun e=>by rw [e,ha] at n;cases n⟩)
 refine I.call (g':=s.gens) (t':=s.toks) (d':=s.drawn) (ch:=zs.filter fun b=>decide (b≠a)) ⟨fun b o e n hb hx=>k.keep b o e (nz b n hx) hb,fun b o e n hb hx=>k.slot b o e (nz b n hx) hb,fun _ _ _ n _=>n,fun b o e hx=>?_,fun _ _ e=>e,fun _ _ _ e=>e,
  fun b ps e=>⟨#[],by rw [e];simp⟩⟩ hh I.bare fun b hb=>?_
 ·by_cases hba:b=a
  ·subst hba
   obtain ⟨vs,q,_⟩:=t.ex
   exact ⟨_,q⟩
  ·have z:b∉zs:=fun y=>hx (List.mem_filter.mpr ⟨y,decide_eq_true hba⟩)
   by_cases hs:b∈frs X.stack
   ·obtain ⟨sl,q⟩:=k.slot b o e z hs
    exact ⟨_,q⟩
   ·exact ⟨o,k.keep b o e z hs⟩
 ·obtain ⟨y,q⟩:=List.mem_filter.mp hb
  rcases hz b y with e | l
  ·exact absurd e (of_decide_eq_true q)
  ·exact ⟨.inr l.lo,l.nl,l.nc,l.np⟩
theorem unbind_ok {M:Model} {A:Around} {i:Nat} {x:Str} {v:V} {Q:Unit→Shared→Prop} (I:Inv X pins σ H s) (hN:X.N.Nodup) (hi:X.N[i]?=some x) (hx:X.env.scope.names.lookup x=some .local) (hv:σ[i]?=some (some v))
  (h:∀ s',Inv X pins (σ.set i none) H s'→Q () s'):wpAny M A (unbindName X.env x) Q E s:=by
 obtain ⟨m,hn,hl⟩:=id I.loc
 obtain ⟨u,ru,lk⟩:=hl i x v hi hv (.inl hx)
 have hm:m x=some u:=by
  rcases lk with ⟨_,e⟩ | ⟨k,_⟩
  ·exact e
  ·have k':X.env.scope.names.lookup x=some .cell∨X.env.scope.names.lookup x=some .free:=k
   rw [hx] at k'
   rcases k' with z | z<;>cases z
 have hcls:(X.env.scope.kind==.class||(X.env.scope.kind==.module&&X.env.locals != X.env.globals))=false:=by rw [I.ok.kind];rfl
 refine wpAny_unbindName_local hx hn hm hcls fun h' u' hn' hs=>?_
 have lowL:∀ b o,X.s₀.heap.get? b=some o→b≠X.env.locals:=fun b o e=>Nat.ne_of_lt (Nat.lt_of_lt_of_le (Heap.lt_size e) I.ok.above)
 refine h _ ⟨I.ok,I.os,I.bare,⟨fun b o e n hb hx=>?_,fun b o e n hb hx=>?_,I.base.free,fun b o e hx=>?_,I.base.tups,I.base.frzs,I.base.tbls⟩,⟨_,hn',fun j y v' e1 e2 e3=>?_⟩,fun y c e=>?_,I.free,I.freeC,fun p hp=>?_,fun b ob e=>?_,by simpa using I.len⟩
 ·exact (hs.2 b (lowL b o e)).trans (I.base.keep b o e n hb hx)
 ·obtain ⟨sl,e1⟩:=I.base.slot b o e n hb hx
  exact ⟨sl,(hs.2 b (lowL b o e)).trans e1⟩
 ·obtain ⟨o',e1⟩:=I.base.there b o e hx
  exact ⟨o',(hs.2 b (lowL b o e)).trans e1⟩
 ·by_cases hj:j=i
  ·subst hj
   have hlt:j < σ.length:=by rw [I.len];exact (List.getElem?_eq_some_iff.mp hi).1
   rw [List.getElem?_set_self hlt] at e2
   cases e2
  ·rw [List.getElem?_set_ne (Ne.symm hj)] at e2
   obtain ⟨w',r',q⟩:=hl j y v' e1 e2 e3
   refine ⟨w',r',?_⟩
   rcases q with ⟨k,e⟩ | ⟨k,c,e,z⟩
   ·have ny:y≠x:=fun e=>hj (qbC hN e1 (e ▸ hi))
    exact .inl ⟨k,by simp [ny,e]⟩
   ·exact .inr ⟨k,c,e,z.sameBut hs (I.cne y c e)⟩
 ·obtain ⟨w',z⟩:=I.cell y c e
  exact ⟨w',z.sameBut hs (I.cne y c e)⟩
 ·obtain ⟨e,n,ne,nf,d⟩:=I.pin p hp
  exact ⟨(hs.2 p.1 ne).trans e,n,ne,nf,d⟩
 ·refine (I.hok b ob e).stay (fun c w' hc q=>(hs.2 c ?_).trans q) (fun _ q=>q) fun _ _ q=>q
  rintro rfl
  rcases hc with rfl | hc
  ·rw [I.free] at e;cases e
  ·rw [I.free] at hc;cases hc
end
end L2
namespace L2
open PySem PySem.Spec PyProof.Rows
structure Held (X:Cx) (pins:List (Addr×Obj)) (H:Hp) (h:Heap) (a C:Addr) (dx:Option Addr):Prop where
 at_:H a=some (XO a C dx)
 tr:∃ T,Trc h a (.ref C) dx T .none∧Loose X pins H T
def PH (X:Cx) (a C:Addr) (dx:Option Addr) (hs:List ExceptHandler) (th:TS):Prop:=
 ∀ (pins:List (Addr×Obj)) (s:Shared) (σ:St) (H:Hp) (D:Ends),Inv X pins σ H s→Held X pins H s.heap a C dx→th D σ H→wpAny (model X.prog X.w) X.A (handleBy (.ref a) X.env hs) (SP X pins D) X.xe s
def thNil:TS:=fun _ _ _=>False
def thAs (K:PySem.W.Frag) (a C D:Addr) (i:Nat) (tb rest:TS):TS:=fun Z σ H=>∃ b,PySem.W.mroIn K C (.ref D)=some b∧XAt K D∧XAt K C ∧
 if b=true then tb { nx:=fun σ' H'=>Z.nx (σ'.set i none) H',rt:=Z.rt,bk:=fun σ' H'=>Z.bk (σ'.set i none) H',ct:=fun σ' H'=>Z.ct (σ'.set i none) H' } (σ.set i (some (.ref a))) H else rest Z σ H
def thNo (K:PySem.W.Frag) (C D:Addr) (tb rest:TS):TS:=fun Z σ H=>∃ b,PySem.W.mroIn K C (.ref D)=some b∧XAt K D∧XAt K C∧if b=true then tb Z σ H else rest Z σ H
theorem qeF {M:Model} {A:Around} {E:Value→Shared→Prop} {s:Shared} {K:PySem.W.Frag} {a C D:Addr} {o:Obj} {b:Bool} {Q:Bool→Shared→Prop} (X:K.In s.heap) (ho:s.heap.get? a=some o) (hc:o.cls=.ref C) (d:XAt K D) (hb:PySem.W.mroIn K C (.ref D)=some b) (q:Q b s) :
  wpAny M A (excMatches (.ref a) (.ref D)) Q E s:=by
 obtain ⟨nm,qn,N,bs,bm,hdct,sn,sub,ab,col,dd,k0,k1,k2,k3,k5,hD,hm⟩:=qcZ X d.xc
 have hcB:(Value.ref D::bm).contains (.type "BaseException")=true:=by rw [List.contains_cons,qaF hm (by simp),Bool.or_true]
 have f:=tc_notTuple
 have L:=PySem.W.looks_mroIn (M:=M) X hb
 obtain ⟨hp,g,dr,tk,os⟩:=s
 unfold excMatches
 repeat (first | with_reducible refine wpAny_loadPart_at hD ?_ | (with_reducible refine wpAny_loadPart_at ho ?_;rw [hc]) | (with_reducible refine wpAny_isSubtype_exc hD ?_;rw [hcB]) | with_reducible refine L.at ?_ | wp_step)
 cases b<;>(wp_walk;exact q)
section
variable {X:Cx} {a C D:Addr} {dx:Option Addr} {c n:Str} {cp pos:Pos} {b0:Stmt} {body:List Stmt} {rest:List ExceptHandler} {tb tr:TS} {i:Nat} {K:PySem.W.Frag}
theorem ph_nil:PH X a C dx [] thNil:=fun _ _ _ _ _ _ _ h=>h.elim
theorem suite_as {prog:Program} {w:World} {A:Around} {R:Result→Shared→Prop} {s:Shared} {env:Env} {e:Value}
  (h:wpAny (model prog w) A (setFlight e none) (fun _ s1=>wpAny (model prog w) A (bindName env n e) (fun _ s2=>wpAny (model prog w) A (execs (b0::body) env) (fun f s3=>R (.ok f) s3) (fun _ _=>False) s2) (fun _ _=>False) s1) (fun _ _=>False) s) :
  codeAny (model prog w) A (.handlers e [.ExceptHandler none (some n) (b0::body) pos] env) R s:=by
 refine codeAny_of_tree ?_
 show wpAny _ A (do return Fin.done (← (handleWith e env [.ExceptHandler none (some n) (b0::body) pos]).onRaise (fun x=>do noteFrame x env;theTreesLotGoes x))) _ _ s
 refine wpAny_bind (wpAny_noted ?_)
 unfold handleWith
 refine wpAny_bind (wpAny_standAt (wpAny_bind (wpAny_mono h (fun _ s1 h1=>wpAny_bind (wpAny_mono h1 (fun _ s2 h2=>wpAny_bind (wpAny_attempt (wpAny_mono h2 (fun f s3 h3=>wpAny_pure (wpAny_pure h3)) fun _ _ z=>z.elim))) fun _ _ z=>z.elim)) fun _ _ z=>z.elim)))
theorem ph_as (hK:X.K=K) (hN:X.N.Nodup) (hi:X.N[i]?=some n) (hx:X.env.scope.names.lookup n=some .local) (hg:Gl X c) (hm:X.mg c=some (.ref D)) (hb:PSs (X.hand a) (b0::body) tb) (hr:PH X a C dx rest tr)
  (hdb:(c==("__debug__":Str))=false:=by decide):PH X a C dx (.ExceptHandler (some (.Name c cp)) (some n) (b0::body) pos::rest) (thAs K a C D i tb tr):=by
 subst hK
 intro pins s σ H Z I hl h
 obtain ⟨b,hb1,xd,xc,q⟩:=h
 obtain ⟨vs,he⟩:=(show IsX H a C dx from .inr hl.at_).get I.hok
 refine wpAny_handleBy_cons (codeAny_handlers_test ?_) (by intro q;cases q)
 have Ih:=I.hand a
 refine qab (X:=X.hand a) Ih hg hm (qeF I.kIn he rfl xd hb1 ?_) hdb
 cases b with
 | false=>exact hr pins s σ H Z I hl q
 | true =>
  obtain ⟨T,t,lo⟩:=hl.tr
  refine suite_as (qbd t fun h1 t1 k1 sz1=>?_)
  have kk:Keep (frs X.stack) [T] s.heap h1:=⟨fun b o e z _=>k1 b o (by simpa using z) e,fun b o e z _=>⟨o.slots,k1 b o (by simpa using z) e⟩⟩
  have I1:=I.noted hl.at_ kk (fun b hb=>.inr (by rw [List.mem_singleton.mp hb];exact lo)) t1
  have I2:=I1.hand a
  refine wpAny_bindName (qaw (X:=X.hand a) I2 hN hi (.inl hx) (v:=.ref a) rfl (fun s2 I3=>?_) (.inr hx))
  have q':tb { nx:=fun σ' H'=>Z.nx (σ'.set i none) H',rt:=Z.rt,bk:=fun σ' H'=>Z.bk (σ'.set i none) H',ct:=fun σ' H'=>Z.ct (σ'.set i none) H' } (σ.set i (some (.ref a))) H:=q
  refine thn (hb pins s2 _ H _ I3 q') fun f s3 hf=>?_
  have fin:∀ {σ':St} {H':Hp} {Q:Unit→Shared→Prop},Inv (X.hand a) pins σ' H' s3→(∀ s4,Inv X pins (σ'.set i none) H' s4→Q () s4)→wpAny (model X.prog X.w) X.A (do bindName X.env n .none;unbindBehindTheSuite X.env n pos) Q X.xe s3:=fun {σ' H' Q} J k=>by
   have J':=Inv.unhand I.ok.hd J
   have hlt:i < σ'.length:=by rw [J'.len];exact (List.getElem?_eq_some_iff.mp hi).1
   refine wpAny_bind (wpAny_bindName (qaw J' hN hi (.inl hx) (v:=.non) rfl (fun s4 J4=>?_) (.inr hx)))
   refine wpAny_onRaise (unbind_ok J4 hN hi hx (v:=.non) (by rw [List.getElem?_set_self hlt]) fun s5 J5=>k s5 ?_)
   rw [List.set_set] at J5
   exact J5
  cases f with
  | next=>obtain ⟨σ',H',J,z⟩:=hf;exact fin J fun s4 J4=>⟨_,H',J4,z⟩
  | brk=>obtain ⟨σ',H',J,z⟩:=hf;exact fin J fun s4 J4=>⟨_,H',J4,z⟩
  | cont=>obtain ⟨σ',H',J,z⟩:=hf;exact fin J fun s4 J4=>⟨_,H',J4,z⟩
  | ret u=>obtain ⟨v,σ',H',J,r,z⟩:=hf;exact fin J fun s4 J4=>⟨v,_,H',J4,r,z⟩
theorem ph_no (hK:X.K=K) (hg:Gl X c) (hm:X.mg c=some (.ref D)) (hb:PSs (X.hand a) (b0::body) tb) (hr:PH X a C dx rest tr) (hdb:(c==("__debug__":Str))=false:=by decide) :
  PH X a C dx (.ExceptHandler (some (.Name c cp)) none (b0::body) pos::rest) (thNo K C D tb tr):=by
 subst hK
 intro pins s σ H Z I hl h
 obtain ⟨b,hb1,xd,xc,q⟩:=h
 obtain ⟨vs,he⟩:=(show IsX H a C dx from .inr hl.at_).get I.hok
 refine wpAny_handleBy_cons (codeAny_handlers_test ?_) (by intro q;cases q)
 refine qab (X:=X.hand a) (I.hand a) hg hm (qeF I.kIn he rfl xd hb1 ?_) hdb
 cases b with
 | false=>exact hr pins s σ H Z I hl q
 | true =>
  obtain ⟨T,t,lo⟩:=hl.tr
  refine codeAny_handlers_suite (qbd t fun h1 t1 k1 sz1=>?_)
  have kk:Keep (frs X.stack) [T] s.heap h1:=⟨fun b o e z _=>k1 b o (by simpa using z) e,fun b o e z _=>⟨o.slots,k1 b o (by simpa using z) e⟩⟩
  have I1:=I.noted hl.at_ kk (fun b hb=>.inr (by rw [List.mem_singleton.mp hb];exact lo)) t1
  have q':tb Z σ H:=q
  refine wpAny_mono (hb pins _ σ H Z (I1.hand a) q') (fun f s3 hf=>?_) fun _ _ z=>z.elim
  cases f with
  | next=>obtain ⟨σ',H',J,z⟩:=hf;exact ⟨σ',H',Inv.unhand I.ok.hd J,z⟩
  | brk=>obtain ⟨σ',H',J,z⟩:=hf;exact ⟨σ',H',Inv.unhand I.ok.hd J,z⟩
  | cont=>obtain ⟨σ',H',J,z⟩:=hf;exact ⟨σ',H',Inv.unhand I.ok.hd J,z⟩
  | ret u=>obtain ⟨v,σ',H',J,r,z⟩:=hf;exact ⟨v,σ',H',Inv.unhand I.ok.hd J,r,z⟩
end
end L2
namespace L2
open PySem PySem.Spec PyProof.Rows
def tTry (X:Cx) (body:List Stmt) (hs:List ExceptHandler) (te:TS):TS:=fun D σ H=>∃ (EK:St→XK) (tb:TS),(∀ pn xe,XOk (X.tried pn xe) EK→PSs (X.tried pn xe) body tb) ∧
 tb { nx:=te D,rt:=D.rt,bk:=D.bk,ct:=D.ct } σ H∧∀ (a C:Addr) (dx:Option Addr) (σ':St) (H':Hp),EK σ' (.ref C) dx H'→H' a=some (XO a C dx)→∃ th,PH X a C dx hs th∧th D σ' H'
section
variable {X:Cx} {body orelse:List Stmt} {h0:ExceptHandler} {hs:List ExceptHandler} {pos:Pos} {te:TS}
theorem ps_try (hc:X.calm=true) (hst:X.stack=X.env::X.outer) (hfr:X.env.frame=some X.env.locals) (ho:PSs X orelse te):PS X (.Try body (h0::hs) orelse [] pos) (tTry X body (h0::hs) te):=by
 intro pins s σ H D I h
 obtain ⟨EK,tb,hb,q,hh⟩:=h
 have hfs:X.A.frames=some (X.env::X.outer):=by rw [← hst];exact I.ok.frames
 let xe':Value→Shared→Prop:=fun e s1=>∃ (a C:Addr) (dx:Option Addr) (σ':St) (H':Hp),e=.ref a∧Inv X pins σ' H' s1∧H' a=some (XO a C dx)∧EK σ' (.ref C) dx H' ∧
  ((∃ T,Trc s1.heap a (.ref C) dx T .none∧Loose X pins H' T)∨∃ a0,s1.heap.get? a=some ⟨.ref C,dx,.fields (xfs a0),#[]⟩)
 have XX:XOk (X.tried (X.pn++pins) xe') EK:=by
  refine ⟨fun pins' σ' H1 s1 e s2 J hx=>?_,fun pins' σ' H1 s1 a C dx J e z=>?_,hc⟩
  ·obtain ⟨a,C,dx,T,H',rfl,hos,hbr,un,hok,ha,t,hT,hTn,z⟩:=hx
   have J1:=J.call' (s':=s2) (H':=H') (ch:=[]) hos un hok hbr (fun b z=>absurd z (by simp))
   have J0:=Inv.untried J
   exact ⟨a,C,dx,σ',H',rfl,Inv.untried J1,ha,z,.inl ⟨T,t,J0.loose hT hTn⟩⟩
  ·have J0:=Inv.untried J
   obtain ⟨⟨a0,hx⟩,_⟩:=(show ObjOk _ _ H1 s1.heap a (XN a C dx) from J0.hok a _ e)
   have J1:Inv X pins σ' (upd H1 a (XO a C dx)) s1:=J0.write (x:=a) (e:=a) (o:=XO a C dx) (h':=s1.heap) (t':=s1.toks) (by rw [e];exact True.intro) (.inl rfl) (fun _ _ _ q=>q) ⟨_,hx⟩ (XO.ok hx)
   exact ⟨a,C,dx,σ',_,rfl,J1,qd,z,.inr ⟨a0,hx⟩⟩
 have B:=hb (X.pn++pins) xe' XX [] s σ H _ (I.tried xe') q
 refine wpAny_Try_except (wpAny_mono B (fun f s1 hf=>?_) fun e s1 he=>?_)
 ·cases f with
  | next=>obtain ⟨σ',H',J,z⟩:=hf;exact ho pins s1 σ' H' D (Inv.untried J) z
  | brk=>obtain ⟨σ',H',J,z⟩:=hf;exact ⟨σ',H',Inv.untried J,z⟩
  | cont=>obtain ⟨σ',H',J,z⟩:=hf;exact ⟨σ',H',Inv.untried J,z⟩
  | ret u=>obtain ⟨v,σ',H',J,r,z⟩:=hf;exact ⟨v,σ',H',Inv.untried J,r,z⟩
 ·obtain ⟨a,C,dx,σ',H',rfl,J,ha,z,tt⟩:=he
  obtain ⟨th,hp,hq⟩:=hh a C dx σ' H' z ha
  have stk:s1.heap.FunFrames X.base (X.env::X.outer):=by rw [← hst];exact J.stack
  have go:∀ (h':Heap) (T':Addr) (zs:List Addr),s1.heap.objs.size≤T'→Trc h' a (.ref C) dx T' (rawInt X.env.locals)→Keep (frs (X.env::X.outer)) zs s1.heap h'→(∀ b∈zs,b=a∨Loose X pins H' b) →
    wpAny (model X.prog X.w) X.A (setFlight (.ref a) none) (fun _ s3=>wpAny (model X.prog X.w) X.A (handleBy (.ref a) X.env (h0::hs)) (SP X pins D) X.xe s3) X.xe { s1 with heap:=h' }:=fun h' T' zs hs' t' k hz=>by
   have lo:=J.loose hs' (J.hok.fresh hs')
   have J1:=J.noted ha (by rw [hst];exact k) hz t'
   refine qbd (s:={ s1 with heap:=h' }) t' fun h2 t2 k2 sz2=>?_
   have kk:Keep (frs X.stack) [T'] h' h2:=⟨fun b o e z _=>k2 b o (by simpa using z) e,fun b o e z _=>⟨o.slots,k2 b o (by simpa using z) e⟩⟩
   have J2:=J1.noted ha kk (fun b hb=>.inr (by rw [List.mem_singleton.mp hb];exact lo)) t2
   exact hp pins _ σ' H' D J2 ⟨ha,T',t2,lo⟩ hq
  rcases tt with ⟨T,t,lo⟩ | ⟨a0,hx⟩
  ·refine qc2 (base:=X.base) hfs stk hfr t fun h' T' hs' t' k=>go h' T' _ hs' t' k fun b hb=>?_
   simp only [List.mem_cons,List.not_mem_nil,or_false] at hb
   rcases hb with rfl | rfl
   ·exact .inl rfl
   ·exact .inr lo
  ·refine qcc (base:=X.base) hfs stk hfr hx rfl rfl fun h' T' hs' t' k=>go h' T' _ hs' t' k fun b hb=>?_
   exact .inl (List.mem_singleton.mp hb)
end
end L2
namespace L2
open PySem PySem.Spec PyProof.Rows
def TyX (K:PySem.W.Frag) (H:Hp) (x:V) (t:Value):Prop:=TyOf K H x t∨∃ a C dx,x=.ref a∧t=.ref C∧IsX H a C dx∧XAt K C∧∀ d,dx=some d→∃ fs,H d=some (.xd fs)
theorem TyX.kit {X:Cx} {pins:List (Addr×Obj)} {σ:St} {H:Hp} {s:Shared} {x:V} {u t:Value} (I:Inv X pins σ H s) (rx:RelV x u) (ty:TyX X.K H x t):∃ P:Heap→Prop,PySem.W.KitX X.K u t P∧P s.heap∧u≠.builtin "__main__.__loader__#opaque":=by
 rcases ty with ty | ⟨a,C,dx,rfl,rfl,hx,c,hd⟩
 ·exact ty.kit I rx
 ·cases rx
  obtain ⟨vs,he⟩:=hx.get I.hok
  cases dx with
  | none=>exact ⟨_,qc0 (od:=none) c,⟨he,rfl,rfl,True.intro⟩,fun z=>nomatch z⟩
  | some d =>
   obtain ⟨fs,hf⟩:=hd d rfl
   obtain ⟨od,mA,h1,_⟩:=qey I hf
   exact ⟨_,qc0 (od:=some od) c,⟨he,rfl,rfl,h1⟩,fun z=>nomatch z⟩
def qfN (K:PySem.W.Frag):List V→Hp→VK→Prop:=fun xs H Q=>∃ x y t c b,xs=[x,y]∧TyX K H x t∧qb8 y=some c∧PySem.W.kitOne K t c=some b∧Q (.bl b) H
def qeG (K:PySem.W.Frag):List V→Hp→VK→Prop:=fun xs H Q=>∃ x p ys t cs b,xs=[x,.ref p]∧TyX K H x t∧H p=some (.tup ys)∧ys.map qb8=cs.map some∧PySem.W.kitAny K t cs=some b∧Q (.bl b) H
section
variable {X:Cx} {K:PySem.W.Frag}
theorem zY (hK:X.K=K):zM X (.builtin "isinstance") (qfN K):=by
 subst hK
 intro pins s σ H xs us Q I r h
 obtain ⟨x,y,t,c,b,rfl,ty,hy,hb,q⟩:=h
 obtain ⟨u,v,rfl,ru,rv⟩:=qdF r
 have e:=qbv hy rv
 subst e
 obtain ⟨P,Z,p,ne⟩:=ty.kit I ru
 exact PySem.W.kia_one Z I.kIn p hb ne fun tk=>⟨.bl b,H,I.tok tk,rfl,q⟩
theorem qcC (hK:X.K=K):zM X (.builtin "isinstance") (qeG K):=by
 subst hK
 intro pins s σ H xs us Q I r h
 obtain ⟨x,p,ys,t,cs,b,rfl,ty,hp,hy,hb,q⟩:=h
 obtain ⟨u,v,rfl,ru,rv⟩:=qdF r
 cases rv
 obtain ⟨P,Z,pz,ne⟩:=ty.kit I ru
 obtain ⟨_,its,rv,o,ho,hc,n,hd⟩:=(show ObjOk X.prog X.w H s.heap p (.tup ys) from I.hok p _ hp)
 have e:=qbc hy rv
 subst e
 obtain ⟨c,dd,dt,sl⟩:=o
 have hc':c=.type "tuple":=hc
 have hd':dt=.seq its.toArray n:=hd
 subst hc' hd'
 exact PySem.W.kia_tup Z I.kIn pz ho hb ne fun tk=>⟨.bl b,H,I.tok tk,rfl,q⟩
end
mutual
inductive EqD (K:PySem.W.Frag) (H:Hp):Nat→V→V→Bool→Prop
 | flat {n:Nat} {x y:V} (fx:zO x=true) (fy:zO y=true):EqD K H n x y (eqV x y)
 | self {n:Nat} {a:Addr}:EqD K H n (.ref a) (.ref a) true
 | deep {n:Nat} {a b:Addr} {k:Bool} (h:EqT K H n a b k) (ne:a≠b):EqD K H n (.ref a) (.ref b) k
inductive EqT (K:PySem.W.Frag) (H:Hp):Nat→Addr→Addr→Bool→Prop
 | lst {n:Nat} {a b:Addr} {xs ys:List V} {e:Nat→Bool} (ha:SqL K H a xs) (hb:SqL K H b ys) (hl:xs.length=ys.length) (he:∀ j x y,xs[j]?=some x→ys[j]?=some y→EqD K H n x y (e j)):EqT K H (n + 1) a b ((List.range xs.length).all e)
 | lstL {n:Nat} {a b:Addr} {xs ys:List V} (ha:SqL K H a xs) (hb:SqL K H b ys) (hl:xs.length≠ys.length):EqT K H (n + 1) a b false
 | tup {n:Nat} {a b:Addr} {xs ys:List V} {e:Nat→Bool} (ha:SqT K H a xs) (hb:SqT K H b ys) (he:∀ j x y,xs[j]?=some x→ys[j]?=some y→EqD K H n x y (e j)):EqT K H (n + 1) a b ((List.range (min xs.length ys.length)).all e&&xs.length==ys.length)
 | lt {n:Nat} {a b:Addr} {xs ys:List V} (ha:SqL K H a xs) (hb:SqT K H b ys):EqT K H (n + 1) a b false
 | tl {n:Nat} {a b:Addr} {xs ys:List V} (ha:SqT K H a xs) (hb:SqL K H b ys):EqT K H (n + 1) a b false
end
theorem jE:∀ {xs:List V} {us:List Value} {j:Nat} {u:Value},Vals xs us→us[j]?=some u→∃ x,xs[j]?=some x∧RelV x u
 | _,_,_,_,.nil,e=>by simp at e
 | _,_,0,_,.cons r _,e=>by simp at e;subst e;exact ⟨_,rfl,r⟩
 | _,_,j + 1,u,.cons _ t,e=>by
  obtain ⟨x,h1,h2⟩:=jE (j:=j) (u:=u) t (by simpa using e)
  exact ⟨x,by simpa using h1,h2⟩
section
variable {X:Cx} {pins:List (Addr×Obj)} {σ:St} {H:Hp} {s:Shared}
theorem qcD (I:Inv X pins σ H s):∀ n,(∀ (A:Around) (x y:V) (k:Bool) (u v:Value),EqD X.K H n x y k→RelV x u→RelV y v→A.units + n < cLine→SeqAt.EqAt A s u v k)∧(∀ (A:Around) (a b:Addr) (k:Bool),EqT X.K H n a b k→A.units + n < cLine→SeqAt.RcAt A s (.ref a) (.ref b) k):=by
 intro n
 induction n with
 | zero =>
  have t0:∀ (A:Around) (a b:Addr) (k:Bool),EqT X.K H 0 a b k→A.units + 0 < cLine→SeqAt.RcAt A s (.ref a) (.ref b) k:=fun A a b k h=>by cases h
  refine ⟨fun A x y k u v h rx ry hu=>?_,t0⟩
  cases h with
  | flat fx fy=>exact qdJ rx ry fx fy
  | self=>cases rx;cases ry;exact SeqAt.EqAt.same _
  | deep h ne=>cases h
 | succ n ih =>
  have t1:∀ (A:Around) (a b:Addr) (k:Bool),EqT X.K H (n + 1) a b k→A.units + (n + 1) < cLine→SeqAt.RcAt A s (.ref a) (.ref b) k:=fun A a b k h hu=>by
   have hu0:A.units < cLine:=by omega
   have hu1:A.in1.units + n < cLine:=by show A.units + 1 + n < cLine;omega
   cases h with
   | @lst _ _ _ xs ys e ha hb hl he =>
    obtain ⟨its,r,pl,hz⟩:=I.list ha
    obtain ⟨its2,r2,pl2,hz2⟩:=I.list hb
    have e1:xs.length=its.toArray.size:=by rw [List.size_toArray];exact r.length
    have e2:ys.length=its2.toArray.size:=by rw [List.size_toArray];exact r2.length
    rw [e1]
    refine SeqAt.RcAt.lists pl.isList pl2.isList (by rw [← e1,← e2,hl]) hu0 fun j h1 h2=>?_
    have g1:its[j]?=some its.toArray[j]:=by simp
    have g2:its2[j]?=some its2.toArray[j]:=by simp
    obtain ⟨x,hx,rx⟩:=jE r g1
    obtain ⟨y,hy,ry⟩:=jE r2 g2
    exact ih.1 A.in1 x y (e j) _ _ (he j x y hx hy) rx ry hu1
   | @lstL _ _ _ xs ys ha hb hl =>
    obtain ⟨its,r,pl,hz⟩:=I.list ha
    obtain ⟨its2,r2,pl2,hz2⟩:=I.list hb
    refine SeqAt.RcAt.lists_lengths pl.isList pl2.isList ?_ hu0
    rw [List.size_toArray,List.size_toArray,← r.length,← r2.length]
    simp [hl]
   | @tup _ _ _ xs ys e ha hb he =>
    obtain ⟨its,r,pl,hz⟩:=I.tuple ha
    obtain ⟨its2,r2,pl2,hz2⟩:=I.tuple hb
    have e1:xs.length=its.toArray.size:=by rw [List.size_toArray];exact r.length
    have e2:ys.length=its2.toArray.size:=by rw [List.size_toArray];exact r2.length
    rw [e1,e2]
    refine SeqAt.RcAt.tuples pl pl2 hu0 fun j h1 h2=>?_
    have g1:its[j]?=some its.toArray[j]:=by simp
    have g2:its2[j]?=some its2.toArray[j]:=by simp
    obtain ⟨x,hx,rx⟩:=jE r g1
    obtain ⟨y,hy,ry⟩:=jE r2 g2
    exact ih.1 A.in1 x y (e j) _ _ (he j x y hx hy) rx ry hu1
   | lt ha hb =>
    obtain ⟨its,r,pl,hz⟩:=I.list ha
    obtain ⟨its2,r2,pl2,hz2⟩:=I.tuple hb
    exact SeqAt.RcAt.list_tuple pl.isList pl2 hu0
   | tl ha hb =>
    obtain ⟨its,r,pl,hz⟩:=I.tuple ha
    obtain ⟨its2,r2,pl2,hz2⟩:=I.list hb
    exact SeqAt.RcAt.tuple_list pl pl2.isList hu0
  refine ⟨fun A x y k u v h rx ry hu=>?_,t1⟩
  cases h with
  | flat fx fy=>exact qdJ rx ry fx fy
  | self=>cases rx;cases ry;exact SeqAt.EqAt.same _
  | deep h ne=>cases rx;cases ry;exact SeqAt.EqAt.of_refs ne (t1 A _ _ k h hu)
theorem ne_refs (I:Inv X pins σ H s) {n:Nat} {A:Around} {a b:Addr} {k:Bool} (h:EqT X.K H n a b k) (hu:A.units + n < cLine):SeqAt.RcNeAt A s (.ref a) (.ref b) (!k):=by
 cases n with
 | zero=>cases h
 | succ n =>
  have ih:=qcD I n
  have hu0:A.units < cLine:=by omega
  have hu1:A.in1.units + n < cLine:=by show A.units + 1 + n < cLine;omega
  cases h with
  | @lst _ _ _ xs ys e ha hb hl he =>
   obtain ⟨its,r,pl,hz⟩:=I.list ha
   obtain ⟨its2,r2,pl2,hz2⟩:=I.list hb
   have e1:xs.length=its.toArray.size:=by rw [List.size_toArray];exact r.length
   have e2:ys.length=its2.toArray.size:=by rw [List.size_toArray];exact r2.length
   rw [e1]
   refine SeqAt.RcNeAt.lists pl.isList pl2.isList (by rw [← e1,← e2,hl]) hu0 fun j h1 h2=>?_
   obtain ⟨x,hx,rx⟩:=jE r (show its[j]?=some its.toArray[j] by simp)
   obtain ⟨y,hy,ry⟩:=jE r2 (show its2[j]?=some its2.toArray[j] by simp)
   exact ih.1 A.in1 x y (e j) _ _ (he j x y hx hy) rx ry hu1
  | @lstL _ _ _ xs ys ha hb hl =>
   obtain ⟨its,r,pl,hz⟩:=I.list ha
   obtain ⟨its2,r2,pl2,hz2⟩:=I.list hb
   refine SeqAt.RcNeAt.lists_lengths pl.isList pl2.isList ?_ hu0
   rw [List.size_toArray,List.size_toArray,← r.length,← r2.length]
   simp [hl]
  | @tup _ _ _ xs ys e ha hb he =>
   obtain ⟨its,r,pl,hz⟩:=I.tuple ha
   obtain ⟨its2,r2,pl2,hz2⟩:=I.tuple hb
   have e1:xs.length=its.toArray.size:=by rw [List.size_toArray];exact r.length
   have e2:ys.length=its2.toArray.size:=by rw [List.size_toArray];exact r2.length
   rw [e1,e2]
   refine SeqAt.RcNeAt.tuples pl pl2 hu0 fun j h1 h2=>?_
   obtain ⟨x,hx,rx⟩:=jE r (show its[j]?=some its.toArray[j] by simp)
   obtain ⟨y,hy,ry⟩:=jE r2 (show its2[j]?=some its2.toArray[j] by simp)
   exact ih.1 A.in1 x y (e j) _ _ (he j x y hx hy) rx ry hu1
  | lt ha hb =>
   obtain ⟨its,r,pl,hz⟩:=I.list ha
   obtain ⟨its2,r2,pl2,hz2⟩:=I.tuple hb
   exact SeqAt.RcNeAt.list_tuple pl.isList pl2 hu0
  | tl ha hb =>
   obtain ⟨its,r,pl,hz⟩:=I.tuple ha
   obtain ⟨its2,r2,pl2,hz2⟩:=I.list hb
   exact SeqAt.RcNeAt.tuple_list pl pl2.isList hu0
theorem qeH {A:Around} {x y:V} {u v:Value} (rx:RelV x u) (ry:RelV y v) (fx:zO x=true) (fy:zO y=true):SeqAt.RcAt A s u v (eqV x y)∧SeqAt.RcNeAt A s u v (!eqV x y):=by
 cases x with
 | non =>
  cases rx
  cases y with
  | non=>cases ry;exact ⟨SeqAt.RcAt.none_none,SeqAt.RcNeAt.none_none⟩
  | bl b=>cases ry;exact ⟨SeqAt.RcAt.none_bool b,SeqAt.RcNeAt.none_bool b⟩
  | int b=>obtain ⟨t,rfl⟩:=ry;exact ⟨SeqAt.RcAt.none_int b t,SeqAt.RcNeAt.none_int b t⟩
  | str b=>obtain ⟨t,rfl⟩:=ry;exact ⟨SeqAt.RcAt.none_str b t,SeqAt.RcNeAt.none_str b t⟩
  | _=>cases fy
 | bl a =>
  cases rx
  cases y with
  | non=>cases ry;exact ⟨SeqAt.RcAt.bool_none a,SeqAt.RcNeAt.bool_none a⟩
  | bl b=>cases ry;exact ⟨SeqAt.RcAt.bool_bool a b,SeqAt.RcNeAt.bool_bool a b⟩
  | int b=>obtain ⟨t,rfl⟩:=ry;exact ⟨SeqAt.RcAt.bool_int a b t,SeqAt.RcNeAt.bool_int a b t⟩
  | str b=>obtain ⟨t,rfl⟩:=ry;exact ⟨SeqAt.RcAt.bool_str a b t,SeqAt.RcNeAt.bool_str a b t⟩
  | _=>cases fy
 | int a =>
  obtain ⟨t',rfl⟩:=rx
  cases y with
  | non=>cases ry;exact ⟨SeqAt.RcAt.int_none a t',SeqAt.RcNeAt.int_none a t'⟩
  | bl b=>cases ry;exact ⟨SeqAt.RcAt.int_bool a t' b,SeqAt.RcNeAt.int_bool a t' b⟩
  | int b=>obtain ⟨t,rfl⟩:=ry;exact ⟨SeqAt.RcAt.int_int a t' b t,SeqAt.RcNeAt.int_int a t' b t⟩
  | str b=>obtain ⟨t,rfl⟩:=ry;exact ⟨SeqAt.RcAt.int_str a t' b t,SeqAt.RcNeAt.int_str a t' b t⟩
  | _=>cases fy
 | str a =>
  obtain ⟨t',rfl⟩:=rx
  cases y with
  | non=>cases ry;exact ⟨SeqAt.RcAt.str_none a t',SeqAt.RcNeAt.str_none a t'⟩
  | bl b=>cases ry;exact ⟨SeqAt.RcAt.str_bool a t' b,SeqAt.RcNeAt.str_bool a t' b⟩
  | int b=>obtain ⟨t,rfl⟩:=ry;exact ⟨SeqAt.RcAt.str_int a t' b t,SeqAt.RcNeAt.str_int a t' b t⟩
  | str b=>obtain ⟨t,rfl⟩:=ry;exact ⟨SeqAt.RcAt.str_str a t' b t,SeqAt.RcNeAt.str_str a t' b t⟩
  | _=>cases fy
 | _=>cases fx
end
def qfc (K:PySem.W.Frag) (neg:Bool):R2:=fun x y H Q=>(zO x=true∧zO y=true∧Q (.bl (if neg then !eqV x y else eqV x y)) H) ∨
 (∃ a b k n,x=.ref a∧y=.ref b∧n≤60∧EqT K H n a b k∧Q (.bl (if neg then !k else k)) H) ∨
 (∃ a kvs,x=.ref a∧y=.ref a∧H a=some (.dK kvs)∧Q (.bl (!neg)) H)
theorem qbe {κ:Type} [DecidableEq κ]:∀ {kb:List (κ×Value)} {k:κ} {v:Value},(kb.map (·.1)).Nodup→(k,v)∈kb→valueAt kb k=some v
 | [],_,_,_,h=>by cases h
 | (k',v')::r,k,v,hn,h=>by
  obtain ⟨h1,h2⟩:=List.nodup_cons.mp (show (k'::r.map (·.1)).Nodup from hn)
  unfold valueAt
  rw [List.find?_cons]
  by_cases e:k'=k
  ·subst e
   simp only [decide_true]
   rcases List.mem_cons.mp h with z | z
   ·cases z;rfl
   ·exact absurd (List.mem_map.mpr ⟨(k',v),z,rfl⟩) h1
  ·simp only [e,decide_false]
   rcases List.mem_cons.mp h with z | z
   ·cases z;exact absurd rfl e
   ·exact qbe h2 z
theorem qcE {A:Around} {s:Shared} {κ:Type} [DecidableEq κ] (kb:List (κ×Value)) (hn:(kb.map (·.1)).Nodup):∀ ka:List (κ×Value),(∀ p∈ka,p∈kb)→PySem.W.KeqHits A s kb ka true
 | [],_=>.nil
 | (k,v)::r,h=>by
  have hv:valueAt kb k=some v:=qbe hn (h (k,v) List.mem_cons_self)
  exact .hit (e:=true) (b:=true) hv (SeqAt.EqAt.same v) (qcE kb hn r fun p hp=>h p (List.mem_cons_of_mem _ hp))
section
variable {X:Cx} {K:PySem.W.Frag}
theorem k_eqU (hK:X.K=K) (hu:X.A.units + 100 < cLine):OpR X (compareOp .Eq) (qfc K false):=by
 subst hK
 intro pins s σ H x y u v Q I rx ry h
 rcases h with ⟨fx,fy,q⟩ | ⟨a,b,k,n,rfl,rfl,hn,e,q⟩ | ⟨a,kvs,rfl,rfl,ea,q⟩
 ·exact (qeH rx ry fx fy).1 _ _ _ _ ⟨.bl _,H,I,rfl,q⟩
 ·cases rx;cases ry
  exact (qcD I n).2 X.A a b k e (by omega) _ _ _ _ ⟨.bl _,H,I,rfl,q⟩
 ·cases rx;cases ry
  obtain ⟨_,hs,vs,r,d⟩:=(show ObjOk X.prog X.w H s.heap a (.dK kvs) from I.hok a _ ea)
  obtain ⟨_,_,_,_,_,_,_,_,nd⟩:=id d
  refine PySem.W.keq_eq hs hs d d (by omega) (fun _=>qcE vs nd vs fun _ h=>h) ?_
  rw [beq_self_eq_true]
  exact ⟨.bl true,H,I,rfl,q⟩
theorem qaG (hK:X.K=K) (hu:X.A.units + 100 < cLine):OpR X (compareOp .NotEq) (qfc K true):=by
 subst hK
 intro pins s σ H x y u v Q I rx ry h
 rcases h with ⟨fx,fy,q⟩ | ⟨a,b,k,n,rfl,rfl,hn,e,q⟩ | ⟨a,kvs,rfl,rfl,ea,q⟩
 ·exact (qeH rx ry fx fy).2 _ _ _ _ ⟨.bl _,H,I,rfl,q⟩
 ·cases rx;cases ry
  exact ne_refs I e (by omega) _ _ _ _ ⟨.bl _,H,I,rfl,q⟩
 ·cases rx;cases ry
  obtain ⟨_,hs,vs,r,d⟩:=(show ObjOk X.prog X.w H s.heap a (.dK kvs) from I.hok a _ ea)
  obtain ⟨_,_,_,_,_,_,_,_,nd⟩:=id d
  refine PySem.W.keq_ne hs hs d d (by omega) (fun _=>qcE vs nd vs fun _ h=>h) ?_
  rw [beq_self_eq_true]
  exact ⟨.bl false,H,I,rfl,q⟩
end
end L2
namespace L2
open PySem PySem.Spec PyProof.Rows
section
variable {X:Cx} {K:PySem.W.Frag}
def qf9 (K:PySem.W.Frag):R2:=fun x y H Q=>rIx K x y H Q∨∃ a v,x=.ref a∧DGet H a y (some v)∧Q v H
theorem qE (hK:X.K=K) (hu:X.A.units + 100 < cLine):IxR X (qf9 K):=by
 subst hK
 refine IxR.or ix_seq ?_
 intro value slice pins s σ H x y v u Q I rx ry h hs
 obtain ⟨a,z,rfl,g,q⟩:=h
 cases rx
 exact tail_any (dict_typeIs I g) PySem.F.slot_dict_getitem.lookup (d_getItem (by omega) I g ry fun w' s3 I3 rw'=>⟨z,H,I3,rw',q⟩) hs
def rSetU:qfz:=fun o i v H Q=>qe8 o i v H Q∨∃ a H',o=.ref a∧DPut H a i v H'∧Q H'
theorem qc4 (hu:X.A.units + 100 < cLine):qgh X rSetU:=by
 intro pins s σ H o i v ov iv u Q I ro ri rv h
 rcases h with h | ⟨a,H',rfl,g,q⟩
 ·exact set_list pins s σ H o i v ov iv u Q I ro ri rv h
 ·cases ro
  exact d_setItem (by omega) I g ri rv fun s' I'=>⟨H',I',q⟩
def qfO (K:PySem.W.Frag) (neg:Bool):R2:=fun x y H Q=>rIn K neg x y H Q∨(∃ a o,y=.ref a∧DGet H a x o∧Q (.bl (if neg then !o.isSome else o.isSome)) H) ∨
 (∃ p xs e n,y=.ref p∧SqL K H p xs∧n≤60∧(∀ z∈xs,EqD K H n z x (e z))∧Q (.bl (if neg then !xs.any e else xs.any e)) H)
theorem qeI {pins:List (Addr×Obj)} {σ:St} {H:Hp} {s:Shared} {xs:List V} {its:List Value} {x:V} {u:Value} {e:V→Bool} {n:Nat} {A:Around} (I:Inv X pins σ H s) (r:Vals xs its) (rx:RelV x u) (hu:A.units + n < cLine) (he:∀ z∈xs,EqD X.K H n z x (e z)) :
  ∃ e':Value→Bool,(∀ w,w∈its.toArray→SeqAt.EqAt A s w u (e' w))∧its.toArray.any e'=xs.any e:=by
 classical
 refine ⟨fun w=>decide (∃ z∈xs,RelV z w∧e z=true),fun w hw=>?_,?_⟩
 ·have hw':w∈its:=by simpa using hw
  obtain ⟨j,hj⟩:=List.mem_iff_getElem?.mp hw'
  obtain ⟨z,hz,rz⟩:=jE r hj
  have hm:=List.mem_of_getElem? hz
  have eq:decide (∃ z∈xs,RelV z w∧e z=true)=e z:=by
   cases q:e z with
   | true=>exact decide_eq_true ⟨z,hm,rz,q⟩
   | false =>
    refine decide_eq_false fun ⟨z',_,rz',q'⟩=>?_
    rw [RelV.inj rz' rz,q] at q'
    cases q'
  show SeqAt.EqAt A s w u (decide (∃ z∈xs,RelV z w∧e z=true))
  rw [eq]
  exact (qcD I n).1 A z x (e z) w u (he z hm) rz rx hu
 ·rw [Bool.eq_iff_iff,List.any_eq_true]
  constructor
  ·intro h
   have h':its.any (fun w=>decide (∃ z∈xs,RelV z w∧e z=true))=true:=by simpa using h
   obtain ⟨w,_,q⟩:=List.any_eq_true.mp h'
   obtain ⟨z,hz,_,ez⟩:=of_decide_eq_true q
   exact ⟨z,hz,ez⟩
  ·rintro ⟨z,hz,ez⟩
   obtain ⟨j,hj⟩:=List.mem_iff_getElem?.mp hz
   obtain ⟨w,hw,rz⟩:=r.get hj
   have:its.any (fun w=>decide (∃ z∈xs,RelV z w∧e z=true))=true:=List.any_eq_true.mpr ⟨w,List.mem_of_getElem? hw,decide_eq_true ⟨z,hz,rz,ez⟩⟩
   simpa using this
theorem qfd (hK:X.K=K) (hu:X.A.units + 100 < cLine):OpR X (compareOp .In) (qfO K false):=by
 subst hK
 intro pins s σ H x y u v Q I rx ry h
 rcases h with h | ⟨a,o,rfl,g,q⟩ | ⟨p,xs,e,n,rfl,hl,hn,he,q⟩
 ·exact op_in_seq pins s σ H x y u v Q I rx ry h
 ·cases ry
  exact d_in (by omega) I g rx fun s' I'=>⟨.bl _,H,I',rfl,q⟩
 ·cases ry
  obtain ⟨its,r,pl,hz⟩:=I.list hl
  obtain ⟨e',h1,h2⟩:=qeI (A:=X.A.in1) I r rx (by show X.A.units + 1 + n < cLine;omega) he
  exact SeqAt.in_listAt e' pl.isList h1 (by rw [h2];exact ⟨.bl _,H,I,rfl,q⟩)
theorem qal (hK:X.K=K) (hu:X.A.units + 100 < cLine):OpR X (compareOp .NotIn) (qfO K true):=by
 subst hK
 intro pins s σ H x y u v Q I rx ry h
 rcases h with h | ⟨a,o,rfl,g,q⟩ | ⟨p,xs,e,n,rfl,hl,hn,he,q⟩
 ·exact op_notIn_seq pins s σ H x y u v Q I rx ry h
 ·cases ry
  exact d_notIn (by omega) I g rx fun s' I'=>⟨.bl _,H,I',rfl,q⟩
 ·cases ry
  obtain ⟨its,r,pl,hz⟩:=I.list hl
  obtain ⟨e',h1,h2⟩:=qeI (A:=X.A.in1) I r rx (by show X.A.units + 1 + n < cLine;omega) he
  exact SeqAt.notIn_listAt e' pl.isList h1 (by rw [h2];exact ⟨.bl _,H,I,rfl,q⟩)
def rListU (K:PySem.W.Frag):List V→Hp→VK→Prop:=fun xs H Q=>(∃ p ys,xs=[.ref p]∧(SqL K H p ys∨SqT K H p ys)∧∀ l,H l=none→Q (.ref l) (upd H l (.lst ys))) ∨
 (∃ p kvs,xs=[.ref p]∧H p=some (.dK kvs)∧∀ l,H l=none→Q (.ref l) (upd H l (.lst (kvs.map fun kv=>kV kv.1)))) ∨
 (∃ x,xs=[.str x]∧x.length≤1000∧∀ l,H l=none→Q (.ref l) (upd H l (.lst (x.cps.toList.map fun c=>.str ⟨#[c]⟩))))
theorem qbw {α β:Type} {F:α→β→Prop}:∀ {l:List α} {m:List β} {j:Nat} {a:α},Paired F l m→l[j]?=some a→∃ b,m[j]?=some b∧F a b
 | _,_,_,_,.nil,e=>by simp at e
 | _,_,0,_,.cons r _,e=>by simp at e;subst e;exact ⟨_,rfl,r⟩
 | _,_,j + 1,a,.cons _ t,e=>by
  obtain ⟨b,h1,h2⟩:=qbw (j:=j) (a:=a) t (by simpa using e)
  exact ⟨b,by simpa using h1,h2⟩
theorem qaO:∀ {ys:List V} {us:List Value},ys.length=us.length→(∀ (j:Nat) y u,ys[j]?=some y→us[j]?=some u→RelV y u)→Vals ys us
 | [],[],_,_=>.nil
 | [],_::_,h,_=>by cases h
 | _::_,[],h,_=>by cases h
 | y::ys,u::us,h,q=>.cons (q 0 y u rfl rfl) (qaO (Nat.succ.inj h) fun j y' u' h1 h2=>q (j + 1) y' u' (by simpa using h1) (by simpa using h2))
theorem qav (hK:X.K=K) (hc:X.calm=true):zM X (.type "list") (rListU K):=by
 subst hK
 intro pins s σ H xs us Q I r h
 rcases h with h | ⟨p,kvs,rfl,ea,q⟩ | ⟨x,rfl,hx,q⟩
 ·exact call_list_of pins s σ H xs us Q I r h
 ·obtain ⟨u,rfl,ru⟩:=qa5 r
  cases ru
  obtain ⟨hz,hs,vs,rv,d⟩:=(show ObjOk X.prog X.w H s.heap p (.dK kvs) from I.hok p _ ea)
  obtain ⟨ep,hat⟩:=d.dictAt
  have hl:kvs.length=vs.length:=rv.length
  refine PySem.W.kdl_call (PySem.W.kdl_dict (knd:=jS X.prog X.w) (kvs:=vs) (ep:=ep) hs) (I.ok.hd hc) hat (by rw [← hl];exact hz) fun h' tk acc' c' kp e it=>?_
  obtain ⟨i1,i2⟩:=it
  have hv:Vals (kvs.map fun kv=>kV kv.1) acc'.toList:=by
   refine qaO (by rw [List.length_map,hl,← i1];simp) fun j y u h1 h2=>?_
   obtain ⟨k,x,h3,h4⟩:=i2 j u (by simpa using h2)
   rw [List.getElem?_map] at h1
   cases q1:kvs[j]? with
   | none=>rw [q1] at h1;cases h1
   | some kv =>
    rw [q1] at h1
    cases h1
    obtain ⟨q2,h5,h6,h7⟩:=qbw rv q1
    rw [h3] at h5
    cases h5
    have e1:kv.1=k:=h6
    show RelV (kV kv.1) u
    rw [e1]
    rcases jc (show qcu k u=true from h4) with ⟨i,t,rfl,rfl⟩ | ⟨z,t,rfl,rfl⟩
    ·exact ⟨t,rfl⟩
    ·exact ⟨t,rfl⟩
  refine ⟨.ref s.heap.objs.size,_,I.laid (t':=tk) kp (Nat.le_refl _) (show ObjOk X.prog X.w _ h' _ (.lst (kvs.map fun kv=>kV kv.1)) from ⟨by rw [List.length_map];exact hz,acc'.toList,c',hv,by simpa using e⟩),rfl,q _ (I.hok.fresh (Nat.le_refl _))⟩
 ·obtain ⟨u,rfl,t,rfl⟩:=qa5 r
  have hsz:x.cps.size≤sizeLine:=Nat.le_of_lt (qk hx)
  refine call_list_str (I.ok.hd hc) x t (fun h' tk acc' c' kp e it=>?_) hsz
  obtain ⟨i1,i2⟩:=it
  have hv:Vals (x.cps.toList.map fun c=>V.str ⟨#[c]⟩) acc'.toList:=by
   refine qaO (by rw [List.length_map];simp [i1]) fun j y u h1 h2=>?_
   obtain ⟨c,t',h3,rfl⟩:=i2 j u (by simpa using h2)
   rw [List.getElem?_map] at h1
   have h3':x.cps.toList[j]?=some c:=by simpa using h3
   rw [h3'] at h1
   cases h1
   exact ⟨t',rfl⟩
  refine ⟨.ref s.heap.objs.size,_,I.laid (t':=tk) kp (Nat.le_refl _) (show ObjOk X.prog X.w _ h' _ (.lst (x.cps.toList.map fun c=>V.str ⟨#[c]⟩)) from ⟨by rw [List.length_map];simpa using hsz,acc'.toList,c',hv,by simpa using e⟩),rfl,q _ (I.hok.fresh (Nat.le_refl _))⟩
end
structure CMethOk (P:Program) (w:World) (K:PySem.W.Frag) (mg:Str→Option Value) (base:Heap) (CX:CXT) (k:Nat) (C:Addr) (x m:Str) (ps:List Str) (sp:Sp):Prop where
 ex:∃ f fd,FnOk P w K mg base CX k f fd ps sp∧CMeth K C m f∧Binds K fd ps []
 mg_:mg x=some (.ref C)
section
variable {X:Cx} {k:Nat} {C:Addr} {ps:List Str} {sp:Sp} {x m:Str} {p pos apos:Pos} {e:Expr} {es:List Expr} {t:TA}
theorem qaH (D:MakeOk X.prog X.w X.K X.mg X.base CX0 k C x ps sp) (hr:Room (k + 1) X.A) (ha:PA X (e::es) t) (hg:Gl X x:=by rfl) (hdb:(x==("__debug__":Str))=false:=by decide)
  (he:starEach (e::es) X.env=(false,eval e X.env)::starEach es X.env:=by rfl) (hpl:(backTo pos (starEach es X.env)).any (·.1)=false:=by rfl):PE X (.Call (.Name x p) (e::es) [] pos) (qe7 C sp [] E0 t):=by
 obtain ⟨f,fd,F,M,hb⟩:=D.ex
 exact pe_make M F hr hg D.mg_ hb .nil qx ha hdb he hpl
theorem zu {pl:Sem Bool} (D:CMethOk X.prog X.w X.K X.mg X.base CX0 k C x m ps sp) (hr:Room k X.A) (ha:PA X (e::es) t) (hg:Gl X x:=by rfl) (hdb:(x==("__debug__":Str))=false:=by decide)
  (hst:starEach (e::es) X.env=(false,eval e X.env)::starEach es X.env:=by rfl) (hpl:(backTo pos (starEach es X.env)).any (·.1)=false:=by rfl)
  (ht:eval (.Call (.Attribute (.Name x p) m apos) (e::es) [] pos) X.env=(do
   let ov ← eval (.Name x p) X.env
   standAt apos.atName
   let (f,first) ← holding [ov] (getMethod ov m pl)
   callWith pos f first (backTo pos (starEach (e::es) X.env)) (backToKw pos (keywordEach [] X.env))):=by rfl) :
  PE X (.Call (.Attribute (.Name x p) m apos) (e::es) [] pos) (qcx sp [] E0 t):=by
 obtain ⟨f,fd,F,M,hb⟩:=D.ex
 exact pe_clsm (pl:=pl) M F hr hg D.mg_ hb qx ha hdb hst hpl ht
end
end L2
namespace L2
open PySem PySem.Spec PyProof.Rows
theorem own_eq_same {prog:Program} {w:World} {A:Around} {E:Value→Shared→Prop} {s:Shared} {K:PySem.W.Frag} {x C:Addr} {ox:Obj} {od:Option Obj} {Q:Value→Shared→Prop} (hu:A.units < cLine) (X:K.In s.heap) (I:PySem.W.InstAt s.heap x ox C od)
  (hs:PySem.W.findIn K (.ref C) "__eq__"=some (some (.builtin "object.__eq__"))) (ho:PySem.W.mroIn K C (.type "object")=some true) (h:Q (.bool true) s):wpAny (model prog w) A (richCompare .Eq (.ref x) (.ref x)) Q E s:=by
 have call1:∀ {A':Around} {Q':Value→Shared→Prop},Q' (.bool true) s→wpAny (model prog w) A' (call (.builtin "object.__eq__") [.ref x,.ref x]) Q' E s:=fun {A' Q'} q=>by
  refine wpAny_call (codeAny_call_builtin PySem.F.slot_object_eq.plain PySem.F.entry_object_eq (@PySem.W.check_slot (model prog w) _ _ s "object.__eq__" "object" "__eq__" (.ref x) [.ref x] [] _ (by decide +kernel) (by decide +kernel) (I.type.andThen (PySem.W.looks_mroIn X ho)) (PySem.F.args_object_eq_2 _ _) ?_))
  refine wpAny_bind (wpAny_pure (wpAny_bind (wpAny_isSame_ref_self ?_)))
  exact wpAny_pure q
 have one:wpAny (model prog w) A (tryCompare (.ref x) "__eq__" (.ref x)) (fun r s'=>∃ v,r=some v∧Q v s') E s:=by
  unfold tryCompare
  refine wpAny_bind ?_
  simp only [callSpecialIfBound?,bindSpecialIfBound?]
  refine wpAny_holding (wpAny_bind (wpAny_bind (wpAny_bind (I.type.here ((PySem.W.looks_findIn X hs).here ?_)))))
  refine wpAny_bind (wpAny_askSetting (wpAny_ite ?_))
  have b:=PySem.F.slot_object_eq.bind (.ref x)
  have fin:wpAny (model prog w) A (call (.builtin "object.__eq__") ([.ref x]++[.ref x])>>=fun v=>pure (some v)) (fun r s'=>wpAny (model prog w) A (match r with | some .notImplemented | none=>pure none | some v=>pure (some v)) (fun r s'=>∃ v,r=some v∧Q v s') E s') E s:=
   wpAny_bind (call1 (wpAny_pure (wpAny_pure ⟨_,rfl,h⟩)))
  split
  ·exact wpAny_bind (wpAny_of_eq b (wpAny_pure fin))
  ·exact wpAny_tryCatch (wpAny_bind (wpAny_of_eq b (wpAny_pure fin)))
 unfold richCompare
 simp only [oneThing_ref]
 refine wpAny_holding (wpAny_bind (wpAny_cRoomFor hu ?_))
 refine wpAny_bind (I.type.here (wpAny_bind (I.type.here ?_)))
 rw [if_neg (by simp)]
 refine wpAny_bind (wpAny_pure ?_)
 simp only [Bool.false_eq_true,if_false]
 refine wpAny_bind (wpAny_mono one (fun r s' z=>?_) fun _ _ e=>e)
 obtain ⟨v,rfl,hq⟩:=z
 exact wpAny_pure hq
structure OEq (K:PySem.W.Frag) (C:Addr):Prop where
 eq:PySem.W.findIn K (.ref C) "__eq__"=some (some (.builtin "object.__eq__"))
 ob:PySem.W.mroIn K C (.type "object")=some true
def qgW (K:PySem.W.Frag):R2:=fun x y H Q=>qfc K false x y H Q∨∃ a C dx fs,x=.ref a∧y=.ref a∧H a=some (.ins C dx fs)∧OEq K C∧Q (.bl true) H
theorem k_eqW {X:Cx} {K:PySem.W.Frag} (hK:X.K=K) (hu:X.A.units + 100 < cLine):OpR X (compareOp .Eq) (qgW K):=by
 subst hK
 intro pins s σ H x y u v Q I rx ry h
 rcases h with h | ⟨a,C,dx,fs,rfl,rfl,ea,oe,q⟩
 ·exact k_eqU rfl hu pins s σ H x y u v Q I rx ry h
 ·cases rx;cases ry
  obtain ⟨mA,O,_⟩:=qaM I.hok ea
  obtain ⟨od,J,_⟩:=O.look
  exact own_eq_same (by omega) I.kIn J oe.eq oe.ob ⟨.bl true,H,I,rfl,q⟩
end L2
namespace L2
open PySem PySem.Spec PyProof.Rows
theorem jg {X:Cx}:MtR X "list.append" qcz:=mt_append
theorem qcF {X:Cx}:MtR X "list.pop" qgP:=mt_pop
theorem qad:bootBuiltins "ValueError"=some (.type "ValueError"):=by decide +kernel
section
variable {D:Ends} {σ:St} {H:Hp} {Q:VK} {t u:TS} {te ta tb tc:TE} {tas:TA} {K:PySem.W.Frag} {sp:Sp} {E:XK} {EK:St→XK} {C:Addr} {f m:Str}
theorem vFldU (h:ta σ H fun x H1=>(∃ a C dx fs v,x=.ref a∧H1 a=some (.ins C dx fs)∧Cls K C∧NoAttr K C f∧fs.lookup f=some v∧Q v H1) ∨
 (∃ a C dx fs v,x=.ref a∧IsX H1 a C (some dx)∧XAt K C∧NoAttr K C f∧H1 dx=some (.xd fs)∧fs.lookup f=some v∧Q v H1)):qfL K ta f σ H Q:=h
theorem vSFldU (h:te σ H fun y H1=>ta σ H1 fun x H2=>(∃ a C dx fs,x=.ref a∧H2 a=some (.ins C dx fs)∧Cls K C∧NoAttr K C f∧fs.length < 1000∧D.nx σ (upd H2 a (.ins C dx (jf f y fs)))) ∨
 (∃ a C,x=.ref a∧H2 a=some (XN a C none)∧XAt K C∧NoAttr K C f∧∀ dx,H2 dx=none→D.nx σ (upd (upd H2 dx (.xd [(f,y)])) a (XN a C (some dx))))):qfM K ta te f D σ H:=h
theorem vXMake (h:tas σ H fun vs H1=>vs.length≤1000∧∀ x,H1 x=none→sp (.ref x::vs) (upd H1 x (XN x C none)) (fun v H2=>v=.non∧Q (.ref x) H2) E):qdS C sp E tas σ H Q:=h
theorem vMake (h:tas σ H fun vs H1=>∀ x dx,H1 x=none→H1 dx=none→dx≠x→sp (.ref x::(vs++[])) (upd (upd H1 dx (.own x)) x (.ins C dx [])) (fun v H2=>v=.non∧Q (.ref x) H2) E):qe7 C sp [] E tas σ H Q:=h
theorem vMeth (h:ta σ H fun x H1=>∃ a dx fs,x=.ref a∧H1 a=some (.ins C dx fs)∧fs.lookup m=none∧tas σ H1 fun vs H2=>sp (x::(vs++[])) H2 Q E):qds C m sp [] E ta tas σ H Q:=h
theorem vVinit (h:tas σ H fun vs H1=>∃ a C y,vs=[.ref a,y]∧H1 a=some (XN a C none)∧XAt K C∧Q .non H1):qez K tas σ H Q:=h
theorem vCallS (h:tas σ H fun vs H1=>sp vs H1 Q (EK σ)):qeD sp EK tas σ H Q:=h
theorem vMethS (h:ta σ H fun x H1=>∃ a dx fs,x=.ref a∧H1 a=some (.ins C dx fs)∧fs.lookup m=none∧tas σ H1 fun vs H2=>sp (x::vs) H2 Q (EK σ)):qeE C m sp EK ta tas σ H Q:=h
theorem vMakeS (h:tas σ H fun vs H1=>∀ x dx,H1 x=none→H1 dx=none→dx≠x→sp (.ref x::vs) (upd (upd H1 dx (.own x)) x (.ins C dx [])) (fun v H2=>v=.non∧Q (.ref x) H2) (EK σ)):tMakeS C sp EK tas σ H Q:=h
theorem vRaise (h:te σ H fun x H1=>∃ a C dx,x=.ref a∧H1 a=some (XN a C dx)∧XAt K C∧EK σ (.ref C) dx (upd H1 a (XO a C dx))):qeC K EK te D σ H:=h
theorem qaP {x y:V} {t cv:Value} {b:Bool} (ty:TyX K H x t) (hy:qb8 y=some cv) (hb:PySem.W.kitOne K t cv=some b) (h:Q (.bl b) H):qfN K [x,y] H Q:=⟨x,y,t,cv,b,rfl,ty,hy,hb,h⟩
end
end L2
namespace L2
open PySem PySem.Spec PyProof.Rows
section
variable {prog:Program} {w:World} {A:Around} {E:Value→Shared→Prop} {s:Shared}
theorem none_dict {a:Addr} {Q:Value→Shared→Prop} (hT:s.TypeIs (.ref a) "dict") (hu:A.units < cLine) (h:Q (.bool false) s):wpAny (model prog w) A (richCompare .Eq .none (.ref a)) Q E s:=by
 refine SeqAt.rc_eq_decline_or (k:=false) rfl hT (by decide) PySem.F.sub_dict_NoneType PySem.F.slot_NoneType_eq PySem.F.slot_dict_eq_refl
  (fun _ hq=>call_gives PySem.F.slot_NoneType_eq rfl PySem.F.entry_NoneType_eq (PySem.F.args_NoneType_eq_2 _ _) (SeqAt.NoneType___eq___none_ref_0 a) hq) (fun Q' hq=>?_) (fun _ hq=>wpAny_of_eq (rfl:isSame .none (.ref a)=pure false) hq) (.inr hu) h
 refine wpAny_call_entry PySem.F.slot_dict_eq_refl hT PySem.F.entry_dict_eq ?_ (PySem.F.args_dict_eq_2 _ _)
 show wpAny _ _ (Builtin.Dict.dictSlotArgs "__eq__" ⟨[.ref a,.none],[]⟩>>=_) _ _ s
 refine wpAny_bind ?_
 unfold Builtin.Dict.dictSlotArgs
 refine wpAny_bind (wpAny_notOrdered_dict hT ?_)
 show wpAny _ _ (pure (Value.ref a,Value.none)) _ _ s
 refine wpAny_pure ?_
 refine wpAny_bind (wpAny_isInstance (T:="NoneType") (b:=false) rfl PySem.F.sub_NoneType_dict ?_)
 simp only [Bool.not_false,if_true]
 exact wpAny_bind (wpAny_rule (wpAny_pure ⟨_,rfl,hq⟩))
theorem none_own {K:PySem.W.Frag} {x C:Addr} {ox:Obj} {od:Option Obj} {Q:Value→Shared→Prop} (hu:A.units < cLine) (X:K.In s.heap) (I:PySem.W.InstAt s.heap x ox C od) (oe:OEq K C) (hn:PySem.W.mroIn K C (.type "NoneType")=some false)
  (h:Q (.bool false) s):wpAny (model prog w) A (richCompare .Eq .none (.ref x)) Q E s:=by
 have t1:wpAny (model prog w) A (tryCompare .none "__eq__" (.ref x)) (fun r s'=>r=none∧s'=s) E s:=by
  unfold tryCompare
  refine wpAny_bind ?_
  simp only [callSpecialIfBound?,bindSpecialIfBound?]
  refine wpAny_holding (wpAny_bind (wpAny_bind ?_))
  refine wpAny_bind (wpAny_of_eq (rfl:typeOf .none=pure (.type "NoneType")) ?_)
  refine wpAny_of_eq PySem.F.slot_NoneType_eq.lookup ?_
  refine wpAny_bind (wpAny_askSetting (wpAny_ite ?_))
  have fin:wpAny (model prog w) A (call (.builtin "NoneType.__eq__") ([.none]++[.ref x])>>=fun v=>pure (some v)) (fun r s'=>wpAny (model prog w) A (match r with | some .notImplemented | none=>pure none | some v=>pure (some v)) (fun r s'=>r=none∧s'=s) E s') E s:=
   wpAny_bind (call_gives PySem.F.slot_NoneType_eq rfl PySem.F.entry_NoneType_eq (PySem.F.args_NoneType_eq_2 _ _) (SeqAt.NoneType___eq___none_ref_0 x) (wpAny_pure (wpAny_pure ⟨rfl,rfl⟩)))
  split
  ·exact wpAny_bind (wpAny_of_eq (PySem.F.slot_NoneType_eq.bind .none) (wpAny_pure fin))
  ·exact wpAny_tryCatch (wpAny_bind (wpAny_of_eq (PySem.F.slot_NoneType_eq.bind .none) (wpAny_pure fin)))
 have t2:wpAny (model prog w) A (tryCompare (.ref x) "__eq__" .none) (fun r s'=>r=none∧s'=s) E s:=by
  unfold tryCompare
  refine wpAny_bind ?_
  simp only [callSpecialIfBound?,bindSpecialIfBound?]
  refine wpAny_holding (wpAny_bind (wpAny_bind (wpAny_bind (I.type.here ((PySem.W.looks_findIn X oe.eq).here ?_)))))
  refine wpAny_bind (wpAny_askSetting (wpAny_ite ?_))
  have b:=PySem.F.slot_object_eq.bind (.ref x)
  have c:∀ {Q':Value→Shared→Prop},Q' .notImplemented s→wpAny (model prog w) A (call (.builtin "object.__eq__") [.ref x,.none]) Q' E s:=fun {Q'} q=>by
   refine wpAny_call (codeAny_call_builtin PySem.F.slot_object_eq.plain PySem.F.entry_object_eq (@PySem.W.check_slot (model prog w) _ _ s "object.__eq__" "object" "__eq__" (.ref x) [.none] [] _ (by decide +kernel) (by decide +kernel) (I.type.andThen (PySem.W.looks_mroIn X oe.ob)) (PySem.F.args_object_eq_2 _ _) ?_))
   refine wpAny_bind (wpAny_pure (wpAny_bind (wpAny_of_eq (rfl:isSame (.ref x) .none=pure false) ?_)))
   exact wpAny_pure q
  have fin:wpAny (model prog w) A (call (.builtin "object.__eq__") ([.ref x]++[.none])>>=fun v=>pure (some v)) (fun r s'=>wpAny (model prog w) A (match r with | some .notImplemented | none=>pure none | some v=>pure (some v)) (fun r s'=>r=none∧s'=s) E s') E s:=
   wpAny_bind (c (wpAny_pure (wpAny_pure ⟨rfl,rfl⟩)))
  split
  ·exact wpAny_bind (wpAny_of_eq b (wpAny_pure fin))
  ·exact wpAny_tryCatch (wpAny_bind (wpAny_of_eq b (wpAny_pure fin)))
 unfold richCompare
 refine wpAny_holding (wpAny_bind (wpAny_cRoomFor hu ?_))
 show wpAny _ _ (typeOf .none>>=_) _ _ _
 refine wpAny_bind (wpAny_of_eq (rfl:typeOf .none=pure (.type "NoneType")) (wpAny_bind (I.type.here ?_)))
 rw [if_pos (by rfl)]
 refine wpAny_bind ((PySem.W.looks_mroIn X hn).here ?_)
 simp only [Bool.false_eq_true,if_false]
 refine wpAny_bind (wpAny_mono t1 (fun r s' z=>?_) fun _ _ e=>e)
 obtain ⟨rfl,rfl⟩:=z
 simp only [Bool.not_false,if_true]
 refine wpAny_bind (wpAny_mono t2 (fun r s' z=>?_) fun _ _ e=>e)
 obtain ⟨rfl,rfl⟩:=z
 refine wpAny_bind (wpAny_rule (wpAny_bind (wpAny_of_eq (rfl:isSame .none (.ref x)=pure false) (wpAny_pure h))))
end
def rNoneRef (K:PySem.W.Frag):R2:=fun x y H Q=>∃ a,x=.non∧y=.ref a∧((∃ xs,SqL K H a xs∨SqT K H a xs)∨(∃ kvs,H a=some (.dK kvs))∨∃ C dx fs,H a=some (.ins C dx fs)∧OEq K C∧PySem.W.mroIn K C (.type "NoneType")=some false)∧Q (.bl false) H
def qgq (K:PySem.W.Frag):R2:=fun x y H Q=>qgW K x y H Q∨rNoneRef K x y H Q
theorem zT {X:Cx} {K:PySem.W.Frag} (hK:X.K=K) (hu:X.A.units + 100 < cLine):OpR X (compareOp .Eq) (qgq K):=by
 intro pins s σ H x y u v Q I rx ry h
 rcases h with h | ⟨a,rfl,rfl,h,q⟩
 ·exact k_eqW hK hu pins s σ H x y u v Q I rx ry h
 ·subst hK
  cases rx;cases ry
  have fin:EP X pins σ Q (.bool false) s:=⟨.bl false,H,I,rfl,q⟩
  rcases h with ⟨xs,hl | hl⟩ | ⟨kvs,ea⟩ | ⟨C,dx,fs,ea,oe,hn⟩
  ·obtain ⟨its,r,pl,_⟩:=I.list hl
   exact SeqAt.RcAt.none_list pl.isList (by omega) _ _ _ _ fin
  ·obtain ⟨its,r,pl,_⟩:=I.tuple hl
   exact SeqAt.RcAt.none_tuple pl (by omega) _ _ _ _ fin
  ·obtain ⟨_,_,vs,_,d⟩:=(show ObjOk X.prog X.w H s.heap a (.dK kvs) from I.hok a _ ea)
   exact none_dict d.typeIs (by omega) fin
  ·obtain ⟨mA,O,_⟩:=qaM I.hok ea
   obtain ⟨od,J,_⟩:=O.look
   exact none_own (by omega) I.kIn J oe hn fin
end L2
namespace L2
open PySem PySem.Spec PyProof.Rows
def XL (K:PySem.W.Frag) (C:Addr) (bm:List Value):Prop:=∃ nm qn N bs hdct sn sub ab col dd k0 k1 k2 k3 k5,K.lookup C=some (excClassObj nm qn C N bs bm hdct sn sub ab col dd k0 k1 k2 k3 k5 "ValueError.__new__")
section
variable {K:PySem.W.Frag} {C D:Addr} {bm bn:List Value}
theorem XL.xat (x:XL K C bm) (hb:qbS bm=true)
  (ga:PySem.W.findIn K (.ref C) "__getattribute__"=some (some (.builtin "BaseException.__getattribute__"))) (gn:PySem.W.findIn K (.ref C) "__getattr__"=some none)
  (bx:PySem.W.mroIn K C (.type "BaseException")=some true) (ob:PySem.W.mroIn K C (.type "object")=some true) (hd:PySem.W.hasDictIn K C=true) (cl:PySem.W.findIn K (.ref C) "__class__"=some (some (.builtin "object.__class__")))
  (cg:PySem.W.specialIn K (.builtin "object.__class__") "__get__"=some (some (.builtin "getset_descriptor.__get__"))) (ct:PySem.W.takesIn K (.builtin "object.__class__")=some true)
  (sa:PySem.W.findIn K (.ref C) "__setattr__"=some (some (.builtin "object.__setattr__"))):XAt K C:=by
 obtain ⟨nm,qn,N,bs,hdct,sn,sub,ab,col,dd,k0,k1,k2,k3,k5,e⟩:=x
 refine ⟨ga,gn,bx,ob,hd,cl,cg,ct,sa,?_,?_⟩
 ·unfold PySem.W.clsIn
  rw [e]
  exact hb
 ·unfold qf8
  rw [e]
  simp [hb]
theorem XL.kit (x:XL K C bm) (y:XL K D bn):PySem.W.kitOne K (.ref C) (.ref D)=some ((Value.ref C::bm).contains (.ref D)):=by
 obtain ⟨nm,qn,N,bs,hdct,sn,sub,ab,col,dd,k0,k1,k2,k3,k5,e⟩:=x
 obtain ⟨nm',qn',N',bs',hdct',sn',sub',ab',col',dd',k0',k1',k2',k3',k5',e'⟩:=y
 unfold PySem.W.kitOne PySem.W.kitCls
 split
 ·rename_i z
  have z:C=D:=Value.ref.inj (beq_iff_eq.mp z)
  subst z
  simp
 ·dsimp only
  have q1:(PySem.W.clsIn K D).isSome=true:=by unfold PySem.W.clsIn;rw [e'];rfl
  have q2:(PySem.W.typeIn K (.ref D)==some (.type "type"))=true:=by show ((K.lookup D).map (·.cls)==_)=true;rw [e'];rfl
  rw [if_pos (by rw [q1,q2];rfl)]
  unfold PySem.W.subIn PySem.W.mroIn PySem.W.clsIn
  dsimp only
  rw [e]
  rfl
theorem XL.kitT (x:XL K C bm) {T:String} (h:PySem.W.kitMeta T=true):PySem.W.kitOne K (.ref C) (.type T)=some (bm.contains (.type T)):=by
 obtain ⟨nm,qn,N,bs,hdct,sn,sub,ab,col,dd,k0,k1,k2,k3,k5,e⟩:=x
 unfold PySem.W.kitOne PySem.W.kitCls
 split
 ·rename_i z
  exact absurd (beq_iff_eq.mp z) nofun
 ·dsimp only
  rw [if_pos h]
  unfold PySem.W.subIn PySem.W.mroIn PySem.W.clsIn
  dsimp only
  rw [e]
  show some ((Value.ref C::bm).contains _)=_
  rw [List.contains_cons]
  rfl
abbrev qaI:List Value:=[.type "ValueError",.type "Exception",.type "BaseException",.type "object"]
theorem qdU:qbS qaI=true:=by decide
theorem qae {c:Addr}:qbS (.ref c::qaI)=true:=qdU
theorem kits {K:PySem.W.Frag} {cs:List Addr} {c:Addr} (hn:(cs++[c]).Nodup) (h:∀ i,i < cs.length→XL K (cs.getD i c) (.ref c::qaI)) (hc:XL K c qaI) :
  (∀ i j,i < cs.length→j < cs.length→PySem.W.kitOne K (.ref (cs.getD i c)) (.ref (cs.getD j c))=some (decide (i=j)))∧(∀ i,i < cs.length + 1→PySem.W.kitOne K (.ref (cs.getD i c)) (.ref c)=some true) ∧
  (∀ i,i < cs.length + 1→PySem.W.kitOne K (.ref (cs.getD i c)) (.type "ValueError")=some true)∧∀ j,j < cs.length→PySem.W.kitOne K (.ref c) (.ref (cs.getD j c))=some false:=by
 have gd:∀ (j:Nat) (hj:j < cs.length),cs.getD j c=cs[j]:=fun j hj=>by simp [List.getD,hj]
 have hl:cs.getD cs.length c=c:=by simp
 have hne:∀ j,j < cs.length→c≠cs.getD j c:=fun j hj e=>by
  have h2:=(List.nodup_append.mp hn).2.2 (cs.getD j c) (by rw [gd j hj];exact List.getElem_mem hj) c (by simp)
  exact h2 e.symm
 refine ⟨fun i j hi hj=>?_,fun i hi=>?_,fun i hi=>?_,fun j hj=>?_⟩
 ·rw [(h i hi).kit (h j hj)]
  congr 1
  rw [List.contains_cons,List.contains_cons]
  have e1:((Value.ref (cs.getD j c))==Value.ref c)=false:=beq_eq_false_iff_ne.mpr fun e=>hne j hj (Value.ref.inj e).symm
  have e2:List.contains qaI (Value.ref (cs.getD j c))=false:=rfl
  rw [e1,e2]
  by_cases hij:i=j
  ·subst hij;simp
  ·have e3:((Value.ref (cs.getD j c))==Value.ref (cs.getD i c))=false:=beq_eq_false_iff_ne.mpr fun e=>by
    have e:=Value.ref.inj e
    rw [gd i hi,gd j hj] at e
    have hp:=List.pairwise_iff_getElem.mp (List.nodup_append.mp hn).1
    rcases Nat.lt_or_gt_of_ne hij with q | q
    ·exact hp i j hi hj q e.symm
    ·exact hp j i hj hi q e
   rw [e3];simp [hij]
 ·rcases Nat.lt_or_ge i cs.length with hi' | hi'
  ·rw [(h i hi').kit hc,List.contains_cons,List.contains_cons];simp
  ·have:i=cs.length:=by omega
   subst this
   rw [hl,hc.kit hc];simp
 ·rcases Nat.lt_or_ge i cs.length with hi' | hi'
  ·rw [(h i hi').kitT (by decide +kernel)];rfl
  ·have:i=cs.length:=by omega
   subst this
   rw [hl,hc.kitT (by decide +kernel)];rfl
 ·rw [hc.kit (h j hj),List.contains_cons]
  have e1:((Value.ref (cs.getD j c))==Value.ref c)=false:=beq_eq_false_iff_ne.mpr fun e=>hne j hj (Value.ref.inj e).symm
  rw [e1];rfl
end
end L2
namespace HT
open PySem PySem.Spec PyProof.Rows
section
variable {prog:Program} {w:World} {A:Around} {E:Value→Shared→Prop} {s:Shared}
end
end HT
namespace L2
open PySem PySem.Spec PyProof.Rows
def tRev (K:PySem.W.Frag) (te:TE) (ts:TO):TE:=fun σ H Q=>te σ H fun x H1=>ts σ H1 fun o H2=>o=some (-1)∧∃ a y z,x=.ref a∧SqT K H2 a [y,z]∧∀ p,H2 p=none→Q (.ref p) (upd H2 p (.tup [z,y]))
theorem vRev {K:PySem.W.Frag} {te:TE} {ts:TO} {σ:St} {H:Hp} {Q:VK} (h:te σ H fun x H1=>ts σ H1 fun o H2=>o=some (-1)∧∃ a y z,x=.ref a∧SqT K H2 a [y,z]∧∀ p,H2 p=none→Q (.ref p) (upd H2 p (.tup [z,y]))):tRev K te ts σ H Q:=h
section
variable {X:Cx} {K:PySem.W.Frag} {e st:Expr} {te:TE} {ts:TO} {p2 pos:Pos}
def rTupleU (K:PySem.W.Frag):List V→Hp→VK→Prop:=fun xs H Q=>∃ p ys,xs=[.ref p]∧((SqL K H p ys∧∀ l,H l=none→Q (.ref l) (upd H l (.tup ys)))∨(SqT K H p ys∧Q (.ref p) H))
theorem j3 (hK:X.K=K):zM X (.type "tuple") (rTupleU K):=by subst hK;exact call_tuple_of
end
end L2
namespace L2
open PySem PySem.Spec PyProof.Rows
theorem Inv.turnedL {X:Cx} {pins:List (Addr×Obj)} {σ:St} {H:Hp} {s:Shared} {h':Heap} {t':Nat} {fp:List Addr} (I:Inv X pins σ H s) (k:∀ b o,b∉fp→s.heap.get? b=some o→h'.get? b=some o) (hf:∀ b∈fp,qcw X pins H b):Inv X pins σ H { s with heap:=h',toks:=t' }:=by
 have nit:∀ b u,H b=some u→b∉fp:=fun b u e z=>by rw [(hf b z).1] at e;cases e
 have hL:X.env.locals∉fp:=fun z=>(hf _ z).2.1 rfl
 refine I.step (g':=s.gens) (d':=s.drawn) (ch:=fp) (fun b hb=>?_) (fun b o _ _ hc e _=>k b o hc e) (fun b o _ _ hc e _=>⟨o.slots,k b o hc e⟩) (fun _ _ _ _ n=>n)
  (fun b o hc e=>⟨o,k b o hc e⟩) (fun _ _ e=>e) (fun _ _ _ e=>e) (fun b ps e=>⟨#[],by rw [e];simp⟩) (fun m hm=>?_) (fun b u e=>?_) I.bare
 ·obtain ⟨f0,f1,f2,f3,f4,f5⟩:=hf b hb
  exact ⟨f3,f1,f4,f5⟩
 ·obtain ⟨o,es,ep,ho,r⟩:=hm
  exact ⟨o,es,ep,k _ o hL ho,r⟩
 ·refine (I.hok b u e).stay (fun c v hc q=>k c v ?_ q) (fun _ q=>q) fun _ _ q=>q
  rcases hc with z | z
  ·rw [z];exact nit b u e
  ·exact nit c _ z
def Ite (K:PySem.W.Frag) (a:Addr):It:=
 ⟨fun i H=>∃ xs x,SqL K H a xs∧xs[i]?=some x,fun i H x H'=>∃ t y,x=.ref t∧H t=none∧H'=upd H t (.tup [.int i,y])∧∀ xs,SqL K H a xs→xs[i]?=some y,fun i H=>∃ xs,SqL K H a xs∧xs.length≤i⟩
theorem push_some {h:Heap} {o v:Obj} {b:Addr} (e:(h.push o).get? b=some v) (ne:b≠h.objs.size):h.get? b=some v:=(Heap.get?_push_cases e).elim (fun z=>absurd z.1 ne) fun z=>z
def iEnum (K:PySem.W.Frag) (ta:TA):TI:=fun σ H R=>ta σ H fun vs H1=>∃ a xs,vs=[.ref a]∧SqL K H1 a xs∧R (Ite K a) H1
theorem vEnum {K:PySem.W.Frag} {tas:TA} {σ:St} {H:Hp} {R:It→Hp→Prop} (h:tas σ H fun vs H1=>∃ a xs,vs=[.ref a]∧SqL K H1 a xs∧R (Ite K a) H1):iEnum K tas σ H R:=h
end L2
namespace L2
open PySem PySem.Spec PyProof.Rows
section
variable {X:Cx}
end
end L2
namespace L2
open PySem PySem.Spec PyProof.Rows PySem.Builtin PySem.Builtin.Str
theorem vDGet2 {td ty tx:TE} {σ:St} {H:Hp} {Q:VK} (h:td σ H fun x H1=>∃ a,x=.ref a∧IsD H1 a∧ty σ H1 fun y H2=>tx σ H2 fun z H3=>∃ o,DGet H3 a y o∧Q (o.getD z) H3):tDGet2 td ty tx σ H Q:=h
end L2
namespace L2
open PySem PySem.Spec PyProof.Rows
theorem qbK (a b:Str):eqV (.str a) (.str b)=decide (a=b):=by
 have e:eqV (.str a) (.str b)=(a==b):=by simp [eqV]
 rw [e,Bool.eq_iff_iff,beq_iff_eq,decide_eq_true_iff]
section
variable {X:Cx} {K:PySem.W.Frag}
end
theorem qcd (xs:List V) (k:Nat):qbH xs (some (k:Int)) none=xs.drop k:=by
 unfold qbH
 rw [HT.sIx_none,HT.sIx_nat]
 by_cases h:k≤xs.length
 ·rw [Nat.min_eq_left h,List.take_of_length_le (by rw [List.length_drop];omega)]
 ·rw [Nat.min_eq_right (by omega),List.drop_length,List.drop_of_length_le (by omega)]
  simp
end L2
namespace L2
open PySem PySem.Spec PyProof.Rows
section
variable {X:Cx} {K:PySem.W.Frag}
end
end L2
namespace HT
open PySem PySem.Spec PyProof.Rows
section
variable {prog:Program} {w:World} {A:Around} {E:Value→Shared→Prop} {s:Shared}
end
end HT
namespace L2
open PySem PySem.Spec PyProof.Rows
def tStep (K:PySem.W.Frag) (te:TE) (ts:TO):TE:=fun σ H Q=>te σ H fun x H1=>ts σ H1 fun o H2=>∃ a y z,x=.ref a∧SqT K H2 a [y,z]∧((o=some (-1)∧∀ p,H2 p=none→Q (.ref p) (upd H2 p (.tup [z,y])))∨(o=some 1∧Q (.ref a) H2))
theorem vStep {K:PySem.W.Frag} {te:TE} {ts:TO} {σ:St} {H:Hp} {Q:VK} (h:te σ H fun x H1=>ts σ H1 fun o H2=>∃ a y z,x=.ref a∧SqT K H2 a [y,z]∧((o=some (-1)∧∀ p,H2 p=none→Q (.ref p) (upd H2 p (.tup [z,y])))∨(o=some 1∧Q (.ref a) H2))):tStep K te ts σ H Q:=h
section
variable {X:Cx} {K:PySem.W.Frag} {e st:Expr} {te:TE} {ts:TO} {p2 pos:Pos}
end
end L2
namespace L2
open PySem PySem.Spec PyProof.Rows
def FG (K:PySem.W.Frag) (nm:Str) (st:Stmt):Prop:=∃ f fd,PySem.W.nsIn K mainGlobals nm=some (some (.ref f))∧Fun K nm nm st f fd
def FM (K:PySem.W.Frag) (C:Addr) (m ql:Str) (st:Stmt):Prop:=∃ f fd,PySem.W.findIn K (.ref C) m=some (some (.ref f))∧PySem.W.isFn K (.ref f)=true∧Fun K m ql st f fd
def FC (K:PySem.W.Frag) (C:Addr) (m ql:Str) (st:Stmt):Prop:=∃ f fd,PySem.W.findCls K (.ref C) (.type "type") m=some (.val (.ref f))∧Fun K m ql st f fd
structure XQ (K:PySem.W.Frag) (C:Addr):Prop where
 xa:PySem.W.findIn K (.ref C) "__getattribute__"=some (some (.builtin "BaseException.__getattribute__"))
 xb:PySem.W.findIn K (.ref C) "__getattr__"=some none
 xd:PySem.W.mroIn K C (.type "BaseException")=some true
 xe:PySem.W.mroIn K C (.type "object")=some true
 xf:PySem.W.hasDictIn K C=true
 xg:PySem.W.findIn K (.ref C) "__class__"=some (some (.builtin "object.__class__"))
 xh:PySem.W.findIn K (.ref C) "__setattr__"=some (some (.builtin "object.__setattr__"))
 p:PySem.W.keepIn K (.ref C)=true
section
variable {P:Program} {w:World} {K:PySem.W.Frag} {mg:Str→Option Value} {base h:Heap} {CX:CXT} {k:Nat} {sp:Sp} {st:Stmt} {f:Addr} {fd:FuncData} {ps:List Str} {nm m ql x:Str} {C:Addr}
abbrev BA (x ql:Str) (st:Stmt) (ps:List Str):Prop:=∀ (kV doc pm:Value) (an:Option Addr) (cdv ct:Value) (us:List Value),us.length=ps.length→bindArgs (PySem.W.fnOf x ql (qj st) (qh st) (qb st) .none kV doc pm an cdv ct) ⟨us,[]⟩=pure (ps.zip us)
theorem fg_mk (X:K.In h) (G:h.Ns mainGlobals mg) (a:PySem.W.nsIn K mainGlobals nm=some (some (.ref f))) (F:Fun K nm nm st f fd) (o:FnOk P w K mg base CX k f fd ps sp)
  (hb:BA nm nm st ps:=by first | (exact fun _ _ _ _ _ _ us hl=>(match us,hl with | [_],_=>rfl)) | (exact fun _ _ _ _ _ _ us hl=>(match us,hl with | [_,_],_=>rfl)) | (exact fun _ _ _ _ _ _ us hl=>(match us,hl with | [_,_,_],_=>rfl)) | (exact fun _ _ _ _ _ _ us hl=>(match us,hl with | [_,_,_,_],_=>rfl))) :
  DefOk P w K mg base CX k nm ps sp:=⟨_,_,o,PySem.W.mg_of X G a,F.kp,F.binds hb⟩
theorem fm_mk (wcl:Cls K C) (a:PySem.W.findIn K (.ref C) m=some (some (.ref f))) (n:PySem.W.isFn K (.ref f)=true) (F:Fun K m ql st f fd) (o:FnOk P w K mg base CX k f fd ps sp)
  (hb:BA m ql st ps:=by first | (exact fun _ _ _ _ _ _ us hl=>(match us,hl with | [_],_=>rfl)) | (exact fun _ _ _ _ _ _ us hl=>(match us,hl with | [_,_],_=>rfl)) | (exact fun _ _ _ _ _ _ us hl=>(match us,hl with | [_,_,_],_=>rfl)) | (exact fun _ _ _ _ _ _ us hl=>(match us,hl with | [_,_,_,_],_=>rfl))) :
  MethOk P w K mg base CX k C m ps sp:=⟨⟨_,_,o,⟨a,n,F.kp⟩,F.binds hb⟩,wcl⟩
theorem fw_mk (X:K.In h) (G:h.Ns mainGlobals mg) (c:PySem.W.nsIn K mainGlobals x=some (some (.ref C))) (w5:PySem.W.makesIn K C=true) (w6:PySem.W.keepIn K (.ref C)=true) (a:PySem.W.findIn K (.ref C) "__init__"=some (some (.ref f))) (n:PySem.W.isFn K (.ref f)=true) (F:Fun K "__init__" ql st f fd) (o:FnOk P w K mg base CX k f fd ps sp)
  (hb:BA "__init__" ql st ps:=by first | (exact fun _ _ _ _ _ _ us hl=>(match us,hl with | [_],_=>rfl)) | (exact fun _ _ _ _ _ _ us hl=>(match us,hl with | [_,_],_=>rfl)) | (exact fun _ _ _ _ _ _ us hl=>(match us,hl with | [_,_,_],_=>rfl))) :
  MakeOk P w K mg base CX k C x ps sp:=⟨⟨_,_,o,⟨w5,a,n,w6⟩,F.binds hb⟩,PySem.W.mg_of X G c⟩
theorem qce (X:K.In h) (G:h.Ns mainGlobals mg) (c:PySem.W.nsIn K mainGlobals x=some (some (.ref C))) (Y:XAt K C) (q:XQ K C) (a:PySem.W.findIn K (.ref C) "__init__"=some (some (.ref f))) (n:PySem.W.isFn K (.ref f)=true) (F:Fun K "__init__" ql st f fd) (o:FnOk P w K mg base CX0 k f fd ps sp)
  (hb:BA "__init__" ql st ps:=by first | (exact fun _ _ _ _ _ _ us hl=>(match us,hl with | [_],_=>rfl)) | (exact fun _ _ _ _ _ _ us hl=>(match us,hl with | [_,_],_=>rfl))) :
  XMakeOk P w K mg base k C x ps sp:=⟨⟨_,_,o,⟨Y,a,n,q.p⟩,F.binds hb⟩,PySem.W.mg_of X G c⟩
theorem fc_mk (X:K.In h) (G:h.Ns mainGlobals mg) (c:PySem.W.nsIn K mainGlobals x=some (some (.ref C))) (r1:PySem.W.readsIn K C (.type "type")=true) (r2:PySem.W.findCls K (.ref C) (.type "type") m=some (.val (.ref f))) (r3:PySem.W.specialIn K (.ref C) "__getattribute__"=some (some (.builtin "type.__getattribute__"))) (F:Fun K m ql st f fd) (o:FnOk P w K mg base CX k f fd ps sp)
  (hb:BA m ql st ps:=by (exact fun _ _ _ _ _ _ us hl=>(match us,hl with | [_,_],_=>rfl))) :
  CMethOk P w K mg base CX k C x m ps sp:=⟨⟨_,_,o,⟨r1,r2,r3,F.kp⟩,F.binds hb⟩,PySem.W.mg_of X G c⟩
theorem qbL {bm:List Value} (x:XL K C bm) (hb:qbS bm=true) (q:XQ K C) (w16:PySem.W.specialIn K (.builtin "object.__class__") "__get__"=some (some (.builtin "getset_descriptor.__get__"))) (w17:PySem.W.takesIn K (.builtin "object.__class__")=some true):XAt K C:=x.xat hb q.xa q.xb q.xd q.xe q.xf q.xg w16 w17 q.xh
end
end L2
namespace HT
open PySem PySem.Spec PyProof.Rows
section
variable {prog:Program} {w:World} {A:Around} {E:Value→Shared→Prop} {s:Shared}
end
end HT
namespace L2
open PySem PySem.Spec PyProof.Rows
section
variable {X:Cx} {K:PySem.W.Frag} {pos p:Pos} {x:Str}
end
end L2
namespace L2
open PySem PySem.Spec PyProof.Rows
section
variable {X:Cx} {K:PySem.W.Frag} {e lo st:Expr} {te:TE} {tl ts:TO} {p2 pos:Pos}
def qgX (K:PySem.W.Frag) (te:TE):TI:=fun σ H R=>te σ H fun v H1=>∃ a xs,v=.ref a∧SqL K H1 a xs∧R (Itl K a) H1
theorem qdV {K:PySem.W.Frag} {te:TE} {σ:St} {H:Hp} {R:It→Hp→Prop} (h:te σ H fun v H1=>∃ a xs,v=.ref a∧SqL K H1 a xs∧R (Itl K a) H1):qgX K te σ H R:=h
theorem qcf {tg:Expr} (hK:X.K=K) (he:PE X e te):PI X tg e (qgX K te):=by
 subst hK
 intro pins s σ H R I h
 refine thn (he pins s σ H _ I h) fun v s1 ⟨y,H1,I1,r1,a,xs,ey,hq,q⟩=>?_
 subst ey
 cases r1
 have fp:∀ b∈[s1.heap.objs.size],qcw X pins H1 b:=fun b hb=>by
  have e:b=s1.heap.objs.size:=by simpa using hb
  subst e
  exact I1.fpOk (Nat.le_refl _) (I1.hok.fresh (Nat.le_refl _))
 obtain ⟨its,rv,p,hz⟩:=I1.list hq
 exact wpAny_pyIter_list p.isList ⟨s1.heap.objs.size,[s1.heap.objs.size],_,_,H1,rfl,I1.kept (t':=s1.toks) fun b o e=>Heap.get?_push_of_some _ e,qbV a _,⟨_,Heap.get?_push_size _ rfl,rfl,rfl⟩,fp,q⟩
end
end L2
namespace L2
open PySem PySem.Spec PyProof.Rows
def Itz (K:PySem.W.Frag) (a b:Addr):It:=
 ⟨fun i H=>∃ xs ys x y,SqL K H a xs∧SqL K H b ys∧xs[i]?=some x∧ys[i]?=some y,fun i H v H'=>∃ t x y,v=.ref t∧H t=none∧H'=upd H t (.tup [x,y])∧(∀ xs,SqL K H a xs→xs[i]?=some x)∧∀ ys,SqL K H b ys→ys[i]?=some y,fun i H=>∃ xs ys,SqL K H a xs∧SqL K H b ys∧(xs.length≤i∨ys.length≤i)⟩
def tnZ (z TI TO i1 i2 a b:Addr) (i:Nat) (h:Heap):Prop:=IsZip h z TI TO .none∧IsPair h TI (.ref i1) (.ref i2)∧(∃ u v,IsPair h TO u v)∧h.IsListIter i1 a i∧h.IsListIter i2 b i
theorem turn_zip {P:Program} {w:World} {K:PySem.W.Frag} {es:List Expr} {x1} {pos:Pos} (a b z TI TO i1 i2:Addr) (D:ZipApart z TI TO i1 i2 a b):Turn P w K (.Tuple es x1 pos) (Itz K a b) [z,TI,TO,i1,i2] z (tnZ z TI TO i1 i2 a b) where
 mem:=by simp
 obj:=fun i h st c hc=>by
  obtain ⟨hz,hTI,⟨u,v,hTO⟩,⟨o1,e1,c1,d1⟩,⟨o2,e2,c2,d2⟩⟩:=st
  simp only [List.mem_cons,List.not_mem_nil,or_false] at hc
  rcases hc with rfl | rfl | rfl | rfl | rfl
  ·exact ⟨_,hz,fun v z=>by have z':Data.fields _=Data.cell v:=z;cases z'⟩
  ·exact ⟨_,hTI,fun v z=>by have z':Data.seq _ _=Data.cell v:=z;cases z'⟩
  ·exact ⟨_,hTO,fun v z=>by have z':Data.seq _ _=Data.cell v:=z;cases z'⟩
  ·exact ⟨o1,e1,fun v z=>by rw [d1] at z;cases z⟩
  ·exact ⟨o2,e2,fun v z=>by rw [d2] at z;cases z⟩
 keep:=fun i h h' st k=>by
  obtain ⟨hz,hTI,⟨u,v,hTO⟩,h1,h2⟩:=st
  exact ⟨k z (by simp) _ hz,k TI (by simp) _ hTI,⟨u,v,k TO (by simp) _ hTO⟩,h1.at fun o x=>k i1 (by simp) o x,h2.at fun o x=>k i2 (by simp) o x⟩
 item:=by
  intro X hP hw hK hc i pins s σ H E I hf st hg
  subst hP hw hK
  obtain ⟨hz,hTI,⟨u,v,hTO⟩,h1,h2⟩:=st
  obtain ⟨xs,ys,x,y,hq,hq2,hx,hy⟩:=hg
  obtain ⟨its,rv,p,_⟩:=I.list hq
  obtain ⟨its2,rv2,p2,_⟩:=I.list hq2
  obtain ⟨u1,hu1,ru1⟩:=rv.get hx
  obtain ⟨u2,hu2,ru2⟩:=rv2.get hy
  refine wpAny_pyNext_zip_item D hz hTI hTO h1 h2 p.isList p2.isList (x:=u1) (y:=u2) (by simpa using hu1) (by simpa using hu2) fun h' hz' hTO' h1' h2' hT hsz hk=>?_
  refine ⟨_,rfl,wpAny_letOwnedTupleGo_zip hz' fun h3 hz3 hs3=>?_⟩
  have fre:H s.heap.objs.size=none:=I.hok.fresh (Nat.le_refl _)
  have lt:∀ {c o},s.heap.get? c=some o→s.heap.objs.size≠c:=fun e=>Nat.ne_of_gt (Heap.lt_size e)
  have nz:=lt hz
  have nTI:=lt hTI
  have nTO:=lt hTO
  have n1:s.heap.objs.size≠i1:=by obtain ⟨_,e,_⟩:=h1;exact lt e
  have n2:s.heap.objs.size≠i2:=by obtain ⟨_,e,_⟩:=h2;exact lt e
  have I1:Inv X pins σ (upd H s.heap.objs.size (.tup [x,y])) { s with heap:=s.heap.push { cls:=.type "tuple",data:=.seq #[u1,u2] },toks:=s.toks }:=
   I.laid (fun b u e=>Heap.get?_push_of_some _ e) (Nat.le_refl _) ⟨by show 2≤sizeLine;decide,[u1,u2],.cons ru1 (.cons ru2 .nil),⟨_,Heap.get?_push_size _ rfl,rfl,_,rfl⟩⟩
  have hf1:∀ c∈[z,TI,TO,i1,i2],qcw X pins (upd H s.heap.objs.size (.tup [x,y])) c:=fun c hc=>by
   obtain ⟨f0,f⟩:=hf c hc
   refine ⟨?_,f⟩
   rw [qi]
   ·exact f0
   ·simp only [List.mem_cons,List.not_mem_nil,or_false] at hc
    rcases hc with rfl | rfl | rfl | rfl | rfl
    ·exact nz.symm
    ·exact nTI.symm
    ·exact nTO.symm
    ·exact n1.symm
    ·exact n2.symm
  have kk:∀ c o,c∉[z,TI,TO,i1,i2]→(s.heap.push { cls:=.type "tuple",data:=.seq #[u1,u2] }).get? c=some o→h3.get? c=some o:=fun c o hc e=>by
   simp only [List.mem_cons,List.not_mem_nil,or_false,not_or] at hc
   refine hs3.extBut _ _ hc.1 ?_
   by_cases hz:c=s.heap.objs.size
   ·subst hz
    rw [Heap.get?_push_size _ rfl] at e
    cases e
    exact hT
   ·exact hk c o hc.1 hc.2.2.1 hc.2.2.2.1 hc.2.2.2.2 (push_some e hz)
  have I2:=I1.turnedL (h':=h3) (t':=s.toks) (fp:=[z,TI,TO,i1,i2]) kk hf1
  refine ⟨.ref s.heap.objs.size,_,I2,rfl,⟨_,x,y,rfl,fre,rfl,fun xs' hx'=>by rw [I.list_inj hx' hq];exact hx,fun ys' hy'=>by rw [I.list_inj hy' hq2];exact hy⟩,⟨hz3,?_,⟨_,_,hs3.extBut _ _ D.TOz hTO'⟩,h1'.extBut hs3.extBut D.i1z,h2'.extBut hs3.extBut D.i2z⟩,fun c hc=>(hf1 c hc).1⟩
  exact hs3.extBut _ _ D.TIz (hk _ _ D.TIz D.TITO D.TIi1 D.TIi2 hTI)
 done:=by
  intro X hP hw hK hc i pins s σ H E I hf st hg
  subst hP hw hK
  obtain ⟨hz,hTI,⟨u,v,hTO⟩,h1,h2⟩:=st
  obtain ⟨xs,ys,hq,hq2,he⟩:=hg
  obtain ⟨its,rv,p,_⟩:=I.list hq
  obtain ⟨its2,rv2,p2,_⟩:=I.list hq2
  have l1:=rv.length
  have l2:=rv2.length
  refine wpAny_pyNext_zip_end (I.ok.hd hc) D hz hTI hTO h1 h2 p.isList p2.isList (he.imp (fun e=>Array.getElem?_eq_none (by simp;omega)) fun e=>Array.getElem?_eq_none (by simp;omega)) fun h' hk=>⟨rfl,I.turnedL (t':=s.toks) (fp:=[z,TI,TO,i1,i2]) (fun c o hc e=>?_) hf⟩
  simp only [List.mem_cons,List.not_mem_nil,or_false,not_or] at hc
  exact hk c o hc.1 hc.2.2.1 hc.2.2.2.1 hc.2.2.2.2 e
 self:=fun _ _ _ _ _ st h=>wpAny_pyIter_zip st.1 h
theorem boot_zip:bootBuiltins "zip"=some (.type "zip"):=by decide +kernel
def qgY (K:PySem.W.Frag) (ta:TA):TI:=fun σ H R=>ta σ H fun vs H1=>∃ a b xs ys,vs=[.ref a,.ref b]∧SqL K H1 a xs∧SqL K H1 b ys∧R (Itz K a b) H1
theorem qgr {K:PySem.W.Frag} {tas:TA} {σ:St} {H:Hp} {R:It→Hp→Prop} (h:tas σ H fun vs H1=>∃ a b xs ys,vs=[.ref a,.ref b]∧SqL K H1 a xs∧SqL K H1 b ys∧R (Itz K a b) H1):qgY K tas σ H R:=h
theorem qdW {X:Cx} {K:PySem.W.Frag} {a b:Expr} {ta:TA} {es:List Expr} {x1} {tp p pos:Pos} (hK:X.K=K) (hg:Gl X "zip") (hm:X.mg "zip"=none) (ha:PA X [a,b] ta) (hs:starEach [a,b] X.env=[(false,eval a X.env),(false,eval b X.env)]:=by rfl) (hs2:starEach [b] X.env=[(false,eval b X.env)]:=by rfl):PI X (.Tuple es x1 tp) (.Call (.Name "zip" p) [a,b] [] pos) (qgY K ta):=by
 subst hK
 intro pins s σ H R I h
 refine Call_ (qa4 I hg hm boot_zip (PyProof.Rows.callWith_type1 (thn (ha pos pins s σ H _ I h) fun us s1 ⟨vs,H1,I1,r1,q1⟩=>?_) (by rw [hs,hs2]) (by rw [hs2];rfl)))
 obtain ⟨a,b,xs,ys,e,hq,hq2,q⟩:=q1
 subst e
 cases r1 with
 | cons r rr =>
  cases rr with
  | cons r2 rr =>
   cases rr
   cases r
   cases r2
   obtain ⟨its,rv,pl,_⟩:=I1.list hq
   obtain ⟨its2,rv2,pl2,_⟩:=I1.list hq2
   have lta:a < s1.heap.objs.size:=by obtain ⟨_,e,_⟩:=pl.isList;exact Heap.lt_size e
   have ltb:b < s1.heap.objs.size:=by obtain ⟨_,e,_⟩:=pl2.isList;exact Heap.lt_size e
   refine call_zip_2 pl.isList pl2.isList fun h' hz hTI hTO hi1 hi2 hsz hk=>wpAny_pyIter_zip hz ?_
   refine ⟨_,[s1.heap.objs.size + 4,s1.heap.objs.size + 2,s1.heap.objs.size + 3,s1.heap.objs.size,s1.heap.objs.size + 1],_,_,H1,rfl,I1.kept (t':=s1.toks) hk,turn_zip a b _ _ _ _ _ (PySem.W.ktu_apart _ _ _ lta ltb),⟨hz,hTI,⟨_,_,hTO⟩,hi1,hi2⟩,fun c hc=>?_,q⟩
   simp only [List.mem_cons,List.not_mem_nil,or_false] at hc
   rcases hc with rfl | rfl | rfl | rfl | rfl
   ·exact I1.fpOk (Nat.le_add_right _ _) (I1.hok.fresh (Nat.le_add_right _ _))
   ·exact I1.fpOk (Nat.le_add_right _ _) (I1.hok.fresh (Nat.le_add_right _ _))
   ·exact I1.fpOk (Nat.le_add_right _ _) (I1.hok.fresh (Nat.le_add_right _ _))
   ·exact I1.fpOk (Nat.le_refl _) (I1.hok.fresh (Nat.le_refl _))
   ·exact I1.fpOk (Nat.le_succ _) (I1.hok.fresh (Nat.le_succ _))
theorem for_zip {K:PySem.W.Frag} {a b:Addr} {xs ys:List V} {g:TG} {tb:TS} {D:Ends} {σ:St} {H:Hp} (el:xs.length=ys.length) (Pv:Nat→St→Hp→Prop) (h0:Pv 0 σ H) (hl:∀ i σ H,i≤xs.length→Pv i σ H→SqL K H a xs∧SqL K H b ys)
  (hs:∀ i x y t σ H,xs[i]?=some x→ys[i]?=some y→H t=none→Pv i σ H→g (.ref t) σ (upd H t (.tup [x,y])) fun σ2 H2=>tb { D with nx:=Pv (i + 1),ct:=Pv (i + 1),bk:=D.nx } σ2 H2) (hd:∀ σ H,Pv xs.length σ H→D.nx σ H) :
  ∃ W:Nat→Nat→St→Hp→Prop,(∃ m,W 0 m σ H)∧∀ i m σ H,W i m σ H →
   ((Itz K a b).stop i H∧D.nx σ H)∨((Itz K a b).go i H∧∃ N:St→Hp→Prop,(∀ σ' H',N σ' H'→∃ m',m' < m∧W (i + 1) m' σ' H')∧∀ x H',(Itz K a b).yld i H x H'→g x σ H' fun σ2 H2=>tb { D with nx:=N,ct:=N,bk:=D.nx } σ2 H2):=by
 refine ⟨fun i m σ H=>m=xs.length - i∧i≤xs.length∧Pv i σ H,⟨xs.length,by simp,Nat.zero_le _,h0⟩,?_⟩
 rintro i m σ H ⟨rfl,hi,p⟩
 obtain ⟨q,q2⟩:=hl i σ H hi p
 by_cases hlt:i < xs.length
 ·have hlt2:i < ys.length:=by omega
  refine .inr ⟨⟨xs,ys,xs[i],ys[i],q,q2,by simp [hlt],by simp [hlt2]⟩,Pv (i + 1),fun σ' H' p'=>⟨xs.length - (i + 1),by omega,rfl,hlt,p'⟩,fun x H' y=>?_⟩
  obtain ⟨t,v,u,rfl,ht,rfl,y,y2⟩:=y
  exact hs i v u t σ _ (y xs q) (y2 ys q2) ht p
 ·have e:i=xs.length:=by omega
  subst e
  exact .inl ⟨⟨xs,ys,q,q2,.inl (Nat.le_refl _)⟩,hd σ H p⟩
def qgZ (K:PySem.W.Frag) (te:TE) (ts:TO):TE:=fun σ H Q=>te σ H fun x H1=>ts σ H1 fun o H2=>o=some (-1)∧∃ a xs,x=.ref a∧SqL K H2 a xs∧∀ p,H2 p=none→Q (.ref p) (upd H2 p (.lst xs.reverse))
theorem vRvL {K:PySem.W.Frag} {te:TE} {ts:TO} {σ:St} {H:Hp} {Q:VK} (h:te σ H fun x H1=>ts σ H1 fun o H2=>o=some (-1)∧∃ a xs,x=.ref a∧SqL K H2 a xs∧∀ p,H2 p=none→Q (.ref p) (upd H2 p (.lst xs.reverse))):qgZ K te ts σ H Q:=h
theorem qc5:∀ {xs:List V} {us:List Value},Vals xs us→Vals xs.reverse us.reverse
 | _,_,.nil=>.nil
 | _,_,.cons r t=>by
  rw [List.reverse_cons,List.reverse_cons]
  exact (qc5 t).append (.cons r .nil)
section
variable {X:Cx} {K:PySem.W.Frag} {e st:Expr} {te:TE} {ts:TO} {p2 pos:Pos}
theorem pe_rvL (hK:X.K=K) (he:PE X e te) (hs:PO X (some st) ts):PE X (.Subscript e (.Slice none none (some st) p2) pos) (qgZ K te ts):=by
 subst hK
 intro pins s σ H Q I h
 refine Subscript_ (thn (he pins s σ H _ I h) fun v s1 ⟨x,H1,I1,r1,q1⟩=>?_)
 refine wpAny_Slice ?_
 rw [evalPart_none]
 refine wpAny_pure ?_
 refine wpAny_pure ?_
 refine thn (hs pins s1 σ H1 _ I1 q1) fun vt s2 ⟨o,H2,I2,pt,eo,a,xs,ex,hx,q⟩=>?_
 subst eo ex
 cases r1
 have I4:Inv X pins σ H2 { s2 with heap:=s2.heap.push { cls:=.type "slice",data:=.fields #[.none,.none,vt] } }:=I2.kept (t':=s2.toks) fun b ob q=>Heap.get?_push_of_some _ q
 obtain ⟨its,r,ht,hz⟩:=I4.list hx
 have hlen:=r.length
 show wpAny (model X.prog X.w) X.A (subscriptTail e (.Slice none none (some st) p2) (.ref a) (.ref s2.heap.objs.size)) (EP X pins σ Q) X.xe { s2 with heap:=s2.heap.push { cls:=.type "slice",data:=.fields #[.none,.none,vt] } }
 refine tail_any (ops:=[.ref a,.ref s2.heap.objs.size]) ht.isList.typeIs slot_list_getitem.lookup (wpAny_getItem_list_slice ht.isList (Heap.IsSliceOf.new ..) .none .none pt (by decide) ?_ (by rw [List.size_toArray]<;>omega)) (by with_unfolding_all rfl)
 rw [PySem.W.krv_pick]
 refine ⟨.ref _,_,I4.laid (t':=s2.toks) (o:=.lst xs.reverse) (fun b ob q=>Heap.get?_push_of_some _ q) (Nat.le_refl _) ?_,rfl,q _ (I4.hok.fresh (Nat.le_refl _))⟩
 exact ⟨by rw [List.length_reverse];exact hz,_,0,qc5 r,Heap.get?_push_size _ rfl⟩
end
end L2
namespace L2
open PySem PySem.Spec PyProof.Rows
section
variable {X:Cx} {a:Expr} {ta:TA} {p p2 pos pos2:Pos}
end
end L2
namespace L2
structure Sb (V:Nat→Prop):Prop where
 z:V 0
 a:∀ x y,V x→V y→V (x ^^^ y)
def jn (V:Nat→Prop) (x:Nat):Nat→Prop:=fun y=>V y∨V (y ^^^ x)
def Spn:List Nat→Nat→Prop
 | []=>fun y=>y=0
 | a::L=>jn (Spn L) a
open Classical in
def Bnd (b n v:Nat):Prop:=∀ i,v.testBit i=true→b≤i∧i < b + n
open Classical in
def swp:Nat→Nat→List Nat→Nat
 | 0,_,_=>0
 | n + 1,b,L=>match L.filter (fun v=>v.testBit b) with
  | []=>swp n (b + 1) L
  | p::t=>1 + swp n (b + 1) (L.filter (fun v=>!v.testBit b)++t.map fun v=>v ^^^ p)
open Classical in
def rk (L:List Nat):Nat:=swp 30 0 L
open Classical in
structure Ech (os:List (Nat×Nat)):Prop where
 nz:∀ o∈os,o.1≠0
 pw:os.Pairwise fun a b=>b.1.testBit a.1.log2=false
def csm:List Nat→Nat→Nat→Nat
 | [],_,_=>0
 | a::L,k,c=>(if c.testBit k then a else 0) ^^^ csm L (k + 1) c
structure Stp (L:List Nat) (n:Nat) (st:List (Nat×Nat)):Prop where
 ech:Ech st
 sum:∀ o∈st,csm L 0 o.2=o.1
 low:∀ o∈st,o.2 < 2 ^ n
 lt:∀ o∈st,o.1 < 2 ^ 30
 spn:∀ v,Spn (st.map (·.1)) v↔Spn (L.take n) v
 free:st.map (fun o=>o.2.log2)=(List.range n).filter fun i=>decide (rk (L.take i) < rk (L.take (i + 1)))
 len:st.length≤n
end L2
namespace L2
open PySem PySem.Spec PyProof.Rows
section
variable {X:Cx}
end
def Fl:V→Prop
 | .non=>True
 | .bl _=>True
 | .int i=>-999999999999≤i∧i≤999999999999
 | _=>False
def fD:V→PyData
 | .non=>.none
 | .bl b=>.bool b
 | .int i=>.int i
 | .str x=>.str x
 | _=>.none
def FlS (xs:List V):Prop:=xs.length≤1000∧∀ x∈xs,Fl x
def ShwT (H:Hp) (v:V) (t:Str):Prop:=match v with
 | .non=>t="None"
 | .bl b=>t=if b then Str.ofString "True" else Str.ofString "False"
 | .int i=>i.natAbs.log2 < 1920∧t=toString i
 | .str x=>(reprText x).length≤sizeLine∧t=reprText x
 | .ref p=>(∃ xs,H p=some (.lst xs)∧FlS xs∧t=(PyData.list (xs.map fD)).shown)∨∃ xs,H p=some (.tup xs)∧FlS xs∧t=(PyData.tuple (xs.map fD)).shown
 | _=>False
section
variable {X:Cx} {K:PySem.W.Frag}
end
theorem qbf {nl i j n:Nat} {K:PySem.W.Frag} (hi:i < nl:=by decide) (hj:j < nl:=by decide):qdO nl (qf5 K n (qe4 (qbo i) (qe4 (qbo j) qgE))):=by
 intro x σ H Q ⟨a,xs,e,hs,hn,v,r,e1,v2,r2,e2,q⟩
 obtain ⟨e3,q⟩:=q
 refine ⟨a,xs,e,hs,hn,v,r,e1,v2,r2,e2,e3,q,?_,fun k hk=>?_⟩
 ·rw [List.length_set,List.length_set]
 ·rw [List.getElem?_set_ne (by omega),List.getElem?_set_ne (by omega)]
section
variable {K:PySem.W.Frag} {a:Addr} {xs:List V} {g:TG} {tc:TT} {te:TE} {σ':St} {H1:Hp} {Q:V→Hp→Prop}
end
end L2
namespace L2
open PySem PySem.Spec PyProof.Rows
section
variable {K:PySem.W.Frag} {a b:Addr} {xs ys:List V} {g:TG} {tc:TT} {te:TE} {σ':St} {H1:Hp} {Q:V→Hp→Prop}
theorem qc6 (el:ys.length≤xs.length) (Pv:Nat→List V→Hp→Prop) (h0:Pv 0 [] H1) (hl:∀ i zs H,i≤ys.length→Pv i zs H→SqL K H a xs∧SqL K H b ys)
  (hs:∀ i x y t zs H,xs[i]?=some x→ys[i]?=some y→H t=none→Pv i zs H→g (.ref t) σ' (upd H t (.tup [x,y])) fun σ2 H2=>tc σ2 H2 fun b H3=>if b=true then te σ2 H3 fun v H4=>zs.length < sizeLine∧Pv (i + 1) (zs++[v]) H4 else Pv (i + 1) zs H3)
  (hd:∀ zs H,Pv ys.length zs H→zs.length≤sizeLine∧∀ p,H p=none→Q (.ref p) (upd H p (.lst zs))):qdP (Itz K a b) g tc te σ' H1 Q:=by
 refine ⟨fun i m zs H=>m=ys.length - i∧i≤ys.length∧Pv i zs H,⟨ys.length,by simp,Nat.zero_le _,h0⟩,?_⟩
 rintro i m zs H ⟨rfl,hi,p⟩
 obtain ⟨q,q2⟩:=hl i zs H hi p
 by_cases hlt2:i < ys.length
 ·have hlt:i < xs.length:=by omega
  refine .inr ⟨⟨xs,ys,xs[i],ys[i],q,q2,by simp [hlt],by simp [hlt2]⟩,Pv (i + 1),fun ys' H' p'=>⟨ys.length - (i + 1),by omega,rfl,hlt2,p'⟩,fun x H' y=>?_⟩
  obtain ⟨t,v,u,rfl,ht,rfl,y,y2⟩:=y
  exact hs i v u t zs _ (y xs q) (y2 ys q2) ht p
 ·have e:i=ys.length:=by omega
  subst e
  exact .inl ⟨⟨xs,ys,q,q2,.inr (Nat.le_refl _)⟩,hd zs H p⟩
end
section
variable {X:Cx} {K:PySem.W.Frag}
def rSorted (K:PySem.W.Frag):List V→Hp→VK→Prop:=fun xs H Q=>∃ (p:Addr) (ns:List Int),xs=[.ref p]∧SqL K H p (ns.map V.int)∧ns.length < 64∧∀ (l:Addr) (ms:List Int),H l=none→ms.Perm ns→ms.Pairwise (·≤·)→Q (.ref l) (upd H l (.lst (ms.map V.int)))
theorem k_sorted (hK:X.K=K):zM X (.builtin "sorted") (rSorted K):=by
 subst hK
 intro pins s σ H xs us Q I r h
 obtain ⟨p,ns,rfl,hp,h64,q⟩:=h
 obtain ⟨u,rfl,ru⟩:=qa5 r
 cases ru
 obtain ⟨its,rv,pl,hz⟩:=I.list hp
 have hI:IntsAre its ns:=intsAre_of rv
 have hl:its.length < 64:=by have:=rv.length;rw [List.length_map] at this;omega
 refine PyProof.Rows.sorted_ints (vs:=its) pl.isList hI hl fun out ms h1 h2 h3=>?_
 obtain ⟨e,he⟩:=PyProof.Rows.sortedAll_at s.heap its out
 have hf:H (s.heap.objs.size + 1)=none:=I.hok.fresh (Nat.le_succ _)
 have hv:=qba h1
 have new:ObjOk X.prog X.w (upd H (s.heap.objs.size + 1) (.lst (ms.map V.int))) (PyProof.Rows.sortedAll s.heap its out) (s.heap.objs.size + 1) (.lst (ms.map V.int)):=by
  refine ⟨?_,out.toList,e,hv,?_⟩
  ·rw [List.length_map,h2.length_eq];exact Nat.le_of_lt (qk (by omega))
  ·rw [he]
 exact ⟨.ref (s.heap.objs.size + 1),_,I.laid (t':=s.toks) (fun b o e=>PyProof.Rows.sortedAll_old e) (Nat.le_succ _) new,rfl,q _ ms hf h2 h3⟩
end
end L2
namespace K68
open PySem L2 PyProof.Rows
theorem zZ {k:Nat} {A:Around} (hr:Room k A):A.units + 100 < cLine:=by have:=hr.un;omega
theorem hmR {k j:Nat} {A:Around} (hr:Room k A) (h:j≤k:=by decide):Room j A:=hr.mono h
theorem sc_OnceError_init:FnScope ["self", "text"] ["self", "text"] (qb qU):=⟨rfl,rfl,rfl,by decide +kernel,rfl,by decide +kernel,by decide +kernel⟩
theorem sc_NoName_init:FnScope ["self", "found"] ["self", "found"] (qb jy):=⟨rfl,rfl,rfl,by decide +kernel,rfl,by decide +kernel,by decide +kernel⟩
theorem sc_Twice_init:FnScope ["self", "name"] ["self", "name"] (qb jJ):=⟨rfl,rfl,rfl,by decide +kernel,rfl,by decide +kernel,by decide +kernel⟩
theorem sc_NoPlace_init:FnScope ["self", "found"] ["self", "found"] (qb jm):=⟨rfl,rfl,rfl,by decide +kernel,rfl,by decide +kernel,by decide +kernel⟩
theorem sc_NoTie_init:FnScope ["self", "found"] ["self", "found"] (qb jK):=⟨rfl,rfl,rfl,by decide +kernel,rfl,by decide +kernel,by decide +kernel⟩
theorem sc_TooMany_init:FnScope ["self", "many"] ["self", "many"] (qb jo):=⟨rfl,rfl,rfl,by decide +kernel,rfl,by decide +kernel,by decide +kernel⟩
theorem sc_NoMove_init:FnScope ["self", "found"] ["self", "found"] (qb jz):=⟨rfl,rfl,rfl,by decide +kernel,rfl,by decide +kernel,by decide +kernel⟩
theorem sc_NoBack_init:FnScope ["self"] ["self"] (qb jA):=⟨rfl,rfl,rfl,by decide +kernel,rfl,by decide +kernel,by decide +kernel⟩
theorem sc_NoNumbers_init:FnScope ["self", "found"] ["self", "found"] (qb qV):=⟨rfl,rfl,rfl,by decide +kernel,rfl,by decide +kernel,by decide +kernel⟩
local macro_rules | `(tactic| walk_at "vc1")=>`(tactic| first
 | with_reducible refine vSeq ?_ | with_reducible refine vAsg ?_ | with_reducible refine vAsgS ?_ | with_reducible refine vIfS ?_ | with_reducible refine vRet ?_ | with_reducible refine vNext ?_ | with_reducible refine vC ?_
 | ((with_reducible refine' vVar ?hv ?_);(case hv=>rfl)) | with_reducible refine vOp ?_ | with_reducible refine vChain ?_ | with_reducible refine vNil ?_ | with_reducible refine vCons ?_ | with_reducible refine vCB ?_ | with_reducible refine vCall ?_
 | with_reducible refine vLst ?_ | with_reducible refine vTup ?_ | with_reducible refine vTest ?_ | with_reducible refine vB ?_ | with_reducible refine vNot ?_ | with_reducible refine vAnd ?_ | with_reducible refine vOr ?_
 | with_reducible refine vAndV ?_ | with_reducible refine vOrV ?_ | with_reducible refine vNotV ?_ | with_reducible refine vYes ?_ | with_reducible refine vLeI ?_ | with_reducible refine vLeS ?_ | with_reducible refine vIsB ?_ | with_reducible refine vAddI ?_ | with_reducible refine vSl ?_ | with_reducible refine vNoPart ?_ | with_reducible refine vPart ?_ | with_reducible refine vExI ?_ | with_reducible refine vBM ?_ | with_reducible refine vBM0 ?_ | with_reducible refine vComp ?_ | with_reducible refine vFor ?_ | with_reducible refine vRng1 ?_ | with_reducible refine vAny ?_ | with_reducible refine vGN ?_ | with_reducible refine vI0 ?_ | with_reducible refine vEqI ?_ | with_reducible refine vEqB ?_ | with_reducible refine vEx ?_ | with_reducible refine vDrop ?_ | with_reducible refine vRetN ?_ | with_reducible refine vFldU ?_ | with_reducible refine vSFldU ?_ | with_reducible refine vXMake ?_ | with_reducible refine vMake ?_ | with_reducible refine vMeth ?_ | with_reducible refine vVinit ?_ | with_reducible refine vCallS ?_ | with_reducible refine vRaise ?_ | with_reducible refine vMethS ?_ | with_reducible refine vMakeS ?_ | with_reducible refine vUn ?_ | with_reducible refine vIf ?_ | with_reducible refine vRev ?_ | with_reducible refine vEnum ?_ | with_reducible refine vDGet2 ?_ | with_reducible refine vStep ?_)
local macro_rules | `(tactic| walk_at "vc")=>`(tactic| repeat walk_at "vc1")
def qaW (i:Nat):Str:=if i=1 then "name" else if i=4 then "many" else "found"
structure Txt (K:W.Frag) (mg:Str→Option Value) (cc:Nat→Addr) (cw:Addr):Prop where
 b_len:mg "len"=none
 b_int:mg "int"=none
 b_enumerate:mg "enumerate"=none
 b_all:mg "all"=none
 b_max:mg "max"=none
 b_min:mg "min"=none
 b_isinstance:mg "isinstance"=none
 b_bool:mg "bool"=none
 b_str:mg "str"=none
 b_range:mg "range"=none
 b_list:mg "list"=none
 b_tuple:mg "tuple"=none
 b_ValueError:mg "ValueError"=none
 g_LONGEST_NAME:∃ tk,mg "LONGEST_NAME"=some (.int 6 tk)
 g_MOST_PLACES:∃ tk,mg "MOST_PLACES"=some (.int 14 tk)
 g_MOST_TIES:∃ tk,mg "MOST_TIES"=some (.int 30 tk)
 m_NoName:mg "NoName"=some (.ref (cc 0))
 m_Twice:mg "Twice"=some (.ref (cc 1))
 m_NoPlace:mg "NoPlace"=some (.ref (cc 2))
 m_NoTie:mg "NoTie"=some (.ref (cc 3))
 m_TooMany:mg "TooMany"=some (.ref (cc 4))
 m_NoMove:mg "NoMove"=some (.ref (cc 5))
 m_NoBack:mg "NoBack"=some (.ref (cc 6))
 m_NoNumbers:mg "NoNumbers"=some (.ref (cc 7))
 m_OnceError:mg "OnceError"=some (.ref (cc 8))
 vinit:VInit K
 xat:∀ i,i < 8 + 1→XAt K (cc i)
 na:∀ i,i < 8→NoAttr K (cc i) (qaW i)
 kit:∀ i j,i < 8→j < 8→W.kitOne K (.ref (cc i)) (.ref (cc j))=some (decide (i=j))
 kitV:∀ i,i < 8 + 1→W.kitOne K (.ref (cc i)) (.type "ValueError")=some true
 mroO:∀ i,i < 8→W.mroIn K (cc i) (.ref (cc 8))=some true
 wcl:Cls K cw
 wn:NoAttr K cw "numbers"
 wo:NoAttr K cw "order"
 wr:NoAttr K cw "near"
 m_Web:mg "Web"=some (.ref cw)
 m_Road:mg "Road"=some (.ref (cc 9))
 pcl:Cls K (cc 9)
 pb:NoAttr K (cc 9) "board"
 pp:NoAttr K (cc 9) "path"
 b_zip:mg "zip"=none
 b_sorted:mg "sorted"=none
 mr2:W.mroIn K (cc 2) (.ref (cc 2))=some true
 mr5:W.mroIn K (cc 5) (.ref (cc 5))=some true
 mr6:W.mroIn K (cc 6) (.ref (cc 6))=some true
 mr7:W.mroIn K (cc 7) (.ref (cc 7))=some true
 g_MOST_MOVES_ON:∃ tk,mg "MOST_MOVES_ON"=some (.int 4 tk)
def qas (K:W.Frag):Sp:=fun vs H Q _=>∃ (e C:Addr) (y:V),vs=[.ref e,y]∧H e=some (XN e C none)∧XAt K C∧Q .non H
def qg0 (C:Addr):Sp:=fun vs H Q _=>∃ (e:Addr),vs=[.ref e]∧H e=some (XN e C none)∧Q .non H
def spX (C:Addr) (fl:Str):Sp:=fun vs H Q _=>∃ (e:Addr) (v:V),vs=[.ref e,v]∧H e=some (XN e C none)∧∀ dx,H dx=none→Q .non (upd (upd H dx (.xd [(fl,v)])) e (XN e C (some dx)))
section
variable {P:Program} {w:World} {K:W.Frag} {mg:Str→Option Value} {base:Heap} {cc:Nat→Addr} {cw:Addr}
theorem ok_once {f:Addr} {fd:FuncData} (F:Fun K "__init__" "OnceError.__init__" qU f fd) (T:Txt K mg cc cw):FnOk P w K mg base CX0 1 f fd ["self", "text"] (qas K):=by
 refine F.ok sc_OnceError_init (fun vs H Q E h=>?_) fun cdv A outer s H vs Q E hr h=>?_
 ·obtain ⟨e,C,y,rfl,_⟩:=h;rfl
 ·obtain ⟨e,C,y,rfl,he,c,q⟩:=h
  refine ⟨_,(qf (qL (k_vinit (K:=K) rfl T.vinit rfl T.b_ValueError qad (qa (pv 0) (qa (pv 1) qc))))),?_⟩
  walk_at "vc"
  exact ⟨e,C,y,rfl,he,c,q⟩
theorem ok_NoName {f:Addr} {fd:FuncData} (F:Fun K "__init__" "NoName.__init__" jy f fd) (T:Txt K mg cc cw) (D_OnceError_init:CMethOk P w K mg base CX0 1 (cc 8) "OnceError" "__init__" ["self", "text"] (qas K)) :
  FnOk P w K mg base CX0 2 f fd ["self", "found"] (spX (cc 0) (qaW 0)):=by
 refine F.ok sc_NoName_init (fun vs H Q E h=>?_) fun cdv A outer s H vs Q E hr h=>?_
 ·obtain ⟨e,v,rfl,_⟩:=h;rfl
 ·obtain ⟨e,v,rfl,he,q⟩:=h
  refine ⟨_,(qe (qL (zu D_OnceError_init (hmR hr) (qa (pv 0) (qa zq qc))))
 (qf (jU (K:=K) rfl (pv 0) (pv 1) rfl))),?_⟩
  walk_at "vc"
  refine ⟨e,_,_,rfl,he,T.xat 0 (by decide),?_⟩
  walk_at "vc"
  exact .inr ⟨e,_,rfl,he,T.xat 0 (by decide),T.na 0 (by decide),q⟩
theorem ok_Twice {f:Addr} {fd:FuncData} (F:Fun K "__init__" "Twice.__init__" jJ f fd) (T:Txt K mg cc cw) (D_OnceError_init:CMethOk P w K mg base CX0 1 (cc 8) "OnceError" "__init__" ["self", "text"] (qas K)) :
  FnOk P w K mg base CX0 2 f fd ["self", "name"] (spX (cc 1) (qaW 1)):=by
 refine F.ok sc_Twice_init (fun vs H Q E h=>?_) fun cdv A outer s H vs Q E hr h=>?_
 ·obtain ⟨e,v,rfl,_⟩:=h;rfl
 ·obtain ⟨e,v,rfl,he,q⟩:=h
  refine ⟨_,(qe (qL (zu D_OnceError_init (hmR hr) (qa (pv 0) (qa zq qc))))
 (qf (jU (K:=K) rfl (pv 0) (pv 1) rfl))),?_⟩
  walk_at "vc"
  refine ⟨e,_,_,rfl,he,T.xat 1 (by decide),?_⟩
  walk_at "vc"
  exact .inr ⟨e,_,rfl,he,T.xat 1 (by decide),T.na 1 (by decide),q⟩
theorem ok_NoPlace {f:Addr} {fd:FuncData} (F:Fun K "__init__" "NoPlace.__init__" jm f fd) (T:Txt K mg cc cw) (D_OnceError_init:CMethOk P w K mg base CX0 1 (cc 8) "OnceError" "__init__" ["self", "text"] (qas K)) :
  FnOk P w K mg base CX0 2 f fd ["self", "found"] (spX (cc 2) (qaW 2)):=by
 refine F.ok sc_NoPlace_init (fun vs H Q E h=>?_) fun cdv A outer s H vs Q E hr h=>?_
 ·obtain ⟨e,v,rfl,_⟩:=h;rfl
 ·obtain ⟨e,v,rfl,he,q⟩:=h
  refine ⟨_,(qe (qL (zu D_OnceError_init (hmR hr) (qa (pv 0) (qa zq qc))))
 (qf (jU (K:=K) rfl (pv 0) (pv 1) rfl))),?_⟩
  walk_at "vc"
  refine ⟨e,_,_,rfl,he,T.xat 2 (by decide),?_⟩
  walk_at "vc"
  exact .inr ⟨e,_,rfl,he,T.xat 2 (by decide),T.na 2 (by decide),q⟩
theorem ok_NoTie {f:Addr} {fd:FuncData} (F:Fun K "__init__" "NoTie.__init__" jK f fd) (T:Txt K mg cc cw) (D_OnceError_init:CMethOk P w K mg base CX0 1 (cc 8) "OnceError" "__init__" ["self", "text"] (qas K)) :
  FnOk P w K mg base CX0 2 f fd ["self", "found"] (spX (cc 3) (qaW 3)):=by
 refine F.ok sc_NoTie_init (fun vs H Q E h=>?_) fun cdv A outer s H vs Q E hr h=>?_
 ·obtain ⟨e,v,rfl,_⟩:=h;rfl
 ·obtain ⟨e,v,rfl,he,q⟩:=h
  refine ⟨_,(qe (qL (zu D_OnceError_init (hmR hr) (qa (pv 0) (qa zq qc))))
 (qf (jU (K:=K) rfl (pv 0) (pv 1) rfl))),?_⟩
  walk_at "vc"
  refine ⟨e,_,_,rfl,he,T.xat 3 (by decide),?_⟩
  walk_at "vc"
  exact .inr ⟨e,_,rfl,he,T.xat 3 (by decide),T.na 3 (by decide),q⟩
theorem ok_TooMany {f:Addr} {fd:FuncData} (F:Fun K "__init__" "TooMany.__init__" jo f fd) (T:Txt K mg cc cw) (D_OnceError_init:CMethOk P w K mg base CX0 1 (cc 8) "OnceError" "__init__" ["self", "text"] (qas K)) :
  FnOk P w K mg base CX0 2 f fd ["self", "many"] (spX (cc 4) (qaW 4)):=by
 refine F.ok sc_TooMany_init (fun vs H Q E h=>?_) fun cdv A outer s H vs Q E hr h=>?_
 ·obtain ⟨e,v,rfl,_⟩:=h;rfl
 ·obtain ⟨e,v,rfl,he,q⟩:=h
  refine ⟨_,(qe (qL (zu D_OnceError_init (hmR hr) (qa (pv 0) (qa zq qc))))
 (qf (jU (K:=K) rfl (pv 0) (pv 1) rfl))),?_⟩
  walk_at "vc"
  refine ⟨e,_,_,rfl,he,T.xat 4 (by decide),?_⟩
  walk_at "vc"
  exact .inr ⟨e,_,rfl,he,T.xat 4 (by decide),T.na 4 (by decide),q⟩
theorem ok_NoMove {f:Addr} {fd:FuncData} (F:Fun K "__init__" "NoMove.__init__" jz f fd) (T:Txt K mg cc cw) (D_OnceError_init:CMethOk P w K mg base CX0 1 (cc 8) "OnceError" "__init__" ["self", "text"] (qas K)) :
  FnOk P w K mg base CX0 2 f fd ["self", "found"] (spX (cc 5) (qaW 5)):=by
 refine F.ok sc_NoMove_init (fun vs H Q E h=>?_) fun cdv A outer s H vs Q E hr h=>?_
 ·obtain ⟨e,v,rfl,_⟩:=h;rfl
 ·obtain ⟨e,v,rfl,he,q⟩:=h
  refine ⟨_,(qe (qL (zu D_OnceError_init (hmR hr) (qa (pv 0) (qa zq qc))))
 (qf (jU (K:=K) rfl (pv 0) (pv 1) rfl))),?_⟩
  walk_at "vc"
  refine ⟨e,_,_,rfl,he,T.xat 5 (by decide),?_⟩
  walk_at "vc"
  exact .inr ⟨e,_,rfl,he,T.xat 5 (by decide),T.na 5 (by decide),q⟩
theorem ok_NoBack {f:Addr} {fd:FuncData} (F:Fun K "__init__" "NoBack.__init__" jA f fd) (T:Txt K mg cc cw) (D_OnceError_init:CMethOk P w K mg base CX0 1 (cc 8) "OnceError" "__init__" ["self", "text"] (qas K)) :
  FnOk P w K mg base CX0 2 f fd ["self"] (qg0 (cc 6)):=by
 refine F.ok sc_NoBack_init (fun vs H Q E h=>?_) fun cdv A outer s H vs Q E hr h=>?_
 ·obtain ⟨e,rfl,_⟩:=h;rfl
 ·obtain ⟨e,rfl,he,q⟩:=h
  refine ⟨_,(qf (qL (zu D_OnceError_init (hmR hr) (qa (pv 0) (qa zq qc))))),?_⟩
  walk_at "vc"
  exact ⟨e,_,_,rfl,he,T.xat 6 (by decide),q⟩
theorem ok_NoNumbers {f:Addr} {fd:FuncData} (F:Fun K "__init__" "NoNumbers.__init__" qV f fd) (T:Txt K mg cc cw) (D_OnceError_init:CMethOk P w K mg base CX0 1 (cc 8) "OnceError" "__init__" ["self", "text"] (qas K)) :
  FnOk P w K mg base CX0 2 f fd ["self", "found"] (spX (cc 7) (qaW 7)):=by
 refine F.ok sc_NoNumbers_init (fun vs H Q E h=>?_) fun cdv A outer s H vs Q E hr h=>?_
 ·obtain ⟨e,v,rfl,_⟩:=h;rfl
 ·obtain ⟨e,v,rfl,he,q⟩:=h
  refine ⟨_,(qe (qL (zu D_OnceError_init (hmR hr) (qa (pv 0) (qa zq qc))))
 (qf (jU (K:=K) rfl (pv 0) (pv 1) rfl))),?_⟩
  walk_at "vc"
  refine ⟨e,_,_,rfl,he,T.xat 7 (by decide),?_⟩
  walk_at "vc"
  exact .inr ⟨e,_,rfl,he,T.xat 7 (by decide),T.na 7 (by decide),q⟩
end
theorem sc_is_name:FnScope ["thing"] ["thing"] (qb zk):=⟨rfl,rfl,rfl,by decide +kernel,rfl,by decide +kernel,by decide +kernel⟩
theorem sc_has_bit:FnScope ["bits", "number"] ["bits", "number"] (qb zD):=⟨rfl,rfl,rfl,by decide +kernel,rfl,by decide +kernel,by decide +kernel⟩
theorem sc_is_place:FnScope ["numbers", "thing"] ["numbers", "thing"] (qb zc):=⟨rfl,rfl,rfl,by decide +kernel,rfl,by decide +kernel,by decide +kernel⟩
theorem sc_are_two_places:FnScope ["numbers", "thing", "both"] ["numbers", "thing"] (qb qW):=⟨rfl,rfl,rfl,by decide +kernel,rfl,by decide +kernel,by decide +kernel⟩
theorem qF {l:Addr} {H H1:Hp} {o:HO} (a:L2.Same H H1) (hl:H1 l=none):L2.Same H (upd H1 l o):=fun c u e=>by
 have q:=a c u e
 rw [qi (qC q hl)]
 exact q
theorem qga {l:Addr} {H H1:Hp} {o:HO} (a:L2.Same H H1) (hl:H l=none):L2.Same H (upd H1 l o):=fun c u e=>by
 rw [qi (qC e hl)]
 exact a c u e
def sg (c:Nat):Bool:=if (!decide (([c]:List Nat) < ("a":Str).cps.toList))=true then !decide (("z":Str).cps.toList < [c]) else false
def qao (x:Str):Bool:=if 1≤x.length∧x.length≤6 then x.cps.toList.all sg else false
def qaJ:V→Bool
 | .str x=>qao x
 | _=>false
def jF:V→Str
 | .str x=>x
 | _=>""
theorem jG {x:V} (h:qaJ x=true):x=.str (jF x)∧qao (jF x)=true∧(jF x).length≤6:=by
 cases x with
 | str y =>
  refine ⟨rfl,h,?_⟩
  have h':qao y=true:=h
  unfold qao at h'
  split at h'
  ·rename_i z;exact z.2
  ·cases h'
 | _=>cases h
inductive Th (p:Addr) (H:Hp):Nat→V→Prop
 | flat {n:Nat} {v:V} (f:zO v=true) (l:∀ s,v=.str s→s.length≤100000):Th p H n v
 | lst {n:Nat} {a:Addr} {xs:List V} (e:H a=some (.lst xs)) (ne:a≠p) (h:∀ x∈xs,Th p H n x) (l:xs.length≤1000):Th p H (n + 1) (.ref a)
 | tup {n:Nat} {a:Addr} {xs:List V} (e:H a=some (.tup xs)) (ne:a≠p) (h:∀ x∈xs,Th p H n x) (l:xs.length≤1000):Th p H (n + 1) (.ref a)
 | dct {n:Nat} {a:Addr} {kvs:List (Key×V)} (e:H a=some (.dK kvs)) (ne:a≠p):Th p H n (.ref a)
theorem Th.mono {p:Addr} {H:Hp}:∀ {n:Nat} {v:V},Th p H n v→Th p H (n + 1) v
 | _,_,.flat f l=>.flat f l
 | _,_,.lst e ne h l=>.lst e ne (fun x hx=>(h x hx).mono) l
 | _,_,.tup e ne h l=>.tup e ne (fun x hx=>(h x hx).mono) l
 | _,_,.dct e ne=>.dct e ne
theorem Th.keep {p:Addr} {H H':Hp} (k:∀ b o,b≠p→H b=some o→H' b=some o):∀ {n:Nat} {v:V},Th p H n v→Th p H' n v
 | _,_,.flat f l=>.flat f l
 | _,_,.lst e ne h l=>.lst (k _ _ ne e) ne (fun x hx=>(h x hx).keep k) l
 | _,_,.tup e ne h l=>.tup (k _ _ ne e) ne (fun x hx=>(h x hx).keep k) l
 | _,_,.dct e ne=>.dct (k _ _ ne e) ne
theorem Th.same {p:Addr} {H H':Hp} {n:Nat} {v:V} (h:Th p H n v) (s:L2.Same H H'):Th p H' n v:=h.keep fun b o _ e=>s b o e
inductive Arg (p:Addr) (H:Hp):V→Option (List V)→Prop
 | lst {a:Addr} {xs:List V} (e:H a=some (.lst xs)) (ne:a≠p) (h:∀ x∈xs,Th p H 2 x) (l:xs.length≤1000):Arg p H (.ref a) (some xs)
 | tup {a:Addr} {xs:List V} (e:H a=some (.tup xs)) (ne:a≠p) (h:∀ x∈xs,Th p H 2 x) (l:xs.length≤1000):Arg p H (.ref a) (some xs)
 | flat {v:V} (f:zO v=true) (l:∀ s,v=.str s→s.length≤100000):Arg p H v none
 | dct {a:Addr} {kvs:List (Key×V)} (e:H a=some (.dK kvs)) (ne:a≠p):Arg p H (.ref a) none
theorem Arg.keep {p:Addr} {H H':Hp} (k:∀ b o,b≠p→H b=some o→H' b=some o) {v:V} {o:Option (List V)} (h:Arg p H v o):Arg p H' v o:=by
 cases h with
 | lst e ne h l=>exact .lst (k _ _ ne e) ne (fun x hx=>(h x hx).keep k) l
 | tup e ne h l=>exact .tup (k _ _ ne e) ne (fun x hx=>(h x hx).keep k) l
 | flat f l=>exact .flat f l
 | dct e ne=>exact .dct (k _ _ ne e) ne
theorem Arg.same {p:Addr} {H H':Hp} {v:V} {o:Option (List V)} (h:Arg p H v o) (s:L2.Same H H'):Arg p H' v o:=h.keep fun b o _ e=>s b o e
def isB:V→Bool
 | .bl _=>true
 | _=>false
theorem Th.ty {K:W.Frag} {p:Addr} {H:Hp} {n:Nat} {v:V} (h:Th p H n v):∃ t∈["NoneType", "bool", "int", "str", "list", "tuple", "dict"],TyOf K H v (.type t)∧(qca t "str"=true→∃ x,v=.str x∧x.length≤100000)∧(qca t "str"=false→qaJ v=false) ∧
  (qca t "tuple"=true→∃ a xs,v=.ref a∧H a=some (.tup xs)∧xs.length≤1000∧∀ x∈xs,Th p H n x)∧(qca t "tuple"=false→∀ a xs,v=.ref a→H a≠some (.tup xs))∧qca t "bool"=isB v:=by
 have no:∀ {P:Prop} {a b:String},qca a b=false→qca a b=true→P:=fun h1 h2=>by rw [h1] at h2;cases h2
 have yes:∀ {P:Prop} {a b:String},qca a b=true→qca a b=false→P:=fun h1 h2=>by rw [h1] at h2;cases h2
 cases h with
 | flat f l =>
  cases v with
  | non=>exact ⟨_,by simp,.non,no (by decide),fun _=>rfl,no (by decide),fun _ _ _ e=>by (cases e),rfl⟩
  | bl x=>exact ⟨_,by simp,.bl x,no (by decide),fun _=>rfl,no (by decide),fun _ _ _ e=>by (cases e),rfl⟩
  | int x=>exact ⟨_,by simp,.int x,no (by decide),fun _=>rfl,no (by decide),fun _ _ _ e=>by (cases e),rfl⟩
  | str x=>exact ⟨_,by simp,.str x,fun _=>⟨x,rfl,l x rfl⟩,yes (by decide),no (by decide),fun _ _ _ e=>by (cases e),rfl⟩
  | _=>cases f
 | lst e ne h l=>exact ⟨_,by simp,.lst e,no (by decide),fun _=>rfl,no (by decide),fun _ _ _ z=>by (cases z;rw [e];intro y;cases y),rfl⟩
 | tup e ne h l=>exact ⟨_,by simp,.tup e,no (by decide),fun _=>rfl,fun _=>⟨_,_,rfl,e,l,fun x hx=>(h x hx).mono⟩,yes (by decide),rfl⟩
 | dct e ne=>exact ⟨_,by simp,.dK e,no (by decide),fun _=>rfl,no (by decide),fun _ _ _ z=>by (cases z;rw [e];intro y;cases y),rfl⟩
section
variable {P:Program} {w:World} {K:W.Frag} {mg:Str→Option Value} {base:Heap} {cc:Nat→Addr} {cw:Addr}
def qdX:Sp:=fun vs H Q _=>∃ (p:Addr) (n:Nat) (v:V),vs=[v]∧Th p H n v∧∀ H',L2.Same H H'→Q (.bl (qaJ v)) H'
theorem ok_name {f:Addr} {fd:FuncData} (F:Fun K "is_name" "is_name" zk f fd) (T:Txt K mg cc cw):FnOk P w K mg base CX0 1 f fd ["thing"] qdX:=by
 refine F.ok sc_is_name (fun vs H Q E h=>?_) fun cdv A outer s H vs Q E hr h=>?_
 ·obtain ⟨p,n,v,rfl,_⟩:=h;rfl
 ·obtain ⟨p,n,v,rfl,hv,q⟩:=h
  refine ⟨_,(qe (qO (PW.pt (qaU (qZ (qI (qp (zY (K:=K) rfl) rfl T.b_isinstance boot_isinstance (qa (pv 0) (qa (jC (v:=.ty "str") rfl T.b_str boot_str rfl) qc))))) (qap (qZ (pt_chain qfs qfs qg (qp (zC (K:=K) rfl) rfl T.b_len boot_len (qa (pv 0) qc)) (qaD rfl T.g_LONGEST_NAME)))))) (qf (qm jI)) qr)
 (qf (qm (qp (k_all (K:=K) rfl rfl) rfl T.b_all boot_all (qa (zj (sc:=qb zk) (XN:=["thing"]) ["sign"] 1 [] rfl rfl rfl (by decide +kernel) rfl (by decide +kernel)
  (j7 (K:=K) rfl (pv 0)) (fun _ _ _ _=>(qt (i:=0) (show (["sign"]:List Str).Nodup by decide +kernel) rfl (Or.inl rfl))) zR
  (fun _ _ _ _=>zS)
  (fun _ _ _ _=>(qcS qfs qfs zq (pv 0) zq))) qc))))),?_⟩
  obtain ⟨t,ht,ty,hs,hn,_,_,_⟩:=hv.ty (K:=K)
  walk_at "vc"
  refine qaP (.inl ty) rfl (j8 K t ht "str" (by simp)) ?_
  walk_at "vc"
  refine qQ (fun h=>?_) fun h=>?_
  ·walk_at "vc"
   have z:=q H (L2.Same.refl H)
   rw [hn (by simpa using h)] at z
   exact z
  ·obtain ⟨x,rfl,hx⟩:=hs (by simpa using h)
   walk_at "vc"
   refine vLenS (Nat.le_trans hx (by decide)) ?_
   walk_at "vc"
   have q1:=q
   simp only [qaJ,qao] at q1
   have hneg:¬ (1≤x.length∧x.length≤6)→∀ H',L2.Same H H'→Q (.bl false) H':=fun hc H' hs=>by
    have z:=q1 H' hs
    rw [if_neg hc] at z
    exact z
   refine qQ (fun h1=>?_) fun h1=>?_
   ·walk_at "vc"
    refine qQ (fun h2=>?_) fun h2=>?_
    ·walk_at "vc"
     refine hneg (fun h=>?_) H (L2.Same.refl H)
     simp only [Bool.not_eq_true',decide_eq_false_iff_not] at h2
     omega
    ·walk_at "vc"
     have hin:1≤x.length∧x.length≤6:=by
      have a1:=of_decide_eq_true h1
      simp only [Bool.not_eq_true',decide_eq_false_iff_not,Classical.not_not] at h2
      omega
     rw [if_pos hin] at q1
     refine comp_str (fun i ys H'=>H'=H∧ys=((x.cps.toList.take i).map sg).map V.bl) ⟨rfl,by simp⟩ (fun i c ys H' hc hp=>?_) fun ys H' hp=>?_
     ·obtain ⟨rfl,rfl⟩:=hp
      walk_at "vc"
      refine qau ?_
      walk_at "vc"
      have hl:(List.map V.bl (List.map sg (List.take i x.cps.toList))).length < sizeLine:=by
       rw [List.length_map,List.length_map,List.length_take]
       exact qk (Nat.le_trans (Nat.min_le_right _ _) (by simpa [Str.length] using (show x.length≤1000 by omega)))
      have key:∀ b,b=sg c→(List.map V.bl (List.map sg (List.take i x.cps.toList)))++[V.bl b]=List.map V.bl (List.map sg (List.take (i + 1) x.cps.toList)):=by
       intro b hb
       have e':x.cps.toList[i]?=some c:=by simpa using hc
       rw [hb,List.take_add_one,e']
       simp
      refine qQ (fun h3=>?_) fun h3=>?_
      ·walk_at "vc"
       exact ⟨hl,rfl,key _ (by unfold sg;rw [if_pos h3])⟩
      ·exact ⟨hl,rfl,key _ (by unfold sg;rw [if_neg h3])⟩
     ·obtain ⟨rfl,rfl⟩:=hp
      have ht:x.cps.toList.take x.cps.size=x.cps.toList:=by rw [← Array.length_toList,List.take_length]
      rw [ht]
      refine ⟨?_,fun l hl=>?_⟩
      ·rw [List.length_map,List.length_map]
       exact Nat.le_of_lt (qk (by simpa [Str.length] using (show x.length≤1000 by omega)))
      ·walk_at "vc"
       refine ⟨l,x.cps.toList.map sg,rfl,SqL.of qd,?_⟩
       have z:=q1 _ (qF (L2.Same.refl H') (o:=.lst ((x.cps.toList.map sg).map V.bl)) hl)
       rw [List.all_map]
       exact z
   ·walk_at "vc"
    exact hneg (fun h=>h1 (decide_eq_true (by omega))) H (L2.Same.refl H)
def qfe:Sp:=fun vs H Q _=>∃ b n:Int,vs=[.int b,.int n]∧0≤n∧Q (.bl (decide (Builtin.bitAnd (b / 2 ^ n.toNat) 1=1))) H
theorem ok_bit {f:Addr} {fd:FuncData} (F:Fun K "has_bit" "has_bit" zD f fd):FnOk P w K mg base CX0 1 f fd ["bits", "number"] qfe:=by
 refine F.ok sc_has_bit (fun vs H Q E h=>?_) fun cdv A outer s H vs Q E hr h=>?_
 ·obtain ⟨b,n,rfl,_⟩:=h;rfl
 ·obtain ⟨b,n,rfl,hn,q⟩:=h
  have hu:=zZ hr
  refine ⟨_,(qf (qm (jT (zT (K:=K) rfl hu) (qB op_and (qB op_shr (pv 0) (pv 1)) qg) qg (qy _)))),?_⟩
  walk_at "vc"
  refine vI hn ?_
  walk_at "vc"
  refine .inl (.inl (.inl ⟨rfl,rfl,?_⟩))
  exact q
def qaK:List Str→Nat→List (Key×V)
 | [],_=>[]
 | s::r,i=>(.inr s,.int i)::qaK r (i + 1)
theorem qcg (y:Str):∀ (ss:List Str) (i:Nat),qaK (ss++[y]) i=qaK ss i++[(.inr y,.int (i + ss.length:Nat))]
 | [],i=>rfl
 | s::r,i=>by
  show (_::qaK (r++[y]) (i + 1))=_::(qaK r (i + 1)++_)
  rw [qcg y r (i + 1)]
  have:i + 1 + r.length=i + (s::r).length:=by simp;omega
  rw [this]
theorem zU:∀ (ss:List Str) (i:Nat),(qaK ss i).length=ss.length
 | [],_=>rfl
 | _::r,i=>congrArg (· + 1) (zU r (i + 1))
theorem qbg {y:Str}:∀ {ss:List Str} {i:Nat},y∉ss→qbR (qaK ss i) (.inr y:Key)=none
 | [],_,_=>rfl
 | s::r,i,h=>by
  have h1:¬ s=y:=fun e=>h (by rw [e];exact List.mem_cons_self)
  show qbR ((.inr s,V.int i)::qaK r (i + 1)) _=none
  rw [qaz (p:=((.inr s:Key),V.int i)) (fun e=>h1 (Sum.inr.inj e))]
  exact qbg fun m=>h (List.mem_cons_of_mem _ m)
theorem zl {y:Str}:∀ {ss:List Str} {i:Nat},y∈ss→∃ j,j < ss.length∧ss[j]?=some y∧qbR (qaK ss i) (.inr y:Key)=some (.int (i + j:Nat))
 | [],_,h=>by cases h
 | s::r,i,h=>by
  by_cases e:s=y
  ·subst e
   exact ⟨0,by simp,rfl,qaY (p:=((.inr s:Key),V.int i)) rfl⟩
  ·rcases List.mem_cons.mp h with z | z
   ·exact absurd z.symm e
   ·obtain ⟨j,h1,h2,h3⟩:=zl (i:=i + 1) z
    refine ⟨j + 1,by simp;omega,by simpa using h2,?_⟩
    show qbR ((.inr s,V.int i)::qaK r (i + 1)) _=_
    rw [qaz (p:=((.inr s:Key),V.int i)) (fun e'=>e (Sum.inr.inj e')),h3]
    have:i + 1 + j=i + (j + 1):=by omega
    rw [this]
theorem qbh (y:Str) (ss:List Str) (i:Nat):(qbR (qaK ss i) (.inr y:Key)).isSome=decide (y∈ss):=by
 by_cases h:y∈ss
 ·obtain ⟨j,_,_,e⟩:=zl (i:=i) h
  rw [e,decide_eq_true h];rfl
 ·rw [qbg h,decide_eq_false h];rfl
def jB (ss:List Str) (v:V):Bool:=if qaJ v=true then decide (jF v∈ss) else false
def qcG:Sp:=fun vs H Q _=>∃ (p:Addr) (n:Nat) (d:Addr) (ss:List Str) (v:V),vs=[.ref d,v]∧H d=some (.dK (qaK ss 0))∧Th p H n v∧∀ H',L2.Same H H'→Q (.bl (jB ss v)) H'
theorem ok_place {f:Addr} {fd:FuncData} (F:Fun K "is_place" "is_place" zc f fd) (D_is_name:DefOk P w K mg base CX0 1 "is_name" ["thing"] qdX):FnOk P w K mg base CX0 2 f fd ["numbers", "thing"] qcG:=by
 refine F.ok sc_is_place (fun vs H Q E h=>?_) fun cdv A outer s H vs Q E hr h=>?_
 ·obtain ⟨p,n,d,ss,v,rfl,_⟩:=h;rfl
 ·obtain ⟨p,n,d,ss,v,rfl,hd,hv,q⟩:=h
  have hu:=zZ hr
  refine ⟨_,(qf (qm (qar (qq D_is_name (hmR hr) qx (qa (pv 1) qc)) (qaq (jT (qfd (K:=K) rfl hu) (pv 1) (pv 0) (by with_unfolding_all rfl)))))),?_⟩
  walk_at "vc"
  refine ⟨p,n,v,rfl,hv,fun H1 s1=>?_⟩
  walk_at "vc"
  have q1:=q H1 s1
  unfold jB at q1
  refine qQ (fun hc=>?_) fun hc=>?_
  ·walk_at "vc"
   rw [if_pos hc] at q1
   obtain ⟨e,_,_⟩:=jG hc
   generalize jF v=x at q1 e
   subst e
   refine .inr (.inl ⟨d,_,rfl,DGet.k (k:=Sum.inr x) (s1 d _ hd),?_⟩)
   rw [qbh]
   exact q1
  ·rw [if_neg hc] at q1
   exact q1
def qdw (ss:List Str) (y z:V):Bool:=jB ss y&&jB ss z&&!decide (jF y=jF z)
def zK (H:Hp) (ss:List Str) (x:V):Option (Str×Str):=match x with
 | .ref a=>(match H a with
  | some (.tup [y,z])=>if qdw ss y z=true then some (jF y,jF z) else none
  | _=>none)
 | _=>none
theorem qc7 {H:Hp} {ss:List Str} {a:Addr} {y z:V} (e:H a=some (.tup [y,z])):zK H ss (.ref a)=if qdw ss y z=true then some (jF y,jF z) else none:=by
 unfold zK
 dsimp only
 rw [e]
theorem j4 {H:Hp} {ss:List Str} {x:V} (h:∀ a xs,x=.ref a→H a=some (.tup xs)→xs.length≠2):zK H ss x=none:=by
 unfold zK
 cases x with
 | ref a =>
  dsimp only
  split
  ·rename_i y z e;exact absurd rfl (h a _ rfl e)
  ·rfl
 | _=>rfl
theorem qch {p:Addr} {n:Nat} {H H':Hp} {ss:List Str} {x:V} (h:Th p H n x) (k:∀ b o,b≠p→H b=some o→H' b=some o):zK H' ss x=zK H ss x:=by
 cases h with
 | flat f l=>cases x<;>first | rfl | cases f
 | lst e ne h l=>rw [j4 (H:=H') (fun a xs z y=>by (cases z;rw [k _ _ ne e] at y;cases y)),j4 (H:=H) fun a xs z y=>by (cases z;rw [e] at y;cases y)]
 | tup e ne h l=>unfold zK;dsimp only;rw [k _ _ ne e,e]
 | dct e ne=>rw [j4 (H:=H') (fun a xs z y=>by (cases z;rw [k _ _ ne e] at y;cases y)),j4 (H:=H) fun a xs z y=>by (cases z;rw [e] at y;cases y)]
theorem tieV_same {p:Addr} {n:Nat} {H H':Hp} {ss:List Str} {x:V} (h:Th p H n x) (s:L2.Same H H'):zK H' ss x=zK H ss x:=qch h fun b o _ e=>s b o e
theorem zm {ss:List Str} {v:V} (h:jB ss v=true):qaJ v=true∧jF v∈ss:=by
 unfold jB at h
 split at h
 ·rename_i z;exact ⟨z,of_decide_eq_true h⟩
 ·cases h
def qfP:Sp:=fun vs H Q _=>∃ (p:Addr) (n:Nat) (d:Addr) (ss:List Str) (v:V),vs=[.ref d,v]∧H d=some (.dK (qaK ss 0))∧Th p H n v∧∀ H',L2.Same H H'→Q (.bl (zK H ss v).isSome) H'
theorem ok_two {f:Addr} {fd:FuncData} (F:Fun K "are_two_places" "are_two_places" qW f fd) (T:Txt K mg cc cw) (D_is_place:DefOk P w K mg base CX0 2 "is_place" ["numbers", "thing"] qcG):FnOk P w K mg base CX0 3 f fd ["numbers", "thing"] qfP:=by
 refine F.ok sc_are_two_places (fun vs H Q E h=>?_) fun cdv A outer s H vs Q E hr h=>?_
 ·obtain ⟨p,n,d,ss,v,rfl,_⟩:=h;rfl
 ·obtain ⟨p,n,d,ss,v,rfl,hd,hv,q⟩:=h
  have hu:=zZ hr
  refine ⟨_,(qe (qO (PW.pt (qaU (qZ (qI (qp (zY (K:=K) rfl) rfl T.b_isinstance boot_isinstance (qa (pv 1) (qa (jC (v:=.ty "tuple") rfl T.b_tuple boot_tuple rfl) qc))))) (qap (qu (qaG (K:=K) rfl hu) (qp (zC (K:=K) rfl) rfl T.b_len boot_len (qa (pv 1) qc)) qg (qy _))))) (qf (qm jI)) qr)
 (qe (qw (i:=2) sc_are_two_places.nd rfl (Or.inl rfl) (qar (qq D_is_place (hmR hr) qx (qa (pv 0) (qa (qD (qE (K:=K) rfl hu) (pv 1) qg (fun _ _=>rfl)) qc))) (qaq (qq D_is_place (hmR hr) qx (qa (pv 0) (qa (qD (qE (K:=K) rfl hu) (pv 1) qg (fun _ _=>rfl)) qc))))))
 (qf (qm (qar (pv 2) (qaq (jT (qaG (K:=K) rfl hu) (qD (qE (K:=K) rfl hu) (pv 1) qg (fun _ _=>rfl)) (qD (qE (K:=K) rfl hu) (pv 1) qg (fun _ _=>rfl)) (qy _)))))))),?_⟩
  obtain ⟨t,ht,ty,_,_,h1,h2,_⟩:=hv.ty (K:=K)
  walk_at "vc"
  refine qaP (.inl ty) rfl (j8 K t ht "tuple" (by simp)) ?_
  walk_at "vc"
  refine qQ (fun h=>?_) fun h=>?_
  ·walk_at "vc"
   have z:=q H (L2.Same.refl H)
   rw [j4 (fun a xs e y=>absurd y (h2 (by simpa using h) a xs e))] at z
   exact z
  ·obtain ⟨a,xs,rfl,ea,_,hx⟩:=h1 (by simpa using h)
   walk_at "vc"
   refine qfK ea ?_
   walk_at "vc"
   refine .inl ⟨rfl,rfl,?_⟩
   walk_at "vc"
   refine qQ (fun h=>?_) fun h=>?_
   ·walk_at "vc"
    have z:=q H (L2.Same.refl H)
    rw [j4 (fun a' xs' e y=>by
     cases e
     rw [ea] at y
     cases y
     intro e2
     rw [e2] at h
     simp [eqV] at h)] at z
    exact z
   ·have hl:xs.length=2:=by
     simp only [if_true,eqV,Bool.not_eq_true',Bool.not_eq_false'] at h
     have h':((xs.length:Int)==2)=true:=by simpa using h
     have:=eq_of_beq h'
     omega
    match xs,hl,ea,hx with
    | [y,z],_,ea,hx =>
     have hy:=hx y (by simp)
     have hz:=hx z (by simp)
     rw [qc7 ea] at q
     walk_at "vc"
     refine .inl (qft ea rfl ?_)
     walk_at "vc"
     refine ⟨p,n,d,ss,y,rfl,hd,hy,fun H1 s1=>?_⟩
     walk_at "vc"
     have fin:∀ H2,L2.Same H H2→¬ (jB ss y=true∧jB ss z=true)→Q (.bl false) H2:=fun H2 s2 hn=>by
      have:=q H2 s2
      rw [if_neg (fun e=>hn (by unfold qdw at e;simp only [Bool.and_eq_true] at e;exact ⟨e.1.1,e.1.2⟩))] at this
      exact this
     refine qQ (fun h3=>?_) fun h3=>?_
     ·walk_at "vc"
      refine .inl (qft (s1 _ _ ea) rfl ?_)
      walk_at "vc"
      refine ⟨p,n,d,ss,z,rfl,s1 _ _ hd,hz.same s1,fun H2 s2=>?_⟩
      walk_at "vc"
      refine qQ (fun h4=>?_) fun h4=>?_
      ·walk_at "vc"
       refine .inl (qft (s2 _ _ (s1 _ _ ea)) rfl ?_)
       walk_at "vc"
       refine .inl (qft (s2 _ _ (s1 _ _ ea)) rfl ?_)
       obtain ⟨ny,_⟩:=zm h3
       obtain ⟨nz,_⟩:=zm h4
       obtain ⟨ey,_,_⟩:=jG ny
       obtain ⟨ez,_,_⟩:=jG nz
       have fq:=q H2 (s1.trans s2)
       unfold qdw at fq
       rw [h3,h4] at fq
       generalize jF y=sy at ey fq
       generalize jF z=sz at ez fq
       subst ey ez
       refine .inl ⟨rfl,rfl,?_⟩
       have e:(if true=true then !eqV (V.str sy) (V.str sz) else eqV (V.str sy) (V.str sz))=(if (true&&true&&!decide (sy=sz))=true then some (sy,sz) else none).isSome:=by
        by_cases hs:sy=sz
        ·subst hs;simp [eqV]
        ·simp [eqV,hs]
       rw [e]
       exact fq
      ·exact fin H2 (s1.trans s2) fun e=>h4 e.2
     ·walk_at "vc"
      refine qQ (fun h=>by cases h) fun _=>?_
      exact fin H1 s1 fun e=>h3 e.1
end
theorem sc_numbers_of:FnScope ["names", "numbers", "name"] ["names"] (qb jL):=⟨rfl,rfl,rfl,by decide +kernel,rfl,by decide +kernel,by decide +kernel⟩
theorem qdY (m j:Nat):decide (Builtin.bitAnd ((m:Int) / 2 ^ (j:Int).toNat) 1=1)=m.testBit j:=by
 rw [PyProof.Rows.bitAnd_m1,Nat.testBit_eq_decide_div_mod_eq]
 rw [Int.toNat_natCast]
 have e:(m:Int) / 2 ^ j=((m / 2 ^ j:Nat):Int):=by rw [Int.natCast_ediv,Int.natCast_pow];rfl
 rw [e]
 congr 1
 apply propext
 omega
theorem qeJ (m j:Nat):Builtin.bitOr (m:Int) (1 * 2 ^ (j:Int).toNat)=((m ||| 2 ^ j:Nat):Int):=by
 have e:(1 * 2 ^ (j:Int).toNat:Int)=((2 ^ j:Nat):Int):=by rw [Int.toNat_natCast,Int.one_mul,Int.natCast_pow];rfl
 rw [e]
 generalize 2 ^ j=k
 have n1:Builtin.bitNot (m:Int)=-(m:Int) - 1:=rfl
 have n2:Builtin.bitNot (k:Int)=-(k:Int) - 1:=rfl
 unfold Builtin.bitOr Builtin.bitAnd
 rw [n1,n2,decide_eq_false (by omega),decide_eq_false (by omega)]
 dsimp only
 unfold Builtin.bitNot
 have e1:(-(-(m:Int) - 1) - 1).toNat=m:=by omega
 have e2:(-(-(k:Int) - 1) - 1).toNat=k:=by omega
 rw [e1,e2]
 omega
def But (x:Addr) (H H':Hp):Prop:=∀ b o,b≠x→H b=some o→H' b=some o
theorem But.refl (x:Addr) (H:Hp):But x H H:=fun _ _ _ e=>e
theorem But.same {x:Addr} {H H1 H2:Hp} (a:But x H H1) (b:L2.Same H1 H2):But x H H2:=fun c o n e=>b c o (a c o n e)
theorem But.put {x:Addr} {H H1:Hp} {o:HO} (a:But x H H1):But x H (upd H1 x o):=fun c u n e=>by rw [qi n];exact a c u n e
theorem But.new {x l:Addr} {H H1:Hp} {o:HO} (a:But x H H1) (hl:H1 l=none):But x H (upd H1 l o):=a.same (qF (L2.Same.refl H1) hl)
theorem jp {K:W.Frag} {H1:Hp} {C:Addr} {fl:Str} {y:V} {E:XK} (c:XAt K C) (q:∀ dx H',L2.Same H1 H'→H' dx=some (.xd [(fl,y)])→E (.ref C) (some dx) H') :
  [y].length≤1000∧∀ x,H1 x=none→spX C fl (.ref x::[y]) (upd H1 x (XN x C none)) (fun v H2=>v=.non∧∃ a C' dx,(V.ref x)=.ref a∧H2 a=some (XN a C' dx)∧XAt K C'∧E (.ref C') dx (upd H2 a (XO a C' dx))) E0:=by
 refine ⟨by show 1≤1000;decide,fun x hx=>⟨x,y,rfl,qd,fun dx hdx=>⟨rfl,x,C,some dx,rfl,qd,c,q dx _ (fun b o e=>?_) ?_⟩⟩⟩
 ·have nx:b≠x:=fun z=>by rw [z,hx] at e;cases e
  have nd:b≠dx:=fun z=>by rw [← z,qi nx,e] at hdx;cases hdx
  rw [qi nx,qi nx,qi nd,qi nx]
  exact e
 ·have nd:dx≠x:=fun z=>by rw [z,qd] at hdx;cases hdx
  rw [qi nd,qi nd,qd]
def qgs (g:TG) (t:TS) (D:Ends) (σ:L2.St) (J:It) (H1:Hp):Prop:=∃ W:Nat→Nat→L2.St→Hp→Prop,(∃ m,W 0 m σ H1)∧∀ i m σ H,W i m σ H →
 (J.stop i H∧D.nx σ H)∨(J.go i H∧∃ N:L2.St→Hp→Prop,(∀ σ' H',N σ' H'→∃ m',m' < m∧W (i + 1) m' σ' H')∧∀ x H',J.yld i H x H'→g x σ H' fun σ2 H2=>t { D with nx:=N,ct:=N,bk:=D.nx } σ2 H2)
theorem qdZ {K:W.Frag} {p:Addr} {H H1:Hp} {v:V} {xs:List V} {g:TG} {tb:TS} {D:Ends} {σ:L2.St} (h:Arg p H v (some xs)) (s1:L2.Same H H1) (Pv:Nat→L2.St→Hp→Prop) (h0:Pv 0 σ H1) (hl:∀ i σ H',Pv i σ H'→L2.Same H H')
  (hs:∀ i x σ H,xs[i]?=some x→Pv i σ H→g x σ H fun σ2 H2=>tb { D with nx:=Pv (i + 1),ct:=Pv (i + 1),bk:=D.nx } σ2 H2) (hd:∀ σ H,Pv xs.length σ H→D.nx σ H) :
  (match v with
   | .str x=>qgs g tb D σ (Its x) H1
   | .ref a=>((∃ xs,SqL K H1 a xs)∧qgs g tb D σ (Itl K a) H1)∨((∃ xs,SqT K H1 a xs)∧qgs g tb D σ (Itt K a) H1)
   | _=>False):=by
 cases h with
 | lst e ne h l=>exact .inl ⟨⟨_,SqL.of (s1 _ _ e)⟩,zr (K:=K) Pv h0 (fun i σ H' _ hp=>SqL.of (hl i σ H' hp _ _ e)) hs hd⟩
 | tup e ne h l=>exact .inr ⟨⟨_,SqT.of (s1 _ _ e)⟩,for_tup (K:=K) Pv h0 (fun i σ H' _ hp=>SqT.of (hl i σ H' hp _ _ e)) hs hd⟩
theorem Arg.ty {K:W.Frag} {p:Addr} {H:Hp} {v:V} {o:Option (List V)} (h:Arg p H v o):∃ t,TyX K H v t∧W.kitAny K t [.type "list",.type "tuple"]=some o.isSome:=by
 cases h with
 | lst e ne h l=>exact ⟨_,.inl (.lst e),rfl⟩
 | tup e ne h l=>exact ⟨_,.inl (.tup e),rfl⟩
 | flat f l =>
  cases v with
  | non=>exact ⟨_,.inl .non,rfl⟩
  | bl x=>exact ⟨_,.inl (.bl x),rfl⟩
  | int x=>exact ⟨_,.inl (.int x),rfl⟩
  | str x=>exact ⟨_,.inl (.str x),rfl⟩
  | _=>cases f
 | dct e ne=>exact ⟨_,.inl (.dK e),rfl⟩
theorem Arg.len {K:W.Frag} {p:Addr} {H:Hp} {v:V} {xs:List V} {Q:VK} (h:Arg p H v (some xs)) (q:Q (.int xs.length) H):qb9 K [v] H Q:=by
 cases h with
 | lst e ne h l=>exact qaV e q
 | tup e ne h l=>exact qfK e q
theorem Arg.few {p:Addr} {H:Hp} {v:V} {xs:List V} (h:Arg p H v (some xs)):xs.length≤1000∧∀ x∈xs,Th p H 2 x:=by
 cases h with
 | lst e ne h l=>exact ⟨l,h⟩
 | tup e ne h l=>exact ⟨l,h⟩
theorem Arg.isi {K:W.Frag} {p q:Addr} {H:Hp} {v:V} {o:Option (List V)} {Q:VK} (h:Arg p H v o) (hq:H q=some (.tup [.ty "list",.ty "tuple"])) (k:Q (.bl o.isSome) H):qeG K [v,.ref q] H Q:=by
 obtain ⟨t,ty,e⟩:=h.ty (K:=K)
 exact ⟨v,q,_,t,_,_,rfl,ty,hq,rfl,e,k⟩
def qdx:List V→List Str→Option (Nat×V)
 | [],_=>none
 | x::r,ss=>if qaJ x=true then (if jF x∈ss then some (1,x) else qdx r (ss++[jF x])) else some (0,x)
theorem qci (x:V) (r:List V) (ss:List Str):qdx (x::r) ss=if qaJ x=true then (if jF x∈ss then some (1,x) else qdx r (ss++[jF x])) else some (0,x):=rfl
theorem qcj:∀ {xs:List V} {ss:List Str},qdx xs ss=none→xs=(xs.map jF).map V.str∧(∀ x∈xs,qaJ x=true)∧(∀ s∈xs.map jF,s∉ss)∧(xs.map jF).Nodup
 | [],ss,_=>⟨rfl,by simp,by simp,by simp⟩
 | x::r,ss,h=>by
  unfold qdx at h
  split at h
  ·rename_i hn
   split at h
   ·cases h
   ·rename_i hm
    obtain ⟨i1,i2,i3,i4⟩:=qcj h
    obtain ⟨e,_,_⟩:=jG hn
    refine ⟨?_,?_,?_,?_⟩
    ·rw [List.map_cons,List.map_cons,← e,← i1]
    ·intro y hy
     rcases List.mem_cons.mp hy with rfl | hy
     ·exact hn
     ·exact i2 y hy
    ·intro s hs
     rcases List.mem_cons.mp hs with rfl | hs
     ·exact hm
     ·exact fun z=>i3 s hs (List.mem_append_left _ z)
    ·rw [List.map_cons,List.nodup_cons]
     exact ⟨fun z=>i3 _ z (List.mem_append_right _ (by simp)),i4⟩
  ·cases h
def qfv (v:V):Option (List V)→Option (Nat×V)
 | none=>some (0,v)
 | some xs=>if 14 < xs.length then some (4,.int xs.length) else qdx xs []
def Rz (cc:Nat→Addr) (H:Hp) (E:XK) (r:Nat×V):Prop:=∀ dx H',L2.Same H H'→H' dx=some (.xd [(qaW r.1,r.2)])→E (.ref (cc r.1)) (some dx) H'
theorem Rz.later {cc:Nat→Addr} {H H1:Hp} {E:XK} {r:Nat×V} (h:Rz cc H E r) (s:L2.Same H H1):Rz cc H1 E r:=fun dx H' t e=>h dx H' (s.trans t) e
def qeK (cc:Nat→Addr):Sp:=fun vs H Q E=>∃ (p:Addr) (v:V) (o:Option (List V)),vs=[v]∧Arg p H v o∧(∀ r,qfv v o=some r→Rz cc H E r)∧(qfv v o=none→∀ d H',L2.Same H H'→H d=none→H' d=some (.dK (qaK ((o.getD []).map jF) 0))→Q (.ref d) H')
section
variable {P:Program} {w:World} {K:W.Frag} {mg:Str→Option Value} {base:Heap} {cc:Nat→Addr} {cw:Addr}
theorem ok_nums {f:Addr} {fd:FuncData} (F:Fun K "numbers_of" "numbers_of" jL f fd) (T:Txt K mg cc cw) (D_is_name:DefOk P w K mg base CX0 1 "is_name" ["thing"] qdX)
  (D_NoName:XMakeOk P w K mg base 2 (cc 0) "NoName" ["self", "found"] (spX (cc 0) (qaW 0))) (D_Twice:XMakeOk P w K mg base 2 (cc 1) "Twice" ["self", "name"] (spX (cc 1) (qaW 1))) (D_TooMany:XMakeOk P w K mg base 2 (cc 4) "TooMany" ["self", "many"] (spX (cc 4) (qaW 4))) :
  FnOk P w K mg base (CX1 P w) 4 f fd ["names"] (qeK cc):=by
 refine F.ok1 sc_numbers_of (fun vs H Q E h=>?_) fun cdv A outer s H vs Q E hr h=>?_
 ·obtain ⟨p,v,o,rfl,_⟩:=h;rfl
 ·obtain ⟨p,v,o,rfl,ha,hz,q⟩:=h
  have hu:=zZ hr
  refine ⟨_,(qe (qO (qZ (qI (qp (qcC (K:=K) rfl) rfl T.b_isinstance boot_isinstance (qa (pv 0) (qa (jD (qa (jC (v:=.ty "list") rfl T.b_list boot_list rfl) (qa (jC (v:=.ty "tuple") rfl T.b_tuple boot_tuple rfl) qc))) qc))))) (qf (zx (K:=K) rfl za (qbp D_NoName (hmR hr) (qa (pv 0) qc)))) qr)
 (qe (qO (qu qdr (qp (zC (K:=K) rfl) rfl T.b_len boot_len (qa (pv 0) qc)) (qaD rfl T.g_MOST_PLACES) (qy _)) (qf (zx (K:=K) rfl za (qbp D_TooMany (hmR hr) (qa (qp (zC (K:=K) rfl) rfl T.b_len boot_len (qa (pv 0) qc)) qc)))) qr)
 (qe (qw (i:=1) sc_numbers_of.nd rfl (Or.inl rfl) pe_dnewK)
 (qe (j9 PassesOwn.leaving rfl (j7 (K:=K) rfl (pv 0)) (qt (i:=2) sc_numbers_of.nd rfl (Or.inl rfl))
 (qe (qO (qZ (qI (qq D_is_name (hmR hr) qx (qa (pv 2) qc)))) (qf (zx (K:=K) rfl za (qbp D_NoName (hmR hr) (qa (pv 2) qc)))) qr)
 (qe (qO (qu (qfd (K:=K) rfl hu) (pv 2) (pv 1) (by with_unfolding_all rfl)) (qf (zx (K:=K) rfl za (qbp D_Twice (hmR hr) (qa (pv 2) qc)))) qr)
 (qf (qbU (qp (zC (K:=K) rfl) rfl T.b_len boot_len (qa (pv 1) qc)) (qcP (pv 1) (pv 2) (qc4 hu)))))))
 (qf (qm (pv 1))))))),?_⟩
  walk_at "vc"
  refine ⟨by show 2≤sizeLine;decide,fun g hg=>?_⟩
  have s0:=qF (L2.Same.refl H) (o:=.tup [.ty "list",.ty "tuple"]) hg
  walk_at "vc"
  refine (ha.same s0).isi qd ?_
  walk_at "vc"
  cases o with
  | none =>
   refine qQ (fun _=>?_) (fun h=>absurd rfl h)
   walk_at "vc"
   exact jp (T.xat 0 (by decide)) ((hz (0,v) rfl).later s0)
  | some xs =>
   refine qQ (fun h=>by cases h) fun _=>?_
   obtain ⟨few,hth⟩:=ha.few
   walk_at "vc"
   refine (ha.same s0).len ?_
   walk_at "vc"
   refine qQ (fun h=>?_) fun h=>?_
   ·walk_at "vc"
    refine (ha.same s0).len ?_
    walk_at "vc"
    have h':14 < xs.length:=by have:=of_decide_eq_true h;omega
    exact jp (T.xat 4 (by decide)) ((hz (4,.int xs.length) (by show (if 14 < xs.length then _ else _)=_;rw [if_pos h'])).later s0)
   ·have h':¬ 14 < xs.length:=fun z=>h (decide_eq_true (by omega))
    have ho:qfv v (some xs)=qdx xs []:=by show (if 14 < xs.length then _ else _)=_;rw [if_neg h']
    rw [ho] at hz q
    walk_at "vc"
    intro d hd
    have s1:=qF s0 (o:=.dK []) hd
    have hd0:H d=none:=s0.free hd
    walk_at "vc"
    refine qdZ ha s1 (fun i σ H'=>∃ v2,σ=[some v,some (.ref d),v2]∧L2.Same H H'∧H' d=some (.dK (qaK ((xs.take i).map jF) 0))∧qdx xs []=qdx (xs.drop i) ((xs.take i).map jF)) ⟨none,rfl,s1,qd,rfl⟩ (fun i σ H' hp=>by obtain ⟨_,_,z,_⟩:=hp;exact z) (fun i x σ H' hx hp=>?_) fun σ H' hp=>?_
    ·obtain ⟨v2,rfl,s2,hk,hdue⟩:=hp
     have hil:i < xs.length:=(List.getElem?_eq_some_iff.mp hx).1
     have hdr:xs.drop i=x::xs.drop (i + 1):=by
      rw [List.drop_eq_getElem_cons hil]
      have:=(List.getElem?_eq_some_iff.mp hx).2
      rw [this]
     have htk:xs.take (i + 1)=xs.take i++[x]:=by rw [List.take_add_one,hx];rfl
     rw [hdr,qci] at hdue
     walk_at "vc"
     refine ⟨p,2,x,rfl,(hth x (List.mem_of_getElem? hx)).same s2,fun H1 t1=>?_⟩
     have s3:=s2.trans t1
     walk_at "vc"
     refine qQ (fun hn=>?_) fun hn=>?_
     ·walk_at "vc"
      have hn':¬ qaJ x=true:=by simpa using hn
      rw [if_neg hn'] at hdue
      exact jp (T.xat 0 (by decide)) ((hz (0,x) hdue).later s3)
     ·have hn':qaJ x=true:=by simpa using hn
      rw [if_pos hn'] at hdue
      obtain ⟨ex,_,hx6⟩:=jG hn'
      have key:∀ y,y=jF x→x=.str y:=fun y hy=>by rw [hy];exact ex
      generalize hy:jF x=y at hdue hx6 ex
      subst ex
      walk_at "vc"
      refine .inr (.inl ⟨d,_,rfl,DGet.k (k:=Sum.inr y) (t1 _ _ hk),?_⟩)
      rw [qbh]
      walk_at "vc"
      refine qQ (fun hm=>?_) fun hm=>?_
      ·walk_at "vc"
       have hm':y∈(xs.take i).map jF:=of_decide_eq_true hm
       rw [if_pos hm'] at hdue
       exact jp (T.xat 1 (by decide)) ((hz (1,.str y) hdue).later s3)
      ·have hm':y∉(xs.take i).map jF:=fun z=>hm (decide_eq_true z)
       rw [if_neg hm'] at hdue
       walk_at "vc"
       refine .inr ⟨_,t1 _ _ hk,?_⟩
       walk_at "vc"
       refine .inr ⟨d,_,rfl,DPut.k (k:=Sum.inr y) (t1 _ _ hk) (qk (by rw [zU,List.length_map,List.length_take];omega)),?_⟩
       refine ⟨_,rfl,qga s3 hd0,?_,?_⟩
       ·rw [qd,putK_new _ (qbg hm'),htk,List.map_append,List.map_cons,List.map_nil,qcg,zU]
        simp only [Nat.zero_add]
        rfl
       ·rw [hdue,htk,List.map_append]
        rfl
    ·obtain ⟨v2,rfl,s2,hk,hdue⟩:=hp
     rw [List.drop_length] at hdue
     walk_at "vc"
     rw [List.take_length] at hk
     exact q hdue d H' s2 hd0 hk
end
theorem sc_Web_init:FnScope ["self", "names", "ties"] ["self", "names", "ties"] (qb zd):=⟨rfl,rfl,rfl,by decide +kernel,rfl,by decide +kernel,by decide +kernel⟩
theorem sc_near_of:FnScope ["numbers", "ties", "near", "tie", "one", "other"] ["numbers", "ties"] (qb zE):=⟨rfl,rfl,rfl,by decide +kernel,rfl,by decide +kernel,by decide +kernel⟩
def goT (H:Hp) (ss:List Str):List V→List (Str×Str)→Option V
 | [],_=>none
 | x::r,seen=>match zK H ss x with
  | none=>some x
  | some t=>if t∈seen∨(t.2,t.1)∈seen then some x else goT H ss r (seen++[t])
theorem qd0 {H:Hp} {ss:List Str} {x:V} {r:List V} {seen:List (Str×Str)} (h:zK H ss x=none):goT H ss (x::r) seen=some x:=by
 show (match zK H ss x with | none=>_ | some t=>_)=_
 rw [h]
theorem qc8 {H:Hp} {ss:List Str} {x:V} {r:List V} {seen:List (Str×Str)} {t:Str×Str} (h:zK H ss x=some t):goT H ss (x::r) seen=if t∈seen∨(t.2,t.1)∈seen then some x else goT H ss r (seen++[t]):=by
 show (match zK H ss x with | none=>_ | some t=>_)=_
 rw [h]
def qed (H:Hp) (ss:List Str) (v:V):Option (List V)→Option (Nat×V)
 | none=>some (3,v)
 | some xs=>if 30 < xs.length then some (4,.int xs.length) else (goT H ss xs []).map fun y=>(3,y)
theorem tieV_some {H:Hp} {ss:List Str} {x:V} {t:Str×Str} (h:zK H ss x=some t):∃ a,x=.ref a∧H a=some (.tup [.str t.1,.str t.2])∧qao t.1=true∧qao t.2=true∧t.1.length≤6∧t.2.length≤6∧t.1∈ss∧t.2∈ss∧t.1≠t.2:=by
 unfold zK at h
 split at h
 ·rename_i a
  split at h
  ·rename_i y z e
   split at h
   ·rename_i hp
    cases h
    unfold qdw at hp
    simp only [Bool.and_eq_true] at hp
    obtain ⟨⟨h1,h2⟩,h3⟩:=hp
    obtain ⟨n1,m1⟩:=zm h1
    obtain ⟨n2,m2⟩:=zm h2
    obtain ⟨e1,g1,l1⟩:=jG n1
    obtain ⟨e2,g2,l2⟩:=jG n2
    refine ⟨a,rfl,?_,g1,g2,l1,l2,m1,m2,?_⟩
    ·show H a=some (.tup [.str (jF y),.str (jF z)])
     rw [← e1,← e2]
     exact e
    ·simpa using h3
   ·cases h
  ·cases h
 ·cases h
def qaf (ss:List Str) (ns:List Nat) (seen:List (Str×Str)):Prop:=ns.length=ss.length∧(∀ a,ns.getD a 0 < 2 ^ ss.length)∧∀ a b s t,ss[a]?=some s→ss[b]?=some t→(ns.getD a 0).testBit b=decide ((s,t)∈seen∨(t,s)∈seen)
theorem qA {ss:List Str} (h:ss.Nodup) {a b:Nat} {s:Str} (ha:ss[a]?=some s) (hb:ss[b]?=some s):a=b:=by
 have hp:=List.pairwise_iff_getElem.mp h
 obtain ⟨la,ea⟩:=List.getElem?_eq_some_iff.mp ha
 obtain ⟨lb,eb⟩:=List.getElem?_eq_some_iff.mp hb
 rcases Nat.lt_trichotomy a b with q | q | q
 ·exact absurd (ea.trans eb.symm) (hp a b la lb q)
 ·exact q
 ·exact absurd (eb.trans ea.symm) (hp b a lb la q)
theorem bits_zero {ss:List Str}:qaf ss (List.replicate ss.length 0) []:=by
 have z:∀ a,(List.replicate ss.length 0).getD a 0=0:=fun a=>by
  simp only [List.getD,List.getElem?_replicate]
  split<;>rfl
 refine ⟨by simp,fun a=>by rw [z a];exact Nat.two_pow_pos _,fun a b s t ha hb=>?_⟩
 rw [z a]
 simp
theorem qaL {ns:List Nat} {i j v:Nat} (h:i < ns.length):(ns.set i v).getD j 0=if i=j then v else ns.getD j 0:=by
 simp only [List.getD,List.getElem?_set]
 by_cases e:i=j
 ·subst e;simp [h]
 ·simp [e]
theorem bits_step {ss:List Str} {ns:List Nat} {seen:List (Str×Str)} (hb:qaf ss ns seen) (hn:ss.Nodup) {i j:Nat} {s t:Str} (hi:ss[i]?=some s) (hj:ss[j]?=some t) (hst:s≠t) :
  qaf ss ((ns.set i (ns.getD i 0 ||| 2 ^ j)).set j (ns.getD j 0 ||| 2 ^ i)) (seen++[(s,t)]):=by
 obtain ⟨hl,hlt,h⟩:=hb
 have li:i < ns.length:=by rw [hl];exact (List.getElem?_eq_some_iff.mp hi).1
 have lj:j < ns.length:=by rw [hl];exact (List.getElem?_eq_some_iff.mp hj).1
 have nij:i≠j:=fun e=>by rw [e,hj] at hi;cases hi;exact hst rfl
 have li':i < ss.length:=(List.getElem?_eq_some_iff.mp hi).1
 have lj':j < ss.length:=(List.getElem?_eq_some_iff.mp hj).1
 refine ⟨by simp [hl],fun a=>?_,fun a b u v ha hb'=>?_⟩
 ·rw [qaL (by simpa using lj),qaL li]
  split
  ·exact Nat.or_lt_two_pow (hlt _) (Nat.pow_lt_pow_right (by decide) li')
  ·split
   ·exact Nat.or_lt_two_pow (hlt _) (Nat.pow_lt_pow_right (by decide) lj')
   ·exact hlt _
 rw [qaL (by simpa using lj),qaL li]
 have h0:=h a b u v ha hb'
 have key:∀ P Q:Prop,(P↔Q)→∀ [Decidable P] [Decidable Q],decide P=decide Q:=fun P Q e=>by intro _ _;exact decide_eq_decide.mpr e
 by_cases ja:j=a
 ·subst ja
  rw [hj] at ha
  cases ha
  rw [if_pos rfl,Nat.testBit_or,h0,Nat.testBit_two_pow]
  by_cases ib:i=b
  ·subst ib
   rw [hi] at hb'
   cases hb'
   simp
  ·have vs:v≠s:=fun e=>by subst e;exact ib (qA hn hi hb')
   simp only [ib,decide_false,Bool.or_false]
   apply decide_eq_decide.mpr
   simp only [List.mem_append,List.mem_singleton,Prod.mk.injEq]
   constructor
   ·rintro (z | z)
    ·exact .inl (.inl z)
    ·exact .inr (.inl z)
   ·rintro ((z | ⟨z,_⟩) | (z | ⟨z,_⟩))
    ·exact .inl z
    ·exact absurd z.symm hst
    ·exact .inr z
    ·exact absurd z vs
 ·rw [if_neg ja]
  by_cases ia:i=a
  ·subst ia
   rw [hi] at ha
   cases ha
   rw [if_pos rfl,Nat.testBit_or,h0,Nat.testBit_two_pow]
   by_cases jb:j=b
   ·subst jb
    rw [hj] at hb'
    cases hb'
    simp
   ·have vt:v≠t:=fun e=>by subst e;exact jb (qA hn hj hb')
    simp only [jb,decide_false,Bool.or_false]
    apply decide_eq_decide.mpr
    simp only [List.mem_append,List.mem_singleton,Prod.mk.injEq]
    constructor
    ·rintro (z | z)
     ·exact .inl (.inl z)
     ·exact .inr (.inl z)
    ·rintro ((z | ⟨_,z⟩) | (z | ⟨_,z⟩))
     ·exact .inl z
     ·exact absurd z vt
     ·exact .inr z
     ·exact absurd z hst
  ·rw [if_neg ia,h0]
   have us:u≠s:=fun e=>by subst e;exact ia (qA hn hi ha)
   have ut:u≠t:=fun e=>by subst e;exact ja (qA hn hj ha)
   apply decide_eq_decide.mpr
   simp only [List.mem_append,List.mem_singleton,Prod.mk.injEq]
   constructor
   ·rintro (z | z)
    ·exact .inl (.inl z)
    ·exact .inr (.inl z)
   ·rintro ((z | ⟨z,_⟩) | (z | ⟨_,z⟩))
    ·exact .inl z
    ·exact absurd z us
    ·exact .inr z
    ·exact absurd z ut
def qc9 (ns:List Nat):List V:=ns.map fun (n:Nat)=>.int (n:Int)
theorem qaZ {ns:List Nat} {i:Nat} (h:i < ns.length):(qc9 ns)[i]?=some (.int (ns.getD i 0:Nat)):=by
 unfold qc9
 rw [List.getElem?_map,List.getElem?_eq_getElem h]
 simp [List.getD,h]
theorem qda (ns:List Nat) (i m:Nat):(qc9 ns).set i (.int m)=qc9 (ns.set i m):=by
 unfold qc9
 rw [List.map_set]
theorem natV_zero (k:Nat):(List.replicate k [V.int 0]).flatten=qc9 (List.replicate k 0):=by
 induction k with
 | zero=>rfl
 | succ k ih=>rw [List.replicate_succ,List.flatten_cons,ih];rfl
theorem qd1 {n j:Nat} (h:j < n):ixN n (j:Int)=some j:=by
 unfold ixN
 rw [if_pos (by omega),if_pos (by omega)]
 rfl
def qeL (cc:Nat→Addr):Sp:=fun vs H Q E=>∃ (p d:Addr) (ss:List Str) (v:V) (o:Option (List V)),vs=[.ref d,v]∧H d=some (.dK (qaK ss 0))∧ss.length≤14∧ss.Nodup∧Arg p H v o∧(∀ r,qed H ss v o=some r→Rz cc H E r) ∧
 (qed H ss v o=none→∀ n ns H',L2.Same H H'→H n=none→H' n=some (.lst (qc9 ns))→qaf ss ns ((o.getD []).filterMap (zK H ss))→Q (.ref n) H')
section
variable {P:Program} {w:World} {K:W.Frag} {mg:Str→Option Value} {base:Heap} {cc:Nat→Addr} {cw:Addr}
theorem ok_near {f:Addr} {fd:FuncData} (F:Fun K "near_of" "near_of" zE f fd) (T:Txt K mg cc cw) (D_are_two_places:DefOk P w K mg base CX0 3 "are_two_places" ["numbers", "thing"] qfP) (D_has_bit:DefOk P w K mg base CX0 1 "has_bit" ["bits", "number"] qfe)
  (D_NoTie:XMakeOk P w K mg base 2 (cc 3) "NoTie" ["self", "found"] (spX (cc 3) (qaW 3))) (D_TooMany:XMakeOk P w K mg base 2 (cc 4) "TooMany" ["self", "many"] (spX (cc 4) (qaW 4))) :
  FnOk P w K mg base (CX1 P w) 4 f fd ["numbers", "ties"] (qeL cc):=by
 refine F.ok1 sc_near_of (fun vs H Q E h=>?_) fun cdv A outer s H vs Q E hr h=>?_
 ·obtain ⟨p,d,ss,v,o,rfl,_⟩:=h;rfl
 ·obtain ⟨p,d,ss,v,o,rfl,hd,hs14,hnd,ha,hz,q⟩:=h
  have hu:=zZ hr
  refine ⟨_,(qe (qO (qZ (qI (qp (qcC (K:=K) rfl) rfl T.b_isinstance boot_isinstance (qa (pv 1) (qa (jD (qa (jC (v:=.ty "list") rfl T.b_list boot_list rfl) (qa (jC (v:=.ty "tuple") rfl T.b_tuple boot_tuple rfl) qc))) qc))))) (qf (zx (K:=K) rfl za (qbp D_NoTie (hmR hr) (qa (pv 1) qc)))) qr)
 (qe (qO (qu qdr (qp (zC (K:=K) rfl) rfl T.b_len boot_len (qa (pv 1) qc)) (qaD rfl T.g_MOST_TIES) (qy _)) (qf (zx (K:=K) rfl za (qbp D_TooMany (hmR hr) (qa (qp (zC (K:=K) rfl) rfl T.b_len boot_len (qa (pv 1) qc)) qc)))) qr)
 (qe (qw (i:=2) sc_near_of.nd rfl (Or.inl rfl) (qB qex (js (qa qg qc)) (qp (zC (K:=K) rfl) rfl T.b_len boot_len (qa (pv 0) qc))))
 (qe (j9 PassesOwn.leaving rfl (j7 (K:=K) rfl (pv 1)) (qt (i:=3) sc_near_of.nd rfl (Or.inl rfl))
 (qe (qO (qZ (qI (qq D_are_two_places (hmR hr) qx (qa (pv 0) (qa (pv 3) qc))))) (qf (zx (K:=K) rfl za (qbp D_NoTie (hmR hr) (qa (pv 3) qc)))) qr)
 (qe (qw (i:=4) sc_near_of.nd rfl (Or.inl rfl) (qD (qE (K:=K) rfl hu) (pv 0) (qD (qE (K:=K) rfl hu) (pv 3) qg (fun _ _=>rfl)) (fun _ _=>rfl)))
 (qe (qw (i:=5) sc_near_of.nd rfl (Or.inl rfl) (qD (qE (K:=K) rfl hu) (pv 0) (qD (qE (K:=K) rfl hu) (pv 3) qg (fun _ _=>rfl)) (fun _ _=>rfl)))
 (qe (qO (qI (qq D_has_bit (hmR hr) qx (qa (qD (qE (K:=K) rfl hu) (pv 2) (pv 4) (fun _ _=>rfl)) (qa (pv 5) qc)))) (qf (zx (K:=K) rfl za (qbp D_NoTie (hmR hr) (qa (pv 3) qc)))) qr)
 (qe (qbU (qB qfC (qD (qE (K:=K) rfl hu) (pv 2) (pv 4) (fun _ _=>rfl)) (qB qet qg (pv 5))) (qcP (pv 2) (pv 4) (qc4 hu)))
 (qf (qbU (qB qfC (qD (qE (K:=K) rfl hu) (pv 2) (pv 5) (fun _ _=>rfl)) (qB qet qg (pv 4))) (qcP (pv 2) (pv 5) (qc4 hu))))))))))
 (qf (qm (pv 2))))))),?_⟩
  walk_at "vc"
  refine ⟨by show 2≤sizeLine;decide,fun g hg=>?_⟩
  have s0:=qF (L2.Same.refl H) (o:=.tup [.ty "list",.ty "tuple"]) hg
  walk_at "vc"
  refine (ha.same s0).isi qd ?_
  walk_at "vc"
  cases o with
  | none =>
   refine qQ (fun _=>?_) (fun h=>absurd rfl h)
   walk_at "vc"
   exact jp (T.xat 3 (by decide)) ((hz (3,v) rfl).later s0)
  | some xs =>
   refine qQ (fun h=>by cases h) fun _=>?_
   obtain ⟨few,hth⟩:=ha.few
   walk_at "vc"
   refine (ha.same s0).len ?_
   walk_at "vc"
   refine qQ (fun h=>?_) fun h=>?_
   ·walk_at "vc"
    refine (ha.same s0).len ?_
    walk_at "vc"
    have h':30 < xs.length:=by have:=of_decide_eq_true h;omega
    exact jp (T.xat 4 (by decide)) ((hz (4,.int xs.length) (by show (if 30 < xs.length then _ else _)=_;rw [if_pos h'])).later s0)
   ·have h':¬ 30 < xs.length:=fun z=>h (decide_eq_true (by omega))
    have ho:qed H ss v (some xs)=(goT H ss xs []).map fun y=>(3,y):=by show (if 30 < xs.length then _ else _)=_;rw [if_neg h']
    rw [ho] at hz q
    walk_at "vc"
    refine ⟨by show 1≤sizeLine;decide,fun z hzz=>?_⟩
    have s1:=qF s0 (o:=.lst [.int 0]) hzz
    walk_at "vc"
    refine .inr ⟨_,s1 _ _ hd,?_⟩
    walk_at "vc"
    rw [zU]
    refine ⟨z,_,_,rfl,rfl,qd,by omega,by omega,by show 1 * _≤sizeLine;rw [Int.toNat_natCast];exact Nat.le_of_lt (qk (by omega)),fun n hn=>?_⟩
    rw [Int.toNat_natCast,natV_zero]
    have s2:=qF s1 (o:=.lst (qc9 (List.replicate ss.length 0))) hn
    have n0:H n=none:=s1.free hn
    walk_at "vc"
    refine qdZ ha s2 (fun i σ H'=>∃ v3 v4 v5 ns,σ=[some (.ref d),some v,some (.ref n),v3,v4,v5]∧L2.Same H H'∧H' n=some (.lst (qc9 ns))∧qaf ss ns ((xs.take i).filterMap (zK H ss))∧goT H ss xs []=goT H ss (xs.drop i) ((xs.take i).filterMap (zK H ss)))
     ⟨none,none,none,_,rfl,s2,qd,bits_zero,rfl⟩ (fun i σ H' hp=>by obtain ⟨_,_,_,_,_,z,_⟩:=hp;exact z) (fun i x σ H' hx hp=>?_) fun σ H' hp=>?_
    ·obtain ⟨v3,v4,v5,ns,rfl,s3,hnn,hbits,hgo⟩:=hp
     have hil:i < xs.length:=(List.getElem?_eq_some_iff.mp hx).1
     have hdr:xs.drop i=x::xs.drop (i + 1):=by
      rw [List.drop_eq_getElem_cons hil]
      have:=(List.getElem?_eq_some_iff.mp hx).2
      rw [this]
     have htk:xs.take (i + 1)=xs.take i++[x]:=by rw [List.take_add_one,hx];rfl
     have hxt:=hth x (List.mem_of_getElem? hx)
     rw [hdr] at hgo
     walk_at "vc"
     refine ⟨p,2,d,ss,x,rfl,s3 _ _ hd,hxt.same s3,fun H1 t1=>?_⟩
     rw [tieV_same hxt s3]
     have s4:=s3.trans t1
     have hn1:=t1 _ _ hnn
     walk_at "vc"
     cases ht:zK H ss x with
     | none =>
      refine qQ (fun _=>?_) (fun h=>absurd rfl h)
      walk_at "vc"
      rw [qd0 ht] at hgo
      exact jp (T.xat 3 (by decide)) ((hz (3,x) (by rw [hgo];rfl)).later s4)
     | some st =>
      refine qQ (fun h=>by cases h) fun _=>?_
      obtain ⟨a,rfl,ea,n1,n2,l1,l2,m1,m2,hne⟩:=tieV_some ht
      rw [qc8 ht] at hgo
      obtain ⟨sx,sy⟩:=st
      dsimp only at ea n1 n2 l1 l2 m1 m2 hne hgo
      obtain ⟨ja,hja,gja,vja⟩:=zl (i:=0) m1
      obtain ⟨jb,hjb,gjb,vjb⟩:=zl (i:=0) m2
      rw [Nat.zero_add] at vja vjb
      have nab:ja≠jb:=fun e=>by rw [e,gjb] at gja;cases gja;exact hne rfl
      have lna:ja < ns.length:=by rw [hbits.1];exact hja
      have lnb:jb < ns.length:=by rw [hbits.1];exact hjb
      walk_at "vc"
      refine .inl (qft (s4 _ _ ea) rfl ?_)
      refine .inr ⟨d,.int ja,rfl,?_,?_⟩
      ·have:=DGet.k (k:=Sum.inr sx) (s4 _ _ hd)
       rw [vja] at this
       exact this
      walk_at "vc"
      refine .inl (qft (s4 _ _ ea) rfl ?_)
      refine .inr ⟨d,.int jb,rfl,?_,?_⟩
      ·have:=DGet.k (k:=Sum.inr sy) (s4 _ _ hd)
       rw [vjb] at this
       exact this
      walk_at "vc"
      refine .inl (qaC hn1 (ju (qaZ lna)) ?_)
      walk_at "vc"
      refine ⟨_,_,rfl,by omega,?_⟩
      rw [qdY,hbits.2.2 ja jb sx sy gja gjb]
      walk_at "vc"
      refine qQ (fun hm=>?_) fun hm=>?_
      ·walk_at "vc"
       rw [if_pos (of_decide_eq_true hm)] at hgo
       exact jp (T.xat 3 (by decide)) ((hz (3,.ref a) (by rw [hgo];rfl)).later s4)
      ·rw [if_neg (fun e=>hm (decide_eq_true e))] at hgo
       walk_at "vc"
       refine .inl (qaC hn1 (ju (qaZ lna)) ?_)
       walk_at "vc"
       refine vI ⟨by omega,by omega,by decide⟩ ?_
       walk_at "vc"
       rw [qeJ]
       refine .inl (qfa hn1 (qd1 (by unfold qc9;rw [List.length_map];exact lna)) ?_)
       rw [qda]
       walk_at "vc"
       have e2:(ns.set ja (ns.getD ja 0 ||| 2 ^ jb)).getD jb 0=ns.getD jb 0:=by rw [qaL lna,if_neg nab]
       refine .inl (qaC qd (ju (qaZ (by simpa using lnb))) ?_)
       walk_at "vc"
       refine vI ⟨by omega,by omega,by decide⟩ ?_
       walk_at "vc"
       rw [qeJ,e2]
       refine .inl (qfa qd (qd1 (by unfold qc9;rw [List.length_map];simpa using lnb)) ?_)
       rw [qda]
       have hfm:(xs.take (i + 1)).filterMap (zK H ss)=(xs.take i).filterMap (zK H ss)++[(sx,sy)]:=by
        rw [htk,List.filterMap_append]
        simp [ht]
       refine ⟨_,_,_,_,rfl,qga (qga s4 n0) n0,qd,?_,?_⟩
       ·rw [hfm]
        exact bits_step hbits hnd gja gjb hne
       ·rw [hfm]
        exact hgo
    ·obtain ⟨v3,v4,v5,ns,rfl,s3,hnn,hbits,hgo⟩:=hp
     rw [List.drop_length] at hgo
     walk_at "vc"
     rw [List.take_length] at hbits
     exact q (by rw [hgo];rfl) n _ H' s3 n0 hnn hbits
def qff (H:Hp) (v:V) (o:Option (List V)) (v2:V) (o2:Option (List V)):Option (Nat×V):=match qfv v o with
 | some r=>some r
 | none=>qed H ((o.getD []).map jF) v2 o2
theorem outN_good {v:V} {o:Option (List V)} (h:qfv v o=none):∃ xs,o=some xs∧xs.length≤14∧xs=(xs.map jF).map V.str∧(∀ x∈xs,qaJ x=true)∧(xs.map jF).Nodup:=by
 cases o with
 | none=>cases h
 | some xs =>
  have h':(if 14 < xs.length then some ((4:Nat),V.int xs.length) else qdx xs [])=none:=h
  split at h'
  ·cases h'
  ·obtain ⟨a,b,c,d⟩:=qcj h'
   exact ⟨xs,rfl,by omega,a,b,d⟩
theorem qdb {p x:Addr} {H H':Hp} {ss:List Str} (k:∀ b o,b≠p→H b=some o→H' b=some o):∀ (xs:List V) (seen:List (Str×Str)),(∀ x∈xs,Th p H 2 x)→goT H' ss xs seen=goT H ss xs seen
 | [],_,_=>rfl
 | y::r,seen,h=>by
  have e:=qch (ss:=ss) (h y List.mem_cons_self) k
  have hr:=fun z hz=>h z (List.mem_cons_of_mem y hz)
  cases ht:zK H ss y with
  | none=>rw [qd0 (e.trans ht),qd0 ht]
  | some t=>rw [qc8 (e.trans ht),qc8 ht,qdb (x:=x) k r _ hr]
theorem qck {p:Addr} {H H':Hp} {ss:List Str} {v:V} {o:Option (List V)} (h:Arg p H v o) (k:∀ b o,b≠p→H b=some o→H' b=some o):qed H' ss v o=qed H ss v o:=by
 cases o with
 | none=>rfl
 | some xs =>
  show (if _ then _ else (goT H' ss xs []).map _)=if _ then _ else (goT H ss xs []).map _
  rw [qdb (x:=p) k xs [] h.few.2]
structure WOk (ss:List Str) (ns:List Nat):Prop where
 len:ns.length=ss.length
 few:ss.length≤14
 nd:ss.Nodup
 lt:∀ a,ns.getD a 0 < 2 ^ ss.length
 nm:∀ s∈ss,qao s=true
def WebAt (cw:Addr) (H:Hp) (x:Addr) (ss:List Str) (ns:List Nat):Prop:=∃ dx d ol n,H x=some (.ins cw dx (jf "near" (.ref n) (jf "order" (.ref ol) (jf "numbers" (.ref d) []))))∧H d=some (.dK (qaK ss 0))∧H ol=some (.lst (ss.map V.str))∧H n=some (.lst (qc9 ns))∧WOk ss ns
theorem WebAt.same {cw x:Addr} {H H':Hp} {ss:List Str} {ns:List Nat} (h:WebAt cw H x ss ns) (s:L2.Same H H'):WebAt cw H' x ss ns:=by
 obtain ⟨dx,d,ol,n,h1,h2,h3,h4,h5⟩:=h
 exact ⟨dx,d,ol,n,s _ _ h1,s _ _ h2,s _ _ h3,s _ _ h4,h5⟩
def WebN (H0:Hp) (cw:Addr) (H:Hp) (x:Addr) (ss:List Str) (ns:List Nat):Prop:=∃ dx d ol n,H x=some (.ins cw dx (jf "near" (.ref n) (jf "order" (.ref ol) (jf "numbers" (.ref d) []))))∧H d=some (.dK (qaK ss 0))∧H ol=some (.lst (ss.map V.str))∧H n=some (.lst (qc9 ns))∧WOk ss ns∧H0 d=none∧H0 ol=none∧H0 n=none
theorem WebN.web {H0:Hp} {cw x:Addr} {H:Hp} {ss:List Str} {ns:List Nat} (h:WebN H0 cw H x ss ns):WebAt cw H x ss ns:=by
 obtain ⟨dx,d,ol,n,h1,h2,h3,h4,h5,_⟩:=h
 exact ⟨dx,d,ol,n,h1,h2,h3,h4,h5⟩
def WebP (A:Addr→Prop) (cw:Addr) (H:Hp) (x:Addr) (ss:List Str) (ns:List Nat):Prop:=∃ dx d ol n,H x=some (.ins cw dx (jf "near" (.ref n) (jf "order" (.ref ol) (jf "numbers" (.ref d) []))))∧H d=some (.dK (qaK ss 0))∧H ol=some (.lst (ss.map V.str))∧H n=some (.lst (qc9 ns))∧WOk ss ns∧¬ A x∧¬ A d∧¬ A ol∧¬ A n
theorem WebP.web {A:Addr→Prop} {cw x:Addr} {H:Hp} {ss:List Str} {ns:List Nat} (h:WebP A cw H x ss ns):WebAt cw H x ss ns:=by
 obtain ⟨dx,d,ol,n,h1,h2,h3,h4,h5,_⟩:=h
 exact ⟨dx,d,ol,n,h1,h2,h3,h4,h5⟩
theorem WebP.keep {A:Addr→Prop} {cw x:Addr} {H H':Hp} {ss:List Str} {ns:List Nat} (h:WebP A cw H x ss ns) (k:∀ b o,¬ A b→H b=some o→H' b=some o):WebP A cw H' x ss ns:=by
 obtain ⟨dx,d,ol,n,h1,h2,h3,h4,h5,a1,a2,a3,a4⟩:=h
 exact ⟨dx,d,ol,n,k _ _ a1 h1,k _ _ a2 h2,k _ _ a3 h3,k _ _ a4 h4,h5,a1,a2,a3,a4⟩
theorem qcl:∀ (ss:List Str) (i:Nat),(qaK ss i).map (fun kv=>kV kv.1)=ss.map V.str
 | [],_=>rfl
 | s::r,i=>congrArg (V.str s::·) (qcl r (i + 1))
def qdy (cc:Nat→Addr) (cw:Addr):Sp:=fun vs H Q E=>∃ (p x dx:Addr) (v:V) (o:Option (List V)) (v2:V) (o2:Option (List V)),vs=[.ref x,v,v2]∧H x=some (.ins cw dx [])∧Arg p H v o∧Arg p H v2 o2 ∧
 (∀ r,qff H v o v2 o2=some r→∀ dy H',But x H H'→H' dy=some (.xd [(qaW r.1,r.2)])→E (.ref (cc r.1)) (some dy) H')∧(qff H v o v2 o2=none→∀ ns H',But x H H'→WebN H cw H' x ((o.getD []).map jF) ns→qaf ((o.getD []).map jF) ns ((o2.getD []).filterMap (zK H ((o.getD []).map jF)))→Q .non H')
theorem Arg.but {p x dx C:Addr} {H H':Hp} {v:V} {o:Option (List V)} {fs:List (Str×V)} (h:Arg p H v o) (hx:H x=some (.ins C dx fs)) (b:But x H H'):Arg p H' v o∧∀ ss,qed H' ss v o=qed H ss v o:=by
 have hth:∀ {n:Nat} {v:V},Th p H n v→Th p (fun a=>if a=x then none else H a) n v:=by
  intro n v h
  induction h with
  | flat f l=>exact .flat f l
  | lst e ne h l ih=>exact .lst (by rw [if_neg (qat e hx (by intro z;cases z))];exact e) ne ih l
  | tup e ne h l ih=>exact .tup (by rw [if_neg (qat e hx (by intro z;cases z))];exact e) ne ih l
  | dct e ne=>exact .dct (by rw [if_neg (qat e hx (by intro z;cases z))];exact e) ne
 have h2:Arg p (fun a=>if a=x then none else H a) v o:=by
  cases h with
  | lst e ne h l=>exact .lst (by rw [if_neg (qat e hx (by intro z;cases z))];exact e) ne (fun x hx=>hth (h x hx)) l
  | tup e ne h l=>exact .tup (by rw [if_neg (qat e hx (by intro z;cases z))];exact e) ne (fun x hx=>hth (h x hx)) l
  | flat f l=>exact .flat f l
  | dct e ne=>exact .dct (by rw [if_neg (qat e hx (by intro z;cases z))];exact e) ne
 have k1:L2.Same (fun a=>if a=x then none else H a) H':=fun c u e=>by
  have e:(if c=x then none else H c)=some u:=e
  by_cases hc:c=x
  ·rw [if_pos hc] at e;cases e
  ·rw [if_neg hc] at e;exact b c u hc e
 have k2:L2.Same (fun a=>if a=x then none else H a) H:=fun c u e=>by
  have e:(if c=x then none else H c)=some u:=e
  by_cases hc:c=x
  ·rw [if_pos hc] at e;cases e
  ·rw [if_neg hc] at e;exact e
 exact ⟨h2.same k1,fun ss=>(qck h2 fun b o _ e=>k1 b o e).trans (qck h2 fun b o _ e=>k2 b o e).symm⟩
theorem qdc {α β:Type} {f g:α→Option β}:∀ {l:List α},(∀ x∈l,f x=g x)→l.filterMap f=l.filterMap g
 | [],_=>rfl
 | a::r,h=>by
  rw [List.filterMap_cons,List.filterMap_cons,h a List.mem_cons_self,qdc fun x hx=>h x (List.mem_cons_of_mem _ hx)]
theorem Arg.tie_but {p x dx C:Addr} {H H':Hp} {v:V} {o:Option (List V)} {fs:List (Str×V)} (h:Arg p H v o) (hx:H x=some (.ins C dx fs)) (b:But x H H') (y:V) (hy:y∈o.getD []) (ss:List Str):zK H' ss y=zK H ss y:=by
 cases o with
 | none=>cases hy
 | some xs =>
  have hth:=h.few.2 y hy
  cases hth with
  | flat f l=>cases y<;>first | rfl | cases f
  | lst e ne h l=>rw [j4 (H:=H') (fun a zs z y=>by (cases z;rw [b _ _ (qat e hx (by intro z;cases z)) e] at y;cases y)),j4 (H:=H) fun a zs z y=>by (cases z;rw [e] at y;cases y)]
  | tup e ne h l=>unfold zK;dsimp only;rw [b _ _ (qat e hx (by intro z;cases z)) e,e]
  | dct e ne=>rw [j4 (H:=H') (fun a zs z y=>by (cases z;rw [b _ _ (qat e hx (by intro z;cases z)) e] at y;cases y)),j4 (H:=H) fun a zs z y=>by (cases z;rw [e] at y;cases y)]
theorem ok_web {f:Addr} {fd:FuncData} (F:Fun K "__init__" "Web.__init__" zd f fd) (T:Txt K mg cc cw) (D_numbers_of:DefOk P w K mg base (CX1 P w) 4 "numbers_of" ["names"] (qeK cc)) (D_near_of:DefOk P w K mg base (CX1 P w) 4 "near_of" ["numbers", "ties"] (qeL cc)) :
  FnOk P w K mg base (CX1 P w) 5 f fd ["self", "names", "ties"] (qdy cc cw):=by
 refine F.ok1 sc_Web_init (fun vs H Q E h=>?_) fun cdv A outer s H vs Q E hr h=>?_
 ·obtain ⟨p,x,dx,v,o,v2,o2,rfl,_⟩:=h;rfl
 ·obtain ⟨p,x,dx,v,o,v2,o2,rfl,hx,ha,ha2,hz,q⟩:=h
  have hu:=zZ hr
  refine ⟨_,(qe (jU (K:=K) rfl (pv 0) (qcB D_numbers_of (hmR hr) za (qa (pv 1) qc)) rfl)
 (qe (jU (K:=K) rfl (pv 0) (qG (qav (K:=K) rfl rfl) rfl T.b_list boot_list (qa (qT (K:=K) rfl (pv 0) rfl) qc)) rfl)
 (qf (jU (K:=K) rfl (pv 0) (qcB D_near_of (hmR hr) za (qa (qT (K:=K) rfl (pv 0) rfl) (qa (pv 2) qc))) rfl)))),?_⟩
  walk_at "vc"
  refine ⟨p,v,o,rfl,ha,fun r e=>?_,fun hN d H1 s1 hd0 hd=>?_⟩
  ·intro dy H' s' hy
   exact hz r (by unfold qff;rw [e]) dy H' ((But.refl x H).same s') hy
  ·have hW:qff H v o v2 o2=qed H ((o.getD []).map jF) v2 o2:=by unfold qff;rw [hN]
   obtain ⟨xs,rfl,l14,_,allN,nd⟩:=outN_good hN
   rw [hW] at hz q
   have b1:=(But.refl x H).same s1
   have hx1:=s1 _ _ hx
   have ndx:d≠x:=qat hd hx1 (by intro z;cases z)
   walk_at "vc"
   refine .inl ⟨x,cw,dx,[],rfl,hx1,T.wcl,T.wn,by decide,?_⟩
   have b2:=b1.put (o:=.ins cw dx (jf "numbers" (.ref d) []))
   have hd2:upd H1 x (.ins cw dx (jf "numbers" (.ref d) [])) d=some (.dK (qaK (((some xs).getD []).map jF) 0)):=by rw [qi ndx];exact hd
   walk_at "vc"
   refine .inl ⟨x,cw,dx,_,.ref d,rfl,qd,T.wcl,T.wn,by rw [qv,if_pos rfl],?_⟩
   walk_at "vc"
   refine .inr (.inl ⟨d,_,rfl,hd2,fun ol ho=>?_⟩)
   have no:ol≠x:=fun e=>by subst e;rw [qd] at ho;cases ho
   have b3:=b2.new (o:=.lst ((qaK (((some xs).getD []).map jF) 0).map fun kv=>kV kv.1)) ho
   have nol:ol≠d:=fun e=>by rw [e,hd2] at ho;cases ho
   walk_at "vc"
   refine .inl ⟨x,cw,dx,_,rfl,(by rw [qi no.symm];exact qd),T.wcl,T.wo,Nat.lt_of_le_of_lt (jt _ _ _) (by decide),?_⟩
   have hd3:upd (upd (upd H1 x (.ins cw dx (jf "numbers" (.ref d) []))) ol (.lst ((qaK (((some xs).getD []).map jF) 0).map fun kv=>kV kv.1))) x (.ins cw dx (jf "order" (.ref ol) (jf "numbers" (.ref d) []))) d=some (.dK (qaK (((some xs).getD []).map jF) 0)):=by
    rw [qi ndx,qi (qC hd2 ho)];exact hd2
   have b4:=b3.put (o:=.ins cw dx (jf "order" (.ref ol) (jf "numbers" (.ref d) [])))
   walk_at "vc"
   refine .inl ⟨x,cw,dx,_,.ref d,rfl,qd,T.wcl,T.wn,by rw [qv,if_neg (by decide +kernel),qv,if_pos rfl],?_⟩
   walk_at "vc"
   obtain ⟨ha3,ho3⟩:=ha2.but hx b4
   refine ⟨p,d,_,v2,o2,rfl,hd3,by rw [List.length_map];exact l14,nd,ha3,fun r e=>?_,fun e n ns H2 s2 hn0 hn hbits=>?_⟩
   ·intro dy H' s' hy
    rw [ho3] at e
    exact hz r e dy H' (b4.same s') hy
   ·rw [ho3] at e
    have b5:=b4.same s2
    walk_at "vc"
    refine .inl ⟨x,cw,dx,_,rfl,s2 _ _ qd,T.wcl,T.wr,Nat.lt_of_le_of_lt (jt _ _ _) (Nat.lt_of_le_of_lt (Nat.succ_le_succ (jt _ _ _)) (by decide)),?_⟩
    have hx2:=s2 _ _ (qd:upd (upd (upd H1 x (.ins cw dx (jf "numbers" (.ref d) []))) ol (.lst ((qaK (((some xs).getD []).map jF) 0).map fun kv=>kV kv.1))) x (.ins cw dx (jf "order" (.ref ol) (jf "numbers" (.ref d) []))) x=_)
    have nnx:n≠x:=qat hn hx2 (by intro z;cases z)
    have hd4:=s2 _ _ hd3
    have ho4:H2 ol=some (.lst ((qaK (((some xs).getD []).map jF) 0).map fun kv=>kV kv.1)):=s2 _ _ (by rw [qi no];exact qd)
    have eT:(((some xs).getD []).map jF)=(((some xs).getD []).map jF):=rfl
    have ebt:∀ y∈(o2.getD []),zK H (((some xs).getD []).map jF) y=zK (upd (upd (upd H1 x (.ins cw dx (jf "numbers" (.ref d) []))) ol (.lst ((qaK (((some xs).getD []).map jF) 0).map fun kv=>kV kv.1))) x (.ins cw dx (jf "order" (.ref ol) (jf "numbers" (.ref d) [])))) (((some xs).getD []).map jF) y:=fun y hy=>?tie
    have hol0:H ol=none:=by
     cases q':H ol with
     | none=>rfl
     | some o'=>rw [b2 ol o' no q'] at ho;cases ho
    have hn00:H n=none:=by
     cases q':H n with
     | none=>rfl
     | some o'=>rw [b4 n o' nnx q'] at hn0;cases hn0
    refine q e ns _ b5.put ⟨dx,d,ol,n,qd,by rw [qi ndx];exact hd4,by rw [qi no,ho4,qcl],by rw [qi nnx];exact hn,⟨hbits.1,by show (xs.map jF).length≤14;rw [List.length_map];exact l14,nd,hbits.2.1,fun s hs=>by obtain ⟨y,hy,rfl⟩:=List.mem_map.mp hs;exact (jG (allN y hy)).2.1⟩,hd0,hol0,hn00⟩ ?_
    ·have:(o2.getD []).filterMap (zK H (((some xs).getD []).map jF))=(o2.getD []).filterMap (zK (upd (upd (upd H1 x (.ins cw dx (jf "numbers" (.ref d) []))) ol (.lst ((qaK (((some xs).getD []).map jF) 0).map fun kv=>kV kv.1))) x (.ins cw dx (jf "order" (.ref ol) (jf "numbers" (.ref d) [])))) (((some xs).getD []).map jF)):=qdc ebt
     rw [this]
     exact hbits
    case tie=>exact (ha2.tie_but hx b4 y hy _).symm
end
theorem sc_Web_places:FnScope ["self"] ["self"] (qb jM):=⟨rfl,rfl,rfl,by decide +kernel,rfl,by decide +kernel,by decide +kernel⟩
theorem sc_Web_has_place:FnScope ["self", "thing"] ["self", "thing"] (qb jh):=⟨rfl,rfl,rfl,by decide +kernel,rfl,by decide +kernel,by decide +kernel⟩
theorem sc_Web_number_of:FnScope ["self", "place"] ["self", "place"] (qb ji):=⟨rfl,rfl,rfl,by decide +kernel,rfl,by decide +kernel,by decide +kernel⟩
theorem sc_Web_beside:FnScope ["self", "place"] ["self", "place"] (qb jN):=⟨rfl,rfl,rfl,by decide +kernel,rfl,by decide +kernel,by decide +kernel⟩
theorem sc_Web_bits_beside:FnScope ["self", "place"] ["self", "place"] (qb qP):=⟨rfl,rfl,rfl,by decide +kernel,rfl,by decide +kernel,by decide +kernel⟩
theorem sc_Web_names_in:FnScope ["self", "bits"] ["self", "bits"] (qb jd):=⟨rfl,rfl,rfl,by decide +kernel,rfl,by decide +kernel,by decide +kernel⟩
theorem zF {d ol n:V}:(jf "near" n (jf "order" ol (jf "numbers" d []))).lookup ("numbers":Str)=some d:=by
 rw [qv,if_neg (by decide +kernel),qv,if_neg (by decide +kernel),qv,if_pos rfl]
theorem qa0 {d ol n:V}:(jf "near" n (jf "order" ol (jf "numbers" d []))).lookup ("order":Str)=some ol:=by
 rw [qv,if_neg (by decide +kernel),qv,if_pos rfl]
theorem lk_near {d ol n:V}:(jf "near" n (jf "order" ol (jf "numbers" d []))).lookup ("near":Str)=some n:=by
 rw [qv,if_pos rfl]
theorem qag {f:Str} {d ol n:V} (h:(f=="near"||f=="order"||f=="numbers")=false):(jf "near" n (jf "order" ol (jf "numbers" d []))).lookup f=none:=by
 simp only [Bool.or_eq_false_iff,beq_eq_false_iff_ne] at h
 rw [qv,if_neg h.1.1,qv,if_neg h.1.2,qv,if_neg h.2]
 rfl
theorem place_ix {ss:List Str} {v:V} (h:jB ss v=true):v=.str (jF v)∧∃ j,j < ss.length∧ss[j]?=some (jF v)∧qbR (qaK ss 0) (.inr (jF v):Key)=some (.int (j:Nat)):=by
 obtain ⟨n1,m1⟩:=zm h
 obtain ⟨e1,_,_⟩:=jG n1
 obtain ⟨j,hj,gj,vj⟩:=zl (i:=0) m1
 rw [Nat.zero_add] at vj
 exact ⟨e1,j,hj,gj,vj⟩
def inB:List Str→Nat→Nat→List Str
 | [],_,_=>[]
 | s::r,i,b=>if b.testBit i=true then s::inB r (i + 1) b else inB r (i + 1) b
theorem qa1 (y:Str) (b:Nat):∀ (l:List Str) (k:Nat),inB (l++[y]) k b=inB l k b++(if b.testBit (k + l.length)=true then [y] else [])
 | [],k=>by simp [inB]
 | s::r,k=>by
  have ih:=qa1 y b r (k + 1)
  have e:k + 1 + r.length=k + (s::r).length:=by simp;omega
  rw [e] at ih
  simp only [List.cons_append,inB,ih]
  split<;>simp
theorem qbi (b:Nat):∀ (l:List Str) (k:Nat),(inB l k b).length≤l.length
 | [],_=>Nat.le_refl _
 | s::r,k=>by
  have ih:=qbi b r (k + 1)
  simp only [inB]
  split
  ·simp;omega
  ·simp;omega
def qfg (cw:Addr):Sp:=fun vs H Q _=>∃ (p:Addr) (k:Nat) (x:Addr) (ss:List Str) (ns:List Nat) (v:V),vs=[.ref x,v]∧WebAt cw H x ss ns∧Th p H k v∧∀ H',L2.Same H H'→Q (.bl (jB ss v)) H'
def qfh (cc:Nat→Addr) (cw:Addr):Sp:=fun vs H Q E=>∃ (p:Addr) (k:Nat) (x:Addr) (ss:List Str) (ns:List Nat) (v:V),vs=[.ref x,v]∧WebAt cw H x ss ns∧Th p H k v∧(jB ss v=false→Rz cc H E (2,v)) ∧
 ∀ j,ss[j]?=some (jF v)→jB ss v=true→∀ H',L2.Same H H'→Q (.int (j:Nat)) H'
def qg1 (cc:Nat→Addr) (cw:Addr):Sp:=fun vs H Q E=>∃ (p:Addr) (k:Nat) (x:Addr) (ss:List Str) (ns:List Nat) (v:V),vs=[.ref x,v]∧WebAt cw H x ss ns∧Th p H k v∧(jB ss v=false→Rz cc H E (2,v)) ∧
 ∀ j,ss[j]?=some (jF v)→jB ss v=true→∀ H',L2.Same H H'→Q (.int (ns.getD j 0:Nat)) H'
def qfQ (cw:Addr):Sp:=fun vs H Q _=>∃ (x:Addr) (ss:List Str) (ns:List Nat) (b:Nat),vs=[.ref x,.int b]∧WebAt cw H x ss ns∧∀ l,H l=none→Q (.ref l) (upd H l (.lst ((inB ss 0 b).map V.str)))
def qgt (cc:Nat→Addr) (cw:Addr):Sp:=fun vs H Q E=>∃ (p:Addr) (k:Nat) (x:Addr) (ss:List Str) (ns:List Nat) (v:V),vs=[.ref x,v]∧WebAt cw H x ss ns∧Th p H k v∧(jB ss v=false→Rz cc H E (2,v)) ∧
 ∀ j,ss[j]?=some (jF v)→jB ss v=true→∀ H',L2.Same H H'→∀ l,H' l=none→Q (.ref l) (upd H' l (.lst ((inB ss 0 (ns.getD j 0)).map V.str)))
def qfR (cw:Addr):Sp:=fun vs H Q _=>∃ (x:Addr) (ss:List Str) (ns:List Nat),vs=[.ref x]∧WebAt cw H x ss ns∧∀ l,H l=none→Q (.ref l) (upd H l (.lst (ss.map V.str)))
section
variable {P:Program} {w:World} {K:W.Frag} {mg:Str→Option Value} {base:Heap} {cc:Nat→Addr} {cw:Addr}
theorem ok_has {f:Addr} {fd:FuncData} (F:Fun K "has_place" "Web.has_place" jh f fd) (T:Txt K mg cc cw) (D_is_place:DefOk P w K mg base CX0 2 "is_place" ["numbers", "thing"] qcG):FnOk P w K mg base CX0 3 f fd ["self", "thing"] (qfg cw):=by
 refine F.ok sc_Web_has_place (fun vs H Q E h=>?_) fun cdv A outer s H vs Q E hr h=>?_
 ·obtain ⟨p,k,x,ss,ns,v,rfl,_⟩:=h;rfl
 ·obtain ⟨p,k,x,ss,ns,v,rfl,⟨dx,d,ol,n,hx,hd,ho,hn,hw⟩,hv,q⟩:=h
  refine ⟨_,(qf (qm (qq D_is_place (hmR hr) qx (qa (qT (K:=K) rfl (pv 0) rfl) (qa (pv 1) qc))))),?_⟩
  walk_at "vc"
  refine .inl ⟨x,cw,dx,_,.ref d,rfl,hx,T.wcl,T.wn,zF,?_⟩
  walk_at "vc"
  exact ⟨p,k,d,ss,v,rfl,hd,hv,q⟩
theorem ok_num {f:Addr} {fd:FuncData} (F:Fun K "number_of" "Web.number_of" ji f fd) (T:Txt K mg cc cw) (D_Web_has_place:MethOk P w K mg base CX0 3 cw "has_place" ["self", "thing"] (qfg cw))
  (D_NoPlace:XMakeOk P w K mg base 2 (cc 2) "NoPlace" ["self", "found"] (spX (cc 2) (qaW 2))):FnOk P w K mg base (CX1 P w) 4 f fd ["self", "place"] (qfh cc cw):=by
 refine F.ok1 sc_Web_number_of (fun vs H Q E h=>?_) fun cdv A outer s H vs Q E hr h=>?_
 ·obtain ⟨p,k,x,ss,ns,v,rfl,_⟩:=h;rfl
 ·obtain ⟨p,k,x,ss,ns,v,rfl,hW,hv,hz,q⟩:=h
  have hu:=zZ hr
  obtain ⟨dx,d,ol,n,hx,hd,ho,hn,hw⟩:=id hW
  refine ⟨_,(qe (qO (qZ (qI (jH D_Web_has_place (hmR hr) (pv 0) (qa (pv 1) qc)))) (qf (zx (K:=K) rfl za (qbp D_NoPlace (hmR hr) (qa (pv 1) qc)))) qr)
 (qf (qm (qD (qE (K:=K) rfl hu) (qT (K:=K) rfl (pv 0) rfl) (pv 1) (fun _ _=>rfl))))),?_⟩
  walk_at "vc"
  refine ⟨x,dx,_,rfl,hx,qag (by decide +kernel),?_⟩
  walk_at "vc"
  refine ⟨p,k,x,ss,ns,v,rfl,hW,hv,fun H1 s1=>?_⟩
  walk_at "vc"
  refine qQ (fun h=>?_) fun h=>?_
  ·walk_at "vc"
   exact jp (T.xat 2 (by decide)) ((hz (by simpa using h)).later s1)
  ·have hp:jB ss v=true:=by simpa using h
   obtain ⟨ev,j,hj,gj,vj⟩:=place_ix hp
   walk_at "vc"
   refine .inl ⟨x,cw,dx,_,.ref d,rfl,s1 _ _ hx,T.wcl,T.wn,zF,?_⟩
   walk_at "vc"
   refine .inr ⟨d,.int j,rfl,?_,q j gj hp H1 s1⟩
   have:=DGet.k (k:=Sum.inr (jF v)) (s1 _ _ hd)
   rw [vj] at this
   rw [ev]
   exact this
theorem ok_bb {f:Addr} {fd:FuncData} (F:Fun K "bits_beside" "Web.bits_beside" qP f fd) (T:Txt K mg cc cw) (D_Web_number_of:MethOk P w K mg base (CX1 P w) 4 cw "number_of" ["self", "place"] (qfh cc cw)):FnOk P w K mg base (CX1 P w) 5 f fd ["self", "place"] (qg1 cc cw):=by
 refine F.ok1 sc_Web_bits_beside (fun vs H Q E h=>?_) fun cdv A outer s H vs Q E hr h=>?_
 ·obtain ⟨p,k,x,ss,ns,v,rfl,_⟩:=h;rfl
 ·obtain ⟨p,k,x,ss,ns,v,rfl,hW,hv,hz,q⟩:=h
  have hu:=zZ hr
  obtain ⟨dx,d,ol,n,hx,hd,ho,hn,hw⟩:=id hW
  refine ⟨_,(qf (qm (qD (qE (K:=K) rfl hu) (qT (K:=K) rfl (pv 0) rfl) (qc3 D_Web_number_of (hmR hr) za (pv 0) (qa (pv 1) qc)) (fun _ _=>rfl)))),?_⟩
  walk_at "vc"
  refine .inl ⟨x,cw,dx,_,.ref n,rfl,hx,T.wcl,T.wr,lk_near,?_⟩
  walk_at "vc"
  refine ⟨x,dx,_,rfl,hx,qag (by decide +kernel),?_⟩
  walk_at "vc"
  refine ⟨p,k,x,ss,ns,v,rfl,hW,hv,hz,fun j gj hp H1 s1=>?_⟩
  exact .inl (qaC (s1 _ _ hn) (ju (qaZ (by rw [hw.len];exact (List.getElem?_eq_some_iff.mp gj).1))) (q j gj hp H1 s1))
theorem ok_nin {f:Addr} {fd:FuncData} (F:Fun K "names_in" "Web.names_in" jd f fd) (T:Txt K mg cc cw) (D_has_bit:DefOk P w K mg base CX0 1 "has_bit" ["bits", "number"] qfe):FnOk P w K mg base CX0 2 f fd ["self", "bits"] (qfQ cw):=by
 refine F.ok sc_Web_names_in (fun vs H Q E h=>?_) fun cdv A outer s H vs Q E hr h=>?_
 ·obtain ⟨x,ss,ns,b,rfl,_⟩:=h;rfl
 ·obtain ⟨x,ss,ns,b,rfl,⟨dx,d,ol,n,hx,hd,ho,hn,hw⟩,q⟩:=h
  have hu:=zZ hr
  refine ⟨_,(qf (qm (zj (sc:=qb jd) (XN:=["self", "bits"]) ["name", "bits", "self"] 1 [1,0] rfl rfl rfl (by decide +kernel) rfl (by decide +kernel)
  (j7 (K:=K) rfl (qT (K:=K) rfl (pv 0) rfl)) (fun _ _ _ _=>(qt (i:=0) (show (["name", "bits", "self"]:List Str).Nodup by decide +kernel) rfl (Or.inl rfl))) zR
  (fun _ _ _ _=>(zb (qI (qq D_has_bit (hmR hr) qx (qa (pv 1) (qa (qD (qE (K:=K) rfl hu) (qT (K:=K) rfl (pv 2) rfl) (pv 0) (fun _ _=>rfl)) qc))))))
  (fun _ _ _ _=>(pv 0))))),?_⟩
  walk_at "vc"
  refine .inl ⟨x,cw,dx,_,.ref ol,rfl,hx,T.wcl,T.wo,qa0,?_⟩
  refine .inl ⟨⟨_,SqL.of ho⟩,jl (K:=K) (fun i ys H'=>H'=H∧ys=(inB (ss.take i) 0 b).map V.str) ⟨rfl,by simp [inB]⟩ (fun i ys H' _ hp=>by rw [hp.1];exact SqL.of ho) (fun i y ys H' hy hp=>?_) fun ys H' hp=>?_⟩
  ·obtain ⟨rfl,rfl⟩:=hp
   have hi:i < ss.length:=by simpa using (List.getElem?_eq_some_iff.mp hy).1
   have gi:ss[i]?=some ss[i]:=List.getElem?_eq_getElem hi
   generalize ss[i]=sy at gi
   have ey:y=.str sy:=by rw [List.getElem?_map,gi] at hy;cases hy;rfl
   subst ey
   obtain ⟨j,hj,gj,vj⟩:=zl (i:=0) (List.mem_of_getElem? gi)
   rw [Nat.zero_add] at vj
   have hji:j=i:=qA hw.nd gj gi
   subst hji
   have htk:ss.take (j + 1)=ss.take j++[sy]:=by rw [List.take_add_one,gi];rfl
   have hln:(ss.take j).length=j:=by rw [List.length_take];omega
   walk_at "vc"
   refine .inl ⟨x,cw,dx,_,.ref d,rfl,hx,T.wcl,T.wn,zF,?_⟩
   walk_at "vc"
   refine .inr ⟨d,.int j,rfl,?_,?_⟩
   ·have:=DGet.k (k:=Sum.inr sy) hd
    rw [vj] at this
    exact this
   walk_at "vc"
   refine ⟨_,_,rfl,by omega,?_⟩
   rw [qdY]
   walk_at "vc"
   have few:((inB (ss.take j) 0 b).map V.str).length < sizeLine:=by
    rw [List.length_map]
    exact qk (Nat.le_trans (qbi _ _ _) (by rw [hln];have:=hw.few;omega))
   refine qQ (fun hb=>?_) fun hb=>?_
   ·walk_at "vc"
    refine ⟨few,rfl,?_⟩
    rw [htk,qa1,hln,Nat.zero_add,if_pos hb]
    simp
   ·refine ⟨rfl,?_⟩
    rw [htk,qa1,hln,Nat.zero_add,if_neg hb]
    simp
  ·obtain ⟨rfl,rfl⟩:=hp
   have etk:ss.take (ss.map V.str).length=ss:=by rw [List.length_map,List.take_length]
   rw [etk]
   refine ⟨?_,fun l hl=>q l hl⟩
   rw [List.length_map]
   exact Nat.le_of_lt (qk (Nat.le_trans (qbi _ _ _) (by have:=hw.few;omega)))
theorem ok_bs {f:Addr} {fd:FuncData} (F:Fun K "beside" "Web.beside" jN f fd) (T:Txt K mg cc cw) (D_Web_bits_beside:MethOk P w K mg base (CX1 P w) 5 cw "bits_beside" ["self", "place"] (qg1 cc cw)) (D_Web_names_in:MethOk P w K mg base CX0 2 cw "names_in" ["self", "bits"] (qfQ cw)):FnOk P w K mg base (CX1 P w) 6 f fd ["self", "place"] (qgt cc cw):=by
 refine F.ok1 sc_Web_beside (fun vs H Q E h=>?_) fun cdv A outer s H vs Q E hr h=>?_
 ·obtain ⟨p,k,x,ss,ns,v,rfl,_⟩:=h;rfl
 ·obtain ⟨p,k,x,ss,ns,v,rfl,hW,hv,hz,q⟩:=h
  obtain ⟨dx,d,ol,n,hx,hd,ho,hn,hw⟩:=id hW
  refine ⟨_,(qf (qm (jH D_Web_names_in (hmR hr) (pv 0) (qa (qc3 D_Web_bits_beside (hmR hr) za (pv 0) (qa (pv 1) qc)) qc)))),?_⟩
  walk_at "vc"
  refine ⟨x,dx,_,rfl,hx,qag (by decide +kernel),?_⟩
  walk_at "vc"
  refine ⟨x,dx,_,rfl,hx,qag (by decide +kernel),?_⟩
  walk_at "vc"
  refine ⟨p,k,x,ss,ns,v,rfl,hW,hv,hz,fun j gj hp H1 s1=>?_⟩
  walk_at "vc"
  exact ⟨x,ss,ns,_,rfl,hW.same s1,q j gj hp H1 s1⟩
theorem ok_pls {f:Addr} {fd:FuncData} (F:Fun K "places" "Web.places" jM f fd) (T:Txt K mg cc cw):FnOk P w K mg base CX0 1 f fd ["self"] (qfR cw):=by
 refine F.ok sc_Web_places (fun vs H Q E h=>?_) fun cdv A outer s H vs Q E hr h=>?_
 ·obtain ⟨x,ss,ns,rfl,_⟩:=h;rfl
 ·obtain ⟨x,ss,ns,rfl,⟨dx,d,ol,n,hx,hd,ho,hn,hw⟩,q⟩:=h
  refine ⟨_,(qf (qm (qG (qav (K:=K) rfl rfl) rfl T.b_list boot_list (qa (qT (K:=K) rfl (pv 0) rfl) qc)))),?_⟩
  walk_at "vc"
  refine .inl ⟨x,cw,dx,_,.ref ol,rfl,hx,T.wcl,T.wo,qa0,?_⟩
  walk_at "vc"
  exact .inl ⟨ol,_,rfl,.inl (SqL.of ho),q⟩
end
inductive Rch (ns:List Nat) (i:Nat):Nat→Prop
 | base:Rch ns i i
 | step {a b:Nat} (h:Rch ns i a) (t:(ns.getD a 0).testBit b=true):Rch ns i b
structure All2 {α β:Type} (R:α→β→Prop) (l:List α) (m:List β):Prop where
 len:l.length=m.length
 at_:∀ (k:Nat) a b,l[k]?=some a→m[k]?=some b→R a b
theorem All2.nil {α β:Type} {R:α→β→Prop}:All2 R [] []:=⟨rfl,fun k a b h=>by simp at h⟩
theorem All2.mono {α β:Type} {R S:α→β→Prop} {l:List α} {m:List β} (h:All2 R l m) (f:∀ a b,R a b→S a b):All2 S l m:=⟨h.len,fun k a b x y=>f a b (h.at_ k a b x y)⟩
theorem All2.snoc {α β:Type} {R:α→β→Prop} {l:List α} {m:List β} {x:α} {y:β} (h:All2 R l m) (r:R x y):All2 R (l++[x]) (m++[y]):=by
 refine ⟨by rw [List.length_append,List.length_append,h.len];rfl,fun k a b ha hb=>?_⟩
 by_cases hk:k < l.length
 ·rw [List.getElem?_append_left hk] at ha
  rw [List.getElem?_append_left (by rw [← h.len];exact hk)] at hb
  exact h.at_ k a b ha hb
 ·rw [List.getElem?_append_right (by omega)] at ha
  rw [List.getElem?_append_right (by rw [← h.len];omega)] at hb
  have h0:k - l.length=0:=by
   have:=(List.getElem?_eq_some_iff.mp ha).1
   simp at this
   omega
  rw [← h.len] at hb
  rw [h0] at ha hb
  cases ha
  cases hb
  exact r
theorem All2.mem {α β:Type} {R:α→β→Prop} {l:List α} {m:List β} (h:All2 R l m) {x:α} (hx:x∈l):∃ y∈m,R x y:=by
 obtain ⟨k,hk,e⟩:=List.getElem_of_mem hx
 have hk':k < m.length:=by rw [← h.len];exact hk
 exact ⟨m[k],List.getElem_mem hk',h.at_ k x m[k] (by rw [List.getElem?_eq_getElem hk,e]) (List.getElem?_eq_getElem hk')⟩
open Classical in
theorem idx_at {ss:List Str} (hn:ss.Nodup) {i:Nat} {s:Str} (h:ss[i]?=some s):ss.idxOf s=i:=by
 have hm:s∈ss:=List.mem_of_getElem? h
 have hl:ss.idxOf s < ss.length:=List.idxOf_lt_length_of_mem hm
 exact qA hn (by rw [List.getElem?_eq_getElem hl,List.getElem_idxOf]) h
theorem qaQ {ss:List Str} (hn:ss.Nodup) (b:Nat):inB ss 0 b=ss.filter fun s=>b.testBit (ss.idxOf s):=by
 have key:∀ k,k≤ss.length→inB (ss.take k) 0 b=(ss.take k).filter fun s=>b.testBit (ss.idxOf s):=fun k=>by
  induction k with
  | zero=>intro _;simp [inB]
  | succ k ih =>
   intro hk
   have gk:ss[k]?=some ss[k]:=List.getElem?_eq_getElem (by omega)
   generalize ss[k]=sk at gk
   have htk:ss.take (k + 1)=ss.take k++[sk]:=by rw [List.take_add_one,gk];rfl
   have hln:(ss.take k).length=k:=by rw [List.length_take];omega
   rw [htk,qa1,List.filter_append,ih (by omega),hln,Nat.zero_add]
   congr 1
   rw [List.filter_cons,List.filter_nil,idx_at hn gk]
 have:=key ss.length (Nat.le_refl _)
 rwa [List.take_length] at this
section
variable {P:Program} {w:World} {K:W.Frag} {mg:Str→Option Value} {base:Heap} {cc:Nat→Addr} {cw:Addr}
end
theorem sc_Web_ties:FnScope ["self", "ties", "one", "other"] ["self"] (qb ze):=⟨rfl,rfl,rfl,by decide +kernel,rfl,by decide +kernel,by decide +kernel⟩
theorem sc_Web_told:FnScope ["self"] ["self"] (qb zf):=⟨rfl,rfl,rfl,by decide +kernel,rfl,by decide +kernel,by decide +kernel⟩
theorem zg {ss:List Str} {s:Str} (hs:s∈ss) (hn:qao s=true):jB ss (.str s)=true:=by
 unfold jB
 rw [if_pos (show qaJ (.str s)=true from hn)]
 exact decide_eq_true hs
theorem jv {s:Str} (h:qao s=true):s.length≤6:=(jG (x:=.str s) h).2.2
theorem qd2 {ss:List Str} (hn:ss.Nodup) {b:Nat} {s:Str} (h:s∈inB ss 0 b):s∈ss∧b.testBit (ss.idxOf s)=true:=by
 rw [qaQ hn] at h
 exact List.mem_filter.mp h
def qfi (ss:List Str) (ns:List Nat) (i:Nat):List (Str×Str):=((inB ss 0 (ns.getD i 0)).filter fun o=>decide (i < ss.idxOf o)).map fun o=>(ss.getD i "",o)
def qah (ss:List Str) (ns:List Nat) (i:Nat):List (Str×Str):=(List.range i).flatMap (qfi ss ns)
def PrAt (H H':Hp) (l:Addr) (t:Addr) (ab:Str×Str):Prop:=H t=none∧t≠l∧H' t=some (.tup [.str ab.1,.str ab.2])
theorem PrAt.same {H H1 H2:Hp} {l t:Addr} {ab:Str×Str} (h:PrAt H H1 l t ab) (s:L2.Same H1 H2):PrAt H H2 l t ab:=⟨h.1,h.2.1,s _ _ h.2.2⟩
def qgu (cw:Addr):Sp:=fun vs H Q _=>∃ (x:Addr) (ss:List Str) (ns:List Nat),vs=[.ref x]∧WebAt cw H x ss ns ∧
 ∀ (l:Addr) (ts:List Addr) (H':Hp),L2.Same H H'→H l=none→H' l=some (.lst (ts.map V.ref))→ts.length≤196→All2 (PrAt H H' l) ts (qah ss ns ss.length)→Q (.ref l) H'
def qdd (cw:Addr):Sp:=fun vs H Q _=>∃ (x:Addr) (ss:List Str) (ns:List Nat),vs=[.ref x]∧WebAt cw H x ss ns ∧
 ∀ (t t1 t2 l:Addr) (ts:List Addr) (H':Hp),L2.Same H H'→H' t=some (.tup [.ref t1,.ref t2])→H' t1=some (.tup (ss.map V.str))→H' t2=some (.tup (ts.map V.ref))→All2 (PrAt H H' l) ts (qah ss ns ss.length)→Q (.ref t) H'
section
variable {P:Program} {w:World} {K:W.Frag} {mg:Str→Option Value} {base:Heap} {cc:Nat→Addr} {cw:Addr}
theorem ok_ts {f:Addr} {fd:FuncData} (F:Fun K "ties" "Web.ties" ze f fd) (T:Txt K mg cc cw) (QD_Web_beside:MethOk P w K mg base CX0 6 cw "beside" ["self", "place"] (fun vs H Q _=>qgt cc cw vs H Q E0)):FnOk P w K mg base CX0 7 f fd ["self"] (qgu cw):=by
 refine F.ok sc_Web_ties (fun vs H Q E h=>?_) fun cdv A outer s H vs Q E hr h=>?_
 ·obtain ⟨x,ss,ns,rfl,_⟩:=h;rfl
 ·obtain ⟨x,ss,ns,rfl,hW,q⟩:=h
  have hu:=zZ hr
  obtain ⟨dx,d,ol,n,hx,hd,ho,hn,hw⟩:=id hW
  have few:=hw.few
  have num:∀ (H1:Hp) (y:Str) (i:Nat),L2.Same H H1→ss[i]?=some y→DGet H1 d (.str y) (some (.int (i:Nat))):=fun H1 y i s1 gi=>by
   obtain ⟨j,hj,gj,vj⟩:=zl (i:=0) (List.mem_of_getElem? gi)
   rw [Nat.zero_add] at vj
   have hji:j=i:=qA hw.nd gj gi
   subst hji
   have:=DGet.k (k:=Sum.inr y) (s1 _ _ hd)
   rw [vj] at this
   exact this
  refine ⟨_,(qe (qw (i:=1) sc_Web_ties.nd rfl (Or.inl rfl) (js qc))
 (qe (j9 PassesOwn.never rfl (j7 (K:=K) rfl (qT (K:=K) rfl (pv 0) rfl)) (qt (i:=2) sc_Web_ties.nd rfl (Or.inl rfl))
 (qf (j9 PassesOwn.never rfl (j7 (K:=K) rfl (jH QD_Web_beside (hmR hr) (pv 0) (qa (pv 2) qc))) (qt (i:=3) sc_Web_ties.nd rfl (Or.inl rfl))
 (qf (qO (qu qdq (qD (qE (K:=K) rfl hu) (qT (K:=K) rfl (pv 0) rfl) (pv 2) (fun _ _=>rfl)) (qD (qE (K:=K) rfl hu) (qT (K:=K) rfl (pv 0) rfl) (pv 3) (fun _ _=>rfl)) (qy _)) (qf (qL (qdQ (K:=K) rfl PySem.F.plainAttrs_list PySem.F.slot_list_append PySem.F.type_list_append jg (pv 1) (qa (jD (qa (pv 2) (qa (pv 3) qc))) qc)))) qr)))))
 (qf (qm (pv 1))))),?_⟩
  walk_at "vc"
  refine ⟨by decide,fun l hl=>?_⟩
  have s0:=qF (L2.Same.refl H) (o:=.lst []) hl
  walk_at "vc"
  refine .inl ⟨x,cw,dx,_,.ref ol,rfl,s0 _ _ hx,T.wcl,T.wo,qa0,?_⟩
  refine .inl ⟨⟨_,SqL.of (s0 _ _ ho)⟩,zr (K:=K) (fun i σ H'=>∃ (ts:List Addr) (x2 x3:Option V),σ=[some (.ref x),some (.ref l),x2,x3]∧L2.Same H H'∧H' l=some (.lst (ts.map V.ref))∧ts.length≤i * 14∧All2 (PrAt H H' l) ts (qah ss ns i))
   ⟨[],none,none,rfl,s0,qd,by simp,All2.nil⟩ (fun i σ H' _ hp=>by obtain ⟨_,_,_,_,z,_⟩:=hp;exact SqL.of (z _ _ ho)) (fun i y σ H1 hy hp=>?_) fun σ H1 hp=>?_⟩
  ·obtain ⟨ts,x2,x3,rfl,s1,hl1,hlen,hall⟩:=hp
   have hi:i < ss.length:=by simpa using (List.getElem?_eq_some_iff.mp hy).1
   have gi:ss[i]?=some ss[i]:=List.getElem?_eq_getElem hi
   generalize ss[i]=sy at gi
   have ey:y=.str sy:=by rw [List.getElem?_map,gi] at hy;cases hy;rfl
   subst ey
   have hny:=hw.nm sy (List.mem_of_getElem? gi)
   walk_at "vc"
   refine ⟨x,dx,_,rfl,s1 _ _ hx,qag (by decide +kernel),?_⟩
   walk_at "vc"
   refine ⟨x,0,x,ss,ns,.str sy,rfl,hW.same s1,Th.flat rfl (fun z e=>by cases e;have:=jv hny;omega),(fun h=>by rw [zg (List.mem_of_getElem? gi) hny] at h;cases h),fun j gj _ H2 s2 b hb=>?_⟩
   have hji:j=i:=qA hw.nd gj gi
   subst hji
   have s3:=s1.trans s2
   have s4:=qF s3 (o:=.lst ((inB ss 0 (ns.getD j 0)).map V.str)) hb
   have s24:=qF s2 (o:=.lst ((inB ss 0 (ns.getD j 0)).map V.str)) hb
   have eb:upd H2 b (.lst ((inB ss 0 (ns.getD j 0)).map V.str)) b=some (.lst ((inB ss 0 (ns.getD j 0)).map V.str)):=qd
   have nbl:b≠l:=fun e=>by rw [e,s2 _ _ hl1] at hb;cases hb
   have hb0:H b=none:=s3.free hb
   refine .inl ⟨⟨_,SqL.of qd⟩,?_⟩
   generalize upd H2 b (.lst ((inB ss 0 (ns.getD j 0)).map V.str))=H3 at s4 s24 eb ⊢
   have hmem:∀ o,o∈inB ss 0 (ns.getD j 0)→o∈ss:=fun o h=>(qd2 hw.nd h).1
   have hbl:=qbi (ns.getD j 0) ss 0
   have edef:qfi ss ns j=((inB ss 0 (ns.getD j 0)).filter fun o=>decide (j < ss.idxOf o)).map fun o=>(ss.getD j "",o):=rfl
   have egd:ss.getD j ""=sy:=by simp [List.getD,gi]
   rw [egd] at edef
   generalize hbs:inB ss 0 (ns.getD j 0)=bs at eb hmem hbl edef ⊢
   refine zr (K:=K) (fun k σ H'=>∃ (us:List Addr) (x3:Option V),σ=[some (.ref x),some (.ref l),some (.str sy),x3]∧L2.Same H H'∧H' b=some (.lst (bs.map V.str))∧H' l=some (.lst (us.map V.ref))∧us.length≤j * 14 + k∧All2 (PrAt H H' l) us (qah ss ns j++((bs.take k).filter fun o=>decide (j < ss.idxOf o)).map fun o=>(sy,o)))
    ⟨ts,_,rfl,s4,eb,s24 _ _ hl1,hlen,by simpa using hall.mono fun _ _ h=>h.same s24⟩ (fun k σ H' _ hp=>by obtain ⟨_,_,_,_,z,_⟩:=hp;exact SqL.of z) (fun k u σ H5 hu5 hp=>?_) fun σ H5 hp=>?_
   ·obtain ⟨us,x3,rfl,s5,eb5,hl5,hlen5,hall5⟩:=hp
    have hk:k < bs.length:=by simpa using (List.getElem?_eq_some_iff.mp hu5).1
    have gk:bs[k]?=some bs[k]:=List.getElem?_eq_getElem hk
    generalize bs[k]=so at gk
    have eu:u=.str so:=by rw [List.getElem?_map,gk] at hu5;cases hu5;rfl
    subst eu
    have hso:=hmem so (List.mem_of_getElem? gk)
    have hil:=List.idxOf_lt_length_of_mem hso
    have gso:ss[ss.idxOf so]?=some so:=by rw [List.getElem?_eq_getElem hil,List.getElem_idxOf]
    have htk:bs.take (k + 1)=bs.take k++[so]:=by rw [List.take_add_one,gk];rfl
    walk_at "vc"
    refine .inl ⟨x,cw,dx,_,.ref d,rfl,s5 _ _ hx,T.wcl,T.wn,zF,?_⟩
    walk_at "vc"
    refine .inr ⟨d,.int j,rfl,num H5 sy j s5 gi,?_⟩
    walk_at "vc"
    refine .inl ⟨x,cw,dx,_,.ref d,rfl,s5 _ _ hx,T.wcl,T.wn,zF,?_⟩
    walk_at "vc"
    refine .inr ⟨d,.int (ss.idxOf so:Nat),rfl,num H5 so _ s5 gso,?_⟩
    walk_at "vc"
    refine qQ (fun hlt=>?_) fun hlt=>?_
    ·have hlt':j < ss.idxOf so:=by have:=of_decide_eq_true hlt;omega
     walk_at "vc"
     refine ⟨.inl ⟨rfl,_,SqL.of hl5⟩,?_⟩
     walk_at "vc"
     refine ⟨by show 2≤sizeLine;decide,fun t ht=>?_⟩
     have nlt:l≠t:=qC hl5 ht
     have nbt:b≠t:=qC eb5 ht
     have s6:=qF (L2.Same.refl H5) (o:=.tup [.str sy,.str so]) ht
     walk_at "vc"
     refine ⟨l,_,_,rfl,rfl,by rw [qi nlt];exact hl5,by rw [List.length_map];exact qk (by have:j * 14≤14 * 14:=Nat.mul_le_mul_right 14 (by omega);omega),?_⟩
     refine ⟨us++[t],_,rfl,qga (s5.trans s6) hl,by rw [qi nbl,qi nbt];exact eb5,by rw [qd,List.map_append];rfl,by rw [List.length_append];show us.length + 1≤_;omega,?_⟩
     rw [htk,List.filter_append,List.map_append,← List.append_assoc]
     have e1:([so].filter fun o=>decide (j < ss.idxOf o)).map (fun o=>(sy,o))=[(sy,so)]:=by simp [hlt']
     rw [e1]
     refine All2.snoc (hall5.mono fun t' ab h=>⟨h.1,h.2.1,?_⟩) ⟨s5.free ht,nlt.symm,?_⟩
     ·rw [qi h.2.1]
      exact s6 _ _ h.2.2
     ·rw [qi nlt.symm,qd]
    ·have hlt':¬ j < ss.idxOf so:=fun h=>hlt (decide_eq_true (by omega))
     refine ⟨us,_,rfl,s5,eb5,hl5,by omega,?_⟩
     have e1:([so].filter fun o=>decide (j < ss.idxOf o)).map (fun o=>(sy,o))=[]:=by simp [hlt']
     rw [htk,List.filter_append,List.map_append,e1,List.append_nil]
     exact hall5
   ·obtain ⟨us,x3,rfl,s5,eb5,hl5,hlen5,hall5⟩:=hp
    rw [List.length_map,List.take_length] at hall5
    rw [List.length_map] at hlen5
    refine ⟨us,_,_,rfl,s5,hl5,by omega,?_⟩
    unfold qah at hall5 ⊢
    rw [List.range_succ,List.flatMap_append]
    have e1:[j].flatMap (qfi ss ns)=(bs.filter fun o=>decide (j < ss.idxOf o)).map fun o=>(sy,o):=by rw [← edef];simp
    rw [e1]
    exact hall5
  ·obtain ⟨ts,x2,x3,rfl,s1,hl1,hlen,hall⟩:=hp
   rw [List.length_map] at hlen hall
   walk_at "vc"
   exact q l ts H1 s1 hl hl1 (by have:ss.length * 14≤14 * 14:=Nat.mul_le_mul_right 14 few;omega) hall
theorem ok_told {f:Addr} {fd:FuncData} (F:Fun K "told" "Web.told" zf f fd) (T:Txt K mg cc cw) (D_Web_ties:MethOk P w K mg base CX0 7 cw "ties" ["self"] (qgu cw)):FnOk P w K mg base CX0 8 f fd ["self"] (qdd cw):=by
 refine F.ok sc_Web_told (fun vs H Q E h=>?_) fun cdv A outer s H vs Q E hr h=>?_
 ·obtain ⟨x,ss,ns,rfl,_⟩:=h;rfl
 ·obtain ⟨x,ss,ns,rfl,hW,q⟩:=h
  obtain ⟨dx,d,ol,n,hx,hd,ho,hn,hw⟩:=id hW
  refine ⟨_,(qf (qm (jD (qa (qG (j3 (K:=K) rfl) rfl T.b_tuple boot_tuple (qa (qT (K:=K) rfl (pv 0) rfl) qc)) (qa (qG (j3 (K:=K) rfl) rfl T.b_tuple boot_tuple (qa (qo D_Web_ties (hmR hr) (pv 0)) qc)) qc))))),?_⟩
  walk_at "vc"
  refine .inl ⟨x,cw,dx,_,.ref ol,rfl,hx,T.wcl,T.wo,qa0,?_⟩
  walk_at "vc"
  refine ⟨ol,_,rfl,.inl ⟨SqL.of ho,fun t1 h1=>?_⟩⟩
  have s1:=qF (L2.Same.refl H) (o:=.tup (ss.map V.str)) h1
  have e1:upd H t1 (.tup (ss.map V.str)) t1=some (.tup (ss.map V.str)):=qd
  generalize upd H t1 (.tup (ss.map V.str))=H1 at s1 e1 ⊢
  walk_at "vc"
  refine ⟨x,dx,_,rfl,s1 _ _ hx,qag (by decide +kernel),?_⟩
  walk_at "vc"
  refine ⟨x,ss,ns,rfl,hW.same s1,fun l ts H2 s2 hl0 hl hts hall=>?_⟩
  walk_at "vc"
  refine ⟨l,_,rfl,.inl ⟨SqL.of hl,fun t2 h2=>?_⟩⟩
  have s3:=qF (L2.Same.refl H2) (o:=.tup (ts.map V.ref)) h2
  have e2:upd H2 t2 (.tup (ts.map V.ref)) t2=some (.tup (ts.map V.ref)):=qd
  generalize upd H2 t2 (.tup (ts.map V.ref))=H3 at s3 e2 ⊢
  walk_at "vc"
  refine ⟨by show 2≤sizeLine;decide,fun t ht=>?_⟩
  have s4:=qF (L2.Same.refl H3) (o:=.tup [.ref t1,.ref t2]) ht
  exact q t t1 t2 l ts _ ((s1.trans s2).trans (s3.trans s4)) qd (s4 _ _ (s3 _ _ (s2 _ _ e1))) (s4 _ _ e2) (hall.mono fun t' ab h=>⟨s1.free h.1,h.2.1,s4 _ _ (s3 _ _ h.2.2)⟩)
end
def Box (H:Hp) (p:Addr):Prop:=∃ a b c:Int,H p=some (.lst [.int a,.int b,.int c])
def BB (p:Addr) (H H':Hp):Prop:=(∀ b o,b≠p→H b=some o→H' b=some o)∧Box H' p
section
variable {P:Program} {w:World} {K:W.Frag} {mg:Str→Option Value} {base:Heap} {cc:Nat→Addr} {cw:Addr}
theorem Th.str {p:Addr} {H:Hp} {n:Nat} {s:Str} (h:s.length≤100000):Th p H n (.str s):=.flat rfl fun t e=>by cases e;exact h
def NewH (H H':Hp):Hp:=fun a=>match H a with | none=>H' a | some _=>none
theorem inV_str (c:Str) (ss:List Str):inV (.str c) (ss.map V.str)=decide (c∈ss):=by
 unfold inV
 rw [List.any_map,Bool.eq_iff_iff,List.any_eq_true,decide_eq_true_iff]
 constructor
 ·rintro ⟨y,hy,e⟩
  have:y=c:=eq_of_beq e
  rw [← this];exact hy
 ·intro h
  exact ⟨c,h,beq_self_eq_true c⟩
theorem flat_strs (ss:List Str):(ss.map V.str).all zO=true:=by rw [List.all_map];exact List.all_eq_true.mpr fun _ _=>rfl
def signs:List Str:=("abcdefghijklmno":Str).cps.toList.map fun c=>⟨#[c]⟩
end
theorem slice_ix (k n:Nat):Builtin.Str.strSliceIndices none (some (k:Int)) 1 n=List.range (min k n):=by
 unfold Builtin.Str.strSliceIndices sliceRange
 simp only [show (1:Int) > 0 by decide,if_true]
 rw [if_neg (show ¬ ((k:Int) < 0) by omega)]
 have e1:max 0 (min (k:Int) n)=((min k n:Nat):Int):=by omega
 rw [e1]
 have e2:(fun (j:Nat)=>((0:Int) + 1 * (j:Int)).toNat)=id:=by funext j;show _=j;omega
 rw [e2,List.map_id]
 congr 1
 split
 ·rw [Int.ediv_one];omega
 ·omega
theorem qd3 (a:Array Nat):∀ m,m≤a.size→(List.range m).filterMap (a[·]?)=a.toList.take m
 | 0,_=>rfl
 | m + 1,h=>by
  rw [List.range_succ,List.filterMap_append,qd3 a m (by omega),List.take_add_one]
  congr 1
  have e:a[m]?=some a[m]:=Array.getElem?_eq_getElem (by omega)
  have e':a.toList[m]?=some a[m]:=by rw [Array.getElem?_toList];exact e
  rw [e',List.filterMap_cons,e]
  rfl
theorem qbx (z:Str) (k:Nat):(Txt.slice z none (some (k:Int))).cps.toList=z.cps.toList.take k:=by
 unfold Txt.slice
 rw [slice_ix]
 have hz:z.length=z.cps.toList.length:=by simp [Str.length]
 split
 ·rename_i h
  rw [List.length_range] at h
  have:min k z.length=z.length:=by simpa using h
  rw [List.take_of_length_le (by omega)]
 ·show (List.filterMap _ _).toArray.toList=_
  rw [qd3 z.cps (min k z.length) (Nat.min_le_right _ _)]
  show z.cps.toList.take (min k z.length)=_
  by_cases hk:k≤z.length
  ·rw [Nat.min_eq_left hk]
  ·rw [Nat.min_eq_right (by omega),List.take_of_length_le (by omega),List.take_of_length_le (by omega)]
theorem qde (a b:Str):(a++b).cps.toList=a.cps.toList++b.cps.toList:=by
 show (a.cps++b.cps).toList=_
 exact Array.toList_append
theorem qfj {c:Nat} (h:97≤c) (h2:c≤122):sg c=true:=by
 have key:∀ i,i < 26→sg (97 + i)=true:=by decide +kernel
 have:=key (c - 97) (by omega)
 rwa [show 97 + (c - 97)=c by omega] at this
def Signs (p:Addr) (H:Hp) (i:Nat) (ys:List V) (H':Hp):Prop:=BB p H H'∧∃ xs:List Str,ys=xs.map V.str∧xs.length=i∧∀ x∈xs,x.length=1∧x.cps.toList.all sg=true
def L26:Str:="abcdefghijklmnopqrstuvwxyz"
theorem qeM {i:Int} (h0:0≤i) (h1:i < 26):atI L26.cps.toList i=some (97 + i.toNat):=by
 obtain ⟨n,rfl⟩:=Int.eq_ofNat_of_zero_le h0
 have key:∀ n,n < 26→L26.cps.toList[n]?=some (97 + n):=by decide +kernel
 rw [Int.toNat_natCast]
 exact ju (key n (by omega))
theorem qa2 {x:Str} {l:List Nat} (e:x.cps.toList=l) (h1:1≤l.length) (h6:l.length≤6) (h:l.all sg=true):qao x=true:=by
 have hl:x.length=l.length:=by rw [← e];simp [Str.length]
 unfold qao
 rw [if_pos ⟨by omega,by omega⟩,e]
 exact h
theorem nodup_key {ss:List Str} (h:∀ (i j:Nat) (s:Str),ss[i]?=some s→ss[j]?=some s→i=j):ss.Nodup:=by
 refine List.pairwise_iff_getElem.mpr fun i j hi hj hij e=>?_
 have:=h i j ss[j] (by rw [List.getElem?_eq_getElem hi,e]) (List.getElem?_eq_getElem hj)
 omega
def NL (p:Addr) (H':Hp) (l:Addr) (ss:List Str):Prop:=H' l=some (.lst (ss.map V.str))∧l≠p
structure NOk (ss:List Str):Prop where
 few:ss.length≤14
 nd:ss.Nodup
 nm:∀ s∈ss,qao s=true
section
variable {P:Program} {w:World} {K:W.Frag} {mg:Str→Option Value} {base:Heap} {cc:Nat→Addr} {cw:Addr}
end
def PrT (p:Addr) (H:Hp) (t:Addr) (ab:Str×Str):Prop:=t≠p∧H t=some (.tup [.str ab.1,.str ab.2])
def TL (p:Addr) (H:Hp) (l:Addr) (ts:List Addr) (tps:List (Str×Str)):Prop:=H l=some (.lst (ts.map V.ref))∧l≠p∧All2 (PrT p H) ts tps
structure TOk (ss:List Str) (tps:List (Str×Str)):Prop where
 few:tps.length≤30
 ok:∀ ab∈tps,∃ j k:Nat,j < k∧ss[j]?=some ab.1∧ss[k]?=some ab.2
 nd:tps.Nodup
def Shuf (tps ups:List (Str×Str)):Prop:=∃ qps,ups.Perm qps∧All2 (fun a b=>b=a∨b=(a.2,a.1)) tps qps
section
variable {P:Program} {w:World} {K:W.Frag} {mg:Str→Option Value} {base:Heap} {cc:Nat→Addr} {cw:Addr}
end
theorem qa3 (n:Nat):(List.range n).all (fun _=>true)=true:=by simp
theorem qbM {K:W.Frag} {H:Hp} {a b:Addr} {s t s' t':Str} (hb:H b=some (.tup [.str s',.str t'])) (ha:H a=some (.tup [.str s,.str t])):EqD K H 1 (.ref b) (.ref a) (decide ((s',t')=(s,t))):=by
 by_cases e:b=a
 ·subst e
  rw [hb] at ha
  cases ha
  rw [decide_eq_true rfl]
  exact .self
 ·have z:=EqT.tup (K:=K) (H:=H) (n:=0) (e:=fun j=>if j=0 then eqV (.str s') (.str s) else eqV (.str t') (.str t)) (SqT.of hb) (SqT.of ha) fun j x y hx hy=>by
   match j,hx,hy with
   | 0,hx,hy=>cases hx;cases hy;exact .flat rfl rfl
   | 1,hx,hy=>cases hx;cases hy;exact .flat rfl rfl
  have ev:((List.range (min [V.str s',V.str t'].length [V.str s,V.str t].length)).all (fun j=>if j=0 then eqV (.str s') (.str s) else eqV (.str t') (.str t))&&[V.str s',V.str t'].length==[V.str s,V.str t].length)=decide ((s',t')=(s,t)):=by
   show ((s'==s)&&((t'==t)&&true)&&true)=_
   rw [Bool.eq_iff_iff]
   simp
  rw [ev] at z
  exact .deep z e
def PL (H:Hp) (l:Addr) (ts:List Addr) (tps:List (Str×Str)):Prop:=H l=some (.lst (ts.map V.ref))∧All2 (fun t ab=>H t=some (.tup [.str ab.1,.str ab.2])) ts tps
theorem PL.same {l:Addr} {H H':Hp} {ts:List Addr} {tps:List (Str×Str)} (h:PL H l ts tps) (s:L2.Same H H'):PL H' l ts tps:=⟨s _ _ h.1,h.2.mono fun _ _ z=>s _ _ z⟩
def qdz (H:Hp) (z:V):Option (Str×Str):=match z with
 | .ref t=>(match H t with
  | some (.tup [.str a,.str b])=>some (a,b)
  | _=>none)
 | _=>none
theorem qbN {H:Hp} {t:Addr} {a b:Str} (h:H t=some (.tup [.str a,.str b])):qdz H (.ref t)=some (a,b):=by
 unfold qdz
 dsimp only
 rw [h]
theorem any_in {H:Hp} {ts:List Addr} {tps:List (Str×Str)} (h:All2 (fun t ab=>H t=some (.tup [.str ab.1,.str ab.2])) ts tps) (st:Str×Str):((ts.map V.ref).any fun z=>decide (qdz H z=some st))=decide (st∈tps):=by
 rw [Bool.eq_iff_iff,List.any_eq_true,decide_eq_true_iff]
 constructor
 ·rintro ⟨z,hz,e⟩
  obtain ⟨t,ht,rfl⟩:=List.mem_map.mp hz
  obtain ⟨ab,hab,r⟩:=h.mem ht
  have e:=of_decide_eq_true e
  rw [qbN r] at e
  cases e
  exact hab
 ·intro hm
  obtain ⟨k,hk,e⟩:=List.getElem_of_mem hm
  have hk':k < ts.length:=by rw [h.len];exact hk
  have r:=h.at_ k ts[k] tps[k] (List.getElem?_eq_getElem hk') (List.getElem?_eq_getElem hk)
  refine ⟨.ref ts[k],List.mem_map.mpr ⟨_,List.getElem_mem hk',rfl⟩,decide_eq_true ?_⟩
  rw [qbN r,e]
theorem pl_in {K:W.Frag} {H:Hp} {l a:Addr} {ts:List Addr} {tps:List (Str×Str)} {s t:Str} {Q:VK} (h:PL H l ts tps) (ha:H a=some (.tup [.str s,.str t])) (q:Q (.bl (decide ((s,t)∈tps))) H):qfO K false (.ref a) (.ref l) H Q:=by
 refine .inr (.inr ⟨l,ts.map V.ref,fun z=>decide (qdz H z=some (s,t)),1,rfl,SqL.of h.1,by decide,fun z hz=>?_,?_⟩)
 ·obtain ⟨b,hb,rfl⟩:=List.mem_map.mp hz
  obtain ⟨ab,_,r⟩:=h.2.mem hb
  have e:=qbM (K:=K) r ha
  have ee:decide (qdz H (.ref b)=some (s,t))=decide ((ab.1,ab.2)=(s,t)):=by
   rw [qbN r]
   apply decide_eq_decide.mpr
   rw [Option.some.injEq]
  show EqD K H 1 (.ref b) (.ref a) (decide (qdz H (.ref b)=some (s,t)))
  rw [ee]
  exact e
 ·rw [any_in h.2]
  exact q
def qaT (ss:List Str) (tps:List (Str×Str)) (one:Str):List (Str×Str):=(ss.filter fun o=>decide ((one,o)∈tps)).map fun o=>(one,o)
def qbj (ss:List Str) (tps:List (Str×Str)) (l:List Str):List (Str×Str):=l.flatMap (qaT ss tps)
section
variable {P:Program} {w:World} {K:W.Frag} {mg:Str→Option Value} {base:Heap} {cc:Nat→Addr} {cw:Addr}
theorem eqT_two {H:Hp} {a b:Addr} {xs ys:List V} {n:Nat} (ha:H a=some (.lst xs)) (hb:H b=some (.lst ys)) (hl:xs.length=ys.length) (h:∀ (j:Nat) x y,xs[j]?=some x→ys[j]?=some y→EqD K H n x y true):EqT K H (n + 1) a b true:=by
 have z:=EqT.lst (K:=K) (H:=H) (n:=n) (e:=fun _=>true) (SqL.of ha) (SqL.of hb) hl h
 rw [qa3] at z
 exact z
theorem qeN {H:Hp} {l r:Addr} {ts us:List Addr} {tps:List (Str×Str)} (h:PL H l ts tps) (g:PL H r us tps):EqT K H 2 l r true:=by
 refine eqT_two h.1 g.1 (by rw [List.length_map,List.length_map,h.2.len,g.2.len]) fun j x y hx hy=>?_
 rw [List.getElem?_map] at hx hy
 cases hx':ts[j]? with
 | none=>rw [hx'] at hx;cases hx
 | some t =>
  cases hy':us[j]? with
  | none=>rw [hy'] at hy;cases hy
  | some u =>
   rw [hx'] at hx
   rw [hy'] at hy
   cases hx
   cases hy
   have hj:j < tps.length:=by rw [← h.2.len];exact (List.getElem?_eq_some_iff.mp hx').1
   have e:=qbM (K:=K) (h.2.at_ j t tps[j] hx' (List.getElem?_eq_getElem hj)) (g.2.at_ j u tps[j] hy' (List.getElem?_eq_getElem hj))
   rw [decide_eq_true rfl] at e
   exact e
end
def Adj (ss:List Str) (ns:List Nat) (tps:List (Str×Str)):Prop:=∀ a b s t,ss[a]?=some s→ss[b]?=some t→((ns.getD a 0).testBit b=true↔((s,t)∈tps∨(t,s)∈tps))
theorem idx_get {ss:List Str} {s:Str} (h:s∈ss):ss[ss.idxOf s]?=some s:=by
 have hl:=List.idxOf_lt_length_of_mem h
 rw [List.getElem?_eq_getElem hl,List.getElem_idxOf]
section
variable {P:Program} {w:World} {K:W.Frag} {mg:Str→Option Value} {base:Heap} {cc:Nat→Addr} {cw:Addr}
structure Wk (ss:List Str) (ns:List Nat) (k:Nat) (name:Str) (ps qs:List Str):Prop where
 nd:ps.Nodup
 has:name∈ps
 rch:∀ s∈ps,s∈ss∧Rch ns k (ss.idxOf s)
 sub:∀ s∈qs,s∈ps
end
section
variable {P:Program} {w:World} {K:W.Frag} {mg:Str→Option Value} {base:Heap} {cc:Nat→Addr} {cw:Addr}
end
section
variable {P:Program} {w:World} {K:W.Frag} {mg:Str→Option Value} {base:Heap} {cc:Nat→Addr} {cw:Addr}
end
theorem vAsgT {te:TE} {K:W.Frag} {n:Nat} {gs:TGs} {D:Ends} {σ:L2.St} {H:Hp} (h:te σ H fun x H1=>qf5 K n gs x σ H1 D.nx):qe5 te (qf5 K n gs) D σ H:=h
def UN (x y:Str×Str):Prop:=x≠y∧x≠(y.2,y.1)
theorem UN.symm {x y:Str×Str} (h:UN x y):UN y x:=⟨fun e=>h.1 e.symm,fun e=>h.2 (by rw [e])⟩
theorem TOk.un {ss:List Str} {tps:List (Str×Str)} (hn:ss.Nodup) (h:TOk ss tps):tps.Pairwise UN:=by
 have nd:=h.nd
 refine List.Pairwise.imp_of_mem (fun {a b} ha hb (hne:a≠b)=>⟨hne,fun e=>?_⟩) nd
 obtain ⟨j,k,h1,h2,h3⟩:=h.ok a ha
 obtain ⟨j',k',g1,g2,g3⟩:=h.ok b hb
 rw [e] at h2 h3
 have e1:=qA hn h2 g3
 have e2:=qA hn h3 g2
 omega
theorem Shuf.un {ss:List Str} {tps ups:List (Str×Str)} (hn:ss.Nodup) (h:TOk ss tps) (sh:Shuf tps ups):ups.Pairwise UN:=by
 obtain ⟨qps,hp,hA⟩:=sh
 have hu:=h.un hn
 refine hp.symm.pairwise ?_ fun h=>h.symm
 refine List.pairwise_iff_getElem.mpr fun i j hi hj hij=>?_
 have hi':i < tps.length:=by rw [hA.len];exact hi
 have hj':j < tps.length:=by rw [hA.len];exact hj
 have hu':=List.pairwise_iff_getElem.mp hu i j hi' hj' hij
 have ai:=hA.at_ i tps[i] qps[i] (List.getElem?_eq_getElem hi') (List.getElem?_eq_getElem hi)
 have aj:=hA.at_ j tps[j] qps[j] (List.getElem?_eq_getElem hj') (List.getElem?_eq_getElem hj)
 generalize tps[i]=a at hu' ai
 generalize tps[j]=b at hu' aj
 generalize qps[i]=c at ai
 generalize qps[j]=d at aj
 obtain ⟨a1,a2⟩:=a
 obtain ⟨b1,b2⟩:=b
 obtain ⟨h1,h2⟩:=hu'
 rcases ai with rfl | rfl<;>rcases aj with rfl | rfl<;>refine ⟨fun e=>?_,fun e=>?_⟩<;>dsimp only at e h1 h2<;>rw [Prod.mk.injEq] at e<;>simp only [ne_eq,Prod.mk.injEq] at h1 h2<;>first | exact h1 ⟨e.1,e.2⟩ | exact h2 ⟨e.1,e.2⟩ | exact h1 ⟨e.2,e.1⟩ | exact h2 ⟨e.2,e.1⟩
theorem Shuf.mem {tps ups:List (Str×Str)} (sh:Shuf tps ups) (s t:Str):((s,t)∈ups∨(t,s)∈ups)↔((s,t)∈tps∨(t,s)∈tps):=by
 obtain ⟨qps,hp,hA⟩:=sh
 rw [hp.mem_iff,hp.mem_iff]
 constructor
 ·have key:∀ c∈qps,c∈tps∨(c.2,c.1)∈tps:=fun c hc=>by
   obtain ⟨k,hk,e⟩:=List.getElem_of_mem hc
   have hk':k < tps.length:=by rw [hA.len];exact hk
   have a:=hA.at_ k tps[k] qps[k] (List.getElem?_eq_getElem hk') (List.getElem?_eq_getElem hk)
   rw [e] at a
   rcases a with a | a
   ·rw [a];exact .inl (List.getElem_mem hk')
   ·rw [a];exact .inr (List.getElem_mem hk')
  rintro (h | h)
  ·exact key _ h
  ·rcases key _ h with h | h
   ·exact .inr h
   ·exact .inl h
 ·have key:∀ c∈tps,c∈qps∨(c.2,c.1)∈qps:=fun c hc=>by
   obtain ⟨d,hd,r⟩:=hA.mem hc
   rcases r with r | r
   ·rw [← r];exact .inl hd
   ·rw [← r];exact .inr hd
  rintro (h | h)
  ·exact key _ h
  ·rcases key _ h with h | h
   ·exact .inr h
   ·exact .inl h
theorem Shuf.good {ss:List Str} {tps ups:List (Str×Str)} (h:TOk ss tps) (sh:Shuf tps ups):∀ ab∈ups,ab.1∈ss∧ab.2∈ss∧(ss.Nodup→ab.1≠ab.2):=fun ab hab=>by
 have:=(sh.mem ab.1 ab.2).mp (.inl hab)
 rcases this with h' | h'
 ·obtain ⟨j,k,h1,h2,h3⟩:=h.ok _ h'
  exact ⟨List.mem_of_getElem? h2,List.mem_of_getElem? h3,fun nd e=>by dsimp only at h2 h3;rw [e] at h2;have:=qA nd h2 h3;omega⟩
 ·obtain ⟨j,k,h1,h2,h3⟩:=h.ok _ h'
  exact ⟨List.mem_of_getElem? h3,List.mem_of_getElem? h2,fun nd e=>by dsimp only at h2 h3;rw [e] at h3;have:=qA nd h2 h3;omega⟩
theorem Shuf.len {tps ups:List (Str×Str)} (sh:Shuf tps ups):ups.length=tps.length:=by
 obtain ⟨qps,hp,hA⟩:=sh
 rw [hp.length_eq,hA.len]
theorem qd4:∀ (l acc:List Str),(∀ s∈l,qao s=true)→l.Nodup→(∀ s∈l,s∉acc)→qdx (l.map V.str) acc=none
 | [],_,_,_,_=>rfl
 | s::r,acc,hn,nd,hd=>by
  rw [List.map_cons,qci,if_pos (show qaJ (.str s)=true from hn s List.mem_cons_self),if_neg (show ¬ jF (.str s)∈acc from hd s List.mem_cons_self)]
  show qdx (r.map V.str) (acc++[s])=none
  rw [List.nodup_cons] at nd
  refine qd4 r _ (fun t ht=>hn t (List.mem_cons_of_mem _ ht)) nd.2 fun t ht hm=>?_
  rcases List.mem_append.mp hm with h | h
  ·exact hd t (List.mem_cons_of_mem _ ht) h
  ·have:t=s:=List.mem_singleton.mp h
   rw [this] at ht
   exact nd.1 ht
theorem tieV_ok {H:Hp} {ss:List Str} {t:Addr} {a b:Str} (e:H t=some (.tup [.str a,.str b])) (ha:jB ss (.str a)=true) (hb:jB ss (.str b)=true) (hne:a≠b):zK H ss (.ref t)=some (a,b):=by
 rw [qc7 e,if_pos]
 ·rfl
 ·unfold qdw
  rw [ha,hb]
  simp [jF,hne]
theorem qeO {H:Hp} {ss:List Str}:∀ (us:List Addr) (ups seen:List (Str×Str)),us.length=ups.length→(∀ (k:Nat) t ab,us[k]?=some t→ups[k]?=some ab→zK H ss (.ref t)=some ab)→(seen++ups).Pairwise UN→goT H ss (us.map V.ref) seen=none
 | [],_,_,_,_,_=>rfl
 | u::us,[],_,hl,_,_=>by cases hl
 | u::us,ab::ups,seen,hl,hc,hp=>by
  rw [List.map_cons,qc8 (hc 0 u ab rfl rfl),if_neg]
  ·refine qeO us ups (seen++[ab]) (Nat.succ.inj hl) (fun k t cd h1 h2=>hc (k + 1) t cd (by simpa using h1) (by simpa using h2)) ?_
   rw [List.append_assoc]
   exact hp
  ·rw [List.pairwise_append] at hp
   rintro (h | h)
   ·exact (hp.2.2 ab h ab List.mem_cons_self).1 rfl
   ·exact (hp.2.2 _ h ab List.mem_cons_self).2 rfl
theorem qd5 {H:Hp} {ss:List Str}:∀ (us:List Addr) (ups:List (Str×Str)),us.length=ups.length→(∀ (k:Nat) t ab,us[k]?=some t→ups[k]?=some ab→zK H ss (.ref t)=some ab)→(us.map V.ref).filterMap (zK H ss)=ups
 | [],[],_,_=>rfl
 | [],_::_,hl,_=>by cases hl
 | _::_,[],hl,_=>by cases hl
 | u::us,ab::ups,hl,hc=>by
  rw [List.map_cons,List.filterMap_cons,hc 0 u ab rfl rfl]
  exact congrArg (ab::·) (qd5 us ups (Nat.succ.inj hl) fun k t cd h1 h2=>hc (k + 1) t cd (by simpa using h1) (by simpa using h2))
theorem qbk (ss:List Str):(ss.map V.str).map jF=ss:=by
 rw [List.map_map]
 exact List.map_id ss
theorem qd6 {H:Hp} {ss:List Str} {v v2:V} {us:List Addr} {tps ups:List (Str×Str)} (hO:NOk ss) (hT:TOk ss tps) (sh:Shuf tps ups) (hc:All2 (fun t ab=>H t=some (.tup [.str ab.1,.str ab.2])) us ups) :
  qff H v (some (ss.map V.str)) v2 (some (us.map V.ref))=none∧(us.map V.ref).filterMap (zK H ss)=ups:=by
 have pl:∀ s,s∈ss→jB ss (.str s)=true:=fun s hs=>zg hs (hO.nm s hs)
 have tv:∀ (k:Nat) t ab,us[k]?=some t→ups[k]?=some ab→zK H ss (.ref t)=some ab:=fun k t ab h1 h2=>by
  obtain ⟨g1,g2,g3⟩:=sh.good hT ab (List.mem_of_getElem? h2)
  exact tieV_ok (hc.at_ k t ab h1 h2) (pl _ g1) (pl _ g2) (g3 hO.nd)
 have hN:qfv v (some (ss.map V.str))=none:=by
  show (if 14 < (ss.map V.str).length then _ else qdx (ss.map V.str) [])=none
  rw [if_neg (by rw [List.length_map];have:=hO.few;omega)]
  exact qd4 ss [] hO.nm hO.nd (by simp)
 refine ⟨?_,qd5 us ups hc.len tv⟩
 unfold qff
 rw [hN]
 show qed H ((ss.map V.str).map jF) v2 (some (us.map V.ref))=none
 rw [qbk]
 show (if 30 < (us.map V.ref).length then _ else (goT H ss (us.map V.ref) []).map _)=none
 rw [if_neg (by rw [List.length_map,hc.len,sh.len];have:=hT.few;omega),qeO us ups [] hc.len tv (by simpa using sh.un hO.nd hT)]
 rfl
theorem qeP {ss:List Str} {ns:List Nat} {tps ups:List (Str×Str)} (sh:Shuf tps ups) (hb:qaf ss ns ups):Adj ss ns tps:=fun a b s t ga gb=>by
 rw [hb.2.2 a b s t ga gb,decide_eq_true_iff]
 exact sh.mem s t
theorem qbl (ss:List Str):(List.range ss.length).map (fun i=>ss.getD i "")=ss:=by
 apply List.ext_getElem?
 intro i
 rw [List.getElem?_map]
 by_cases h:i < ss.length
 ·rw [List.getElem?_range h,List.getElem?_eq_getElem h]
  simp [List.getD,h]
 ·rw [List.getElem?_eq_none (by simpa using h),List.getElem?_eq_none (by omega)]
  rfl
theorem qdf {ss:List Str} {ns:List Nat} {tps:List (Str×Str)} (hw:WOk ss ns) (hT:TOk ss tps) (ha:Adj ss ns tps):qah ss ns ss.length=qbj ss tps ss:=by
 have e:qbj ss tps ss=(List.range ss.length).flatMap fun i=>qaT ss tps (ss.getD i ""):=by
  unfold qbj
  conv=>lhs;rw [← qbl ss]
  rw [List.flatMap_map]
  rw [qbl]
 rw [e]
 unfold qah
 have key:∀ i∈List.range ss.length,qfi ss ns i=qaT ss tps (ss.getD i ""):=fun i hi=>by
  have hi:i < ss.length:=List.mem_range.mp hi
  have gi:ss[i]?=some (ss.getD i ""):=by simp [List.getD,hi]
  unfold qfi qaT
  congr 1
  rw [qaQ hw.nd,List.filter_filter]
  apply List.filter_congr
  intro o ho
  have go:=idx_get ho
  rw [Bool.eq_iff_iff,Bool.and_eq_true,decide_eq_true_iff,decide_eq_true_iff,ha i _ _ o gi go]
  constructor
  ·rintro ⟨h1,h2 | h2⟩
   ·exact h2
   ·obtain ⟨j,k,l1,l2,l3⟩:=hT.ok _ h2
    have e1:=qA hw.nd l2 go
    have e2:=qA hw.nd l3 gi
    omega
  ·intro h
   obtain ⟨j,k,l1,l2,l3⟩:=hT.ok _ h
   have e1:=qA hw.nd l2 gi
   have e2:=qA hw.nd l3 go
   exact ⟨by omega,.inl h⟩
 have fmc:∀ l:List Nat,(∀ i∈l,qfi ss ns i=qaT ss tps (ss.getD i ""))→l.flatMap (qfi ss ns)=l.flatMap fun i=>qaT ss tps (ss.getD i ""):=fun l=>by
  induction l with
  | nil=>intro _;rfl
  | cons a r ih =>
   intro h
   rw [List.flatMap_cons,List.flatMap_cons,h a List.mem_cons_self,ih fun i hi=>h i (List.mem_cons_of_mem _ hi)]
 exact fmc _ key
theorem But.out {x:Addr} {H H0 H':Hp} (b:But x H0 H') (s:L2.Same H H0) (hx:H x=none):L2.Same H H':=fun c o e=>b c o (fun z=>by subst z;rw [hx] at e;cases e) (s c o e)
def qek (K:W.Frag):Sp:=fun vs H Q _=>∃ (a:Addr) (ns:List Int),vs=[.ref a]∧SqL K H a (ns.map V.int)∧ns.length≤63∧∀ H',Q (.bl true) H'
section
variable {P:Program} {w:World} {K:W.Frag} {mg:Str→Option Value} {base:Heap} {cc:Nat→Addr} {cw:Addr}
end
def qel (l:Str):Str:=(PySem.Txt.partition l ":").1
def pMid (l:Str):Str:=(PySem.Txt.partition l ":").2.1
def pTail (l:Str):Str:=(PySem.Txt.partition l ":").2.2
def wds (l:Str):List Str:=PySem.Txt.split (pTail l) " "
def fw:List Str→Nat→List Str→Sum Nat (List Str)
 | [],_,acc=>.inr acc
 | l::r,k,acc=>if pMid l=""∨qao (qel l)=false∨qel l∈acc∨14≤k then .inl k else fw r (k + 1) (acc++[qel l])
def bel (ss:List Str):List Str→Nat→Bool
 | [],_=>true
 | w::r,k=>if w∈ss∧k < ss.idxOf w then bel ss r (ss.idxOf w) else false
def qg2 (l:Str):List (Str×Str):=(wds l).tail.map fun o=>(qel l,o)
def ti (ss:List Str):List Str→Nat→List (Str×Str)→Sum Nat (List (Str×Str))
 | [],_,acc=>.inr acc
 | l::r,k,acc=>if (wds l).headD ""≠""∨bel ss (wds l).tail k=false∨30 < (acc++qg2 l).length then .inl k else ti ss r (k + 1) (acc++qg2 l)
section
variable {P:Program} {w:World} {K:W.Frag} {mg:Str→Option Value} {base:Heap} {cc:Nat→Addr} {cw:Addr}
end
section
variable {P:Program} {w:World} {K:W.Frag} {mg:Str→Option Value} {base:Heap} {cc:Nat→Addr} {cw:Addr}
end
theorem Shuf.self (tps:List (Str×Str)):Shuf tps tps:=⟨tps,List.Perm.refl _,rfl,fun k a b h1 h2=>by rw [h1] at h2;cases h2;exact .inl rfl⟩
theorem WebN.old {H0 H1:Hp} {cw:Addr} {H:Hp} {x:Addr} {ss:List Str} {ns:List Nat} (h:WebN H1 cw H x ss ns) (s:L2.Same H0 H1):WebN H0 cw H x ss ns:=by
 obtain ⟨dx,d,ol,n,h1,h2,h3,h4,h5,a2,a3,a4⟩:=h
 exact ⟨dx,d,ol,n,h1,h2,h3,h4,h5,s.free a2,s.free a3,s.free a4⟩
theorem WebN.same {H0:Hp} {cw:Addr} {H H':Hp} {x:Addr} {ss:List Str} {ns:List Nat} (h:WebN H0 cw H x ss ns) (s:L2.Same H H'):WebN H0 cw H' x ss ns:=by
 obtain ⟨dx,d,ol,n,h1,h2,h3,h4,h5,a⟩:=h
 exact ⟨dx,d,ol,n,s _ _ h1,s _ _ h2,s _ _ h3,s _ _ h4,h5,a⟩
theorem web_made {cc:Nat→Addr} {cw:Addr} {G:Hp} {c1 l' x dx:Addr} {ss:List Str} {us:List Addr} {tps ups:List (Str×Str)} {Q:VK} {E:XK} (h1:G c1=some (.lst (ss.map V.str))) (h2:G l'=some (.lst (us.map V.ref))) (hA:All2 (fun t ab=>G t=some (.tup [.str ab.1,.str ab.2])) us ups)
  (hO:NOk ss) (hT:TOk ss tps) (sh:Shuf tps ups) (hx0:G x=none) (hdx:G dx=none) (hne:x≠dx) (q:∀ ns H',L2.Same G H'→WebN G cw H' x ss ns→qaf ss ns ups→Q .non H') :
  qdy cc cw [.ref x,.ref c1,.ref l'] (upd (upd G dx (.own x)) x (.ins cw dx [])) Q E:=by
 have s0:L2.Same G (upd (upd G dx (.own x)) x (.ins cw dx [])):=qF (qF (L2.Same.refl G) hdx) (by rw [qi hne];exact hx0)
 have hl0:=hA.mono fun t ab z=>s0 _ _ z
 have mk0:=qd6 (H:=upd (upd G dx (.own x)) x (.ins cw dx [])) (v:=.ref c1) (v2:=.ref l') hO hT sh hl0
 have nx:∀ {a:Addr} {o:HO},G a=some o→a≠x:=fun e z=>by rw [z,hx0] at e;cases e
 refine ⟨x,x,dx,.ref c1,some (ss.map V.str),.ref l',some (us.map V.ref),rfl,qd,.lst (s0 _ _ h1) (nx h1) (fun v hv=>?_) (by rw [List.length_map];have:=hO.few;omega),.lst (s0 _ _ h2) (nx h2) (fun v hv=>?_) (by rw [List.length_map,hA.len,sh.len];have:=hT.few;omega),(fun r e=>by rw [mk0.1] at e;cases e),fun _ ns H' b hWN hbits=>?_⟩
 ·obtain ⟨s,hs,rfl⟩:=List.mem_map.mp hv
  exact Th.flat rfl fun z e=>by cases e;have:=jv (hO.nm _ hs);omega
 ·obtain ⟨u,hu',rfl⟩:=List.mem_map.mp hv
  obtain ⟨ab,hab,eu⟩:=hA.mem hu'
  obtain ⟨g1,g2,_⟩:=sh.good hT ab hab
  refine (Th.tup (n:=1) (s0 _ _ eu) (nx eu) (fun z hz=>?_) (by show 2≤1000;decide))
  simp only [List.mem_cons,List.not_mem_nil,or_false] at hz
  rcases hz with rfl | rfl
  ·exact Th.flat rfl fun z e=>by cases e;have:=jv (hO.nm _ g1);omega
  ·exact Th.flat rfl fun z e=>by cases e;have:=jv (hO.nm _ g2);omega
 ·have e1:((some (ss.map V.str)).getD []).map jF=ss:=qbk ss
  rw [e1] at hbits hWN
  have e2:((some (us.map V.ref)).getD []).filterMap (zK (upd (upd G dx (.own x)) x (.ins cw dx [])) ss)=ups:=mk0.2
  rw [e2] at hbits
  exact q ns H' (b.out s0 hx0) (hWN.old s0) hbits
section
variable {P:Program} {w:World} {K:W.Frag} {mg:Str→Option Value} {base:Heap} {cc:Nat→Addr} {cw:Addr}
end
structure WG (ss:List Str) (ns:List Nat) (dps:List (Str×Str)):Prop where
 tok:TOk ss dps
 adj:Adj ss ns dps
 due:qah ss ns ss.length=dps
def keepT (dps:List (Str×Str)) (ks:List Str):List (Str×Str):=dps.filter fun t=>decide (t.1∈ks)&&decide (t.2∈ks)
theorem qbm {q:Str×Str→Bool} {f:Str→List (Str×Str)}:∀ l:List Str,(l.flatMap f).filter q=l.flatMap fun a=>(f a).filter q
 | []=>rfl
 | a::r=>by rw [List.flatMap_cons,List.flatMap_cons,List.filter_append,qbm r]
theorem qby {g h:Str→List (Str×Str)}:∀ l:List Str,(∀ a∈l,g a=h a)→l.flatMap g=l.flatMap h
 | [],_=>rfl
 | a::r,e=>by rw [List.flatMap_cons,List.flatMap_cons,e a List.mem_cons_self,qby r fun x hx=>e x (List.mem_cons_of_mem _ hx)]
section
variable {P:Program} {w:World} {K:W.Frag} {mg:Str→Option Value} {base:Heap} {cc:Nat→Addr} {cw:Addr}
end
section
variable {P:Program} {w:World} {K:W.Frag} {mg:Str→Option Value} {base:Heap} {cc:Nat→Addr} {cw:Addr}
end
theorem zV {X:L2.Cx} {st:List PySem.Stmt} {t:L2.TS} (t':L2.TS) (h:L2.PSs X st t) (k:∀ D σ H,t' D σ H→t D σ H):L2.PSs X st t':=fun pins s σ H D I q=>h pins s σ H D I (k D σ H q)
section
variable {P:Program} {w:World} {K:W.Frag} {mg:Str→Option Value} {base:Heap} {cc:Nat→Addr} {cw:Addr}
end
theorem All2.app {α β:Type} {R:α→β→Prop} {l1 l2:List α} {m1 m2:List β} (h1:All2 R l1 m1) (h2:All2 R l2 m2):All2 R (l1++l2) (m1++m2):=by
 refine ⟨by rw [List.length_append,List.length_append,h1.len,h2.len],fun k a b ha hb=>?_⟩
 by_cases hk:k < l1.length
 ·rw [List.getElem?_append_left hk] at ha
  rw [List.getElem?_append_left (by rw [← h1.len];exact hk)] at hb
  exact h1.at_ k a b ha hb
 ·rw [List.getElem?_append_right (by omega)] at ha
  rw [List.getElem?_append_right (by rw [← h1.len];omega),← h1.len] at hb
  exact h2.at_ _ a b ha hb
section
variable {P:Program} {w:World} {K:W.Frag} {mg:Str→Option Value} {base:Heap} {cc:Nat→Addr} {cw:Addr}
end
def tiB (ups:List (Str×Str)) (a b:Str):Bool:=decide ((a,b)∈ups)||decide ((b,a)∈ups)
section
variable {P:Program} {w:World} {K:W.Frag} {mg:Str→Option Value} {base:Heap} {cc:Nat→Addr} {cw:Addr}
end
theorem sc_Walk_init:FnScope ["self", "web", "start"] ["self", "web", "start"] (qb jV):=⟨rfl,rfl,rfl,by decide +kernel,rfl,by decide +kernel,by decide +kernel⟩
theorem sc_Walk_web:FnScope ["self"] ["self"] (qb zh):=⟨rfl,rfl,rfl,by decide +kernel,rfl,by decide +kernel,by decide +kernel⟩
theorem sc_Walk_stands_at:FnScope ["self"] ["self"] (qb qX):=⟨rfl,rfl,rfl,by decide +kernel,rfl,by decide +kernel,by decide +kernel⟩
theorem sc_Walk_gone:FnScope ["self"] ["self"] (qb jW):=⟨rfl,rfl,rfl,by decide +kernel,rfl,by decide +kernel,by decide +kernel⟩
theorem sc_Walk_hand:FnScope ["self"] ["self"] (qb jX):=⟨rfl,rfl,rfl,by decide +kernel,rfl,by decide +kernel,by decide +kernel⟩
def PlayAt (cp cw:Addr) (H:Hp) (x b p:Addr) (ss:List Str) (ns:List Nat) (tr:List Str):Prop:=∃ dx,H x=some (.ins cp dx (jf "path" (.ref p) (jf "board" (.ref b) [])))∧H p=some (.lst (tr.map V.str))∧WebAt cw H b ss ns
theorem PlayAt.same {cp cw x b p:Addr} {H H':Hp} {ss:List Str} {ns:List Nat} {tr:List Str} (h:PlayAt cp cw H x b p ss ns tr) (s:L2.Same H H'):PlayAt cp cw H' x b p ss ns tr:=by
 obtain ⟨dx,h1,h2,h3⟩:=h
 exact ⟨dx,s _ _ h1,s _ _ h2,h3.same s⟩
theorem zy {p b:Addr}:List.lookup ("path":Str) (jf "path" (V.ref p) (jf "board" (V.ref b) []))=some (V.ref p):=by rw [qv,if_pos rfl]
theorem zW {p b:Addr}:List.lookup ("board":Str) (jf "path" (V.ref p) (jf "board" (V.ref b) []))=some (V.ref b):=by rw [qv,if_neg (by decide +kernel),qv,if_pos rfl]
theorem WebAt.but {cw b x c dx:Addr} {fs:List (Str×V)} {H H':Hp} {ss:List Str} {ns:List Nat} (h:WebAt cw H b ss ns) (hx:H x=some (.ins c dx fs)) (ne:b≠x) (k:But x H H'):WebAt cw H' b ss ns:=by
 obtain ⟨wx,d,ol,n,h1,h2,h3,h4,h5⟩:=h
 exact ⟨wx,d,ol,n,k _ _ ne h1,k _ _ (qat h2 hx (by intro z;cases z)) h2,k _ _ (qat h3 hx (by intro z;cases z)) h3,k _ _ (qat h4 hx (by intro z;cases z)) h4,h5⟩
def qem (cc:Nat→Addr) (cw:Addr):Sp:=fun vs H Q _=>∃ (x dx b:Addr) (st:Str) (ss:List Str) (ns:List Nat),vs=[.ref x,.ref b,.str st]∧H x=some (.ins (cc 9) dx [])∧WebAt cw H b ss ns∧st∈ss∧∀ (p:Addr) (H':Hp),But x H H'→H p=none→PlayAt (cc 9) cw H' x b p ss ns [st]→Q .non H'
section
variable {P:Program} {w:World} {K:W.Frag} {mg:Str→Option Value} {base:Heap} {cc:Nat→Addr} {cw:Addr}
theorem ok_wkI {f:Addr} {fd:FuncData} (F:Fun K "__init__" "Walk.__init__" jV f fd) (T:Txt K mg cc cw) (D_Web_has_place:MethOk P w K mg base CX0 3 cw "has_place" ["self", "thing"] (qfg cw)):FnOk P w K mg base CX0 5 f fd ["self", "web", "start"] (qem cc cw):=by
 refine F.ok sc_Walk_init (fun vs H Q E h=>?_) fun cdv A outer s H vs Q E hr h=>?_
 ·obtain ⟨x,dx,b,st,ss,ns,rfl,_⟩:=h;rfl
 ·obtain ⟨x,dx,b,st,ss,ns,rfl,hx,hW,hst,q⟩:=h
  have hu:=zZ hr
  refine ⟨_,(qe (qO (qZ (qI (jH D_Web_has_place (hmR hr) (pv 1) (qa (pv 2) qc)))) (qf qaX) qr)
 (qe (jU (K:=K) rfl (pv 0) (pv 1) rfl)
 (qf (jU (K:=K) rfl (pv 0) (js (qa (pv 2) qc)) rfl)))),?_⟩
  obtain ⟨wx,d,ol,n,hb,_,_,_,hw⟩:=id hW
  have hnm:=hw.nm _ hst
  have nbx:b≠x:=fun e=>by subst e;rw [hx] at hb;injection hb with hb;injection hb with _ _ hb;cases hb
  walk_at "vc"
  refine ⟨b,wx,_,rfl,hb,qag (by decide +kernel),?_⟩
  walk_at "vc"
  refine ⟨x,0,b,ss,ns,.str st,rfl,hW,Th.flat rfl (fun z e=>by cases e;have:=jv hnm;omega),fun H1 s1=>?_⟩
  rw [zg hst hnm]
  walk_at "vc"
  refine qQ (fun h=>by cases h) fun _=>?_
  walk_at "vc"
  refine .inl ⟨x,cc 9,dx,[],rfl,s1 _ _ hx,T.pcl,T.pb,by decide,?_⟩
  have b1:=((But.refl x H).same s1).put (o:=.ins (cc 9) dx (jf "board" (.ref b) []))
  have hx1:upd H1 x (.ins (cc 9) dx (jf "board" (.ref b) [])) x=some (.ins (cc 9) dx (jf "board" (.ref b) [])):=qd
  generalize upd H1 x (.ins (cc 9) dx (jf "board" (.ref b) []))=H2 at b1 hx1 ⊢
  walk_at "vc"
  refine ⟨by show 1≤sizeLine;decide,fun p hp=>?_⟩
  have npx:p≠x:=fun e=>by rw [e,hx1] at hp;cases hp
  have hp0:H p=none:=by
   cases e:H p with
   | none=>rfl
   | some o=>rw [b1 p o npx e] at hp;cases hp
  have b2:=b1.new (o:=.lst [.str st]) hp
  have hx2:upd H2 p (.lst [.str st]) x=some (.ins (cc 9) dx (jf "board" (.ref b) [])):=by rw [qi npx.symm];exact hx1
  have ep:upd H2 p (.lst [.str st]) p=some (.lst [.str st]):=qd
  generalize upd H2 p (.lst [.str st])=H3 at b2 hx2 ep ⊢
  walk_at "vc"
  refine .inl ⟨x,cc 9,dx,_,rfl,hx2,T.pcl,T.pp,Nat.lt_of_le_of_lt (jt _ _ _) (by decide),?_⟩
  have b3:=b2.put (o:=.ins (cc 9) dx (jf "path" (.ref p) (jf "board" (.ref b) [])))
  exact q p _ b3 hp0 ⟨dx,qd,by rw [qi npx];exact ep,hW.but hx nbx b3⟩
def qg3 (cc:Nat→Addr) (cw:Addr):Sp:=fun vs H Q _=>∃ (x b p:Addr) (ss:List Str) (ns:List Nat) (tr:List Str),vs=[.ref x]∧PlayAt (cc 9) cw H x b p ss ns tr∧Q (.ref b) H
def qgv (cc:Nat→Addr) (cw:Addr):Sp:=fun vs H Q _=>∃ (x b p:Addr) (ss:List Str) (ns:List Nat) (tr:List Str) (z:Str),vs=[.ref x]∧PlayAt (cc 9) cw H x b p ss ns tr∧tr.getLast?=some z∧Q (.str z) H
def qg4 (cc:Nat→Addr) (cw:Addr):Sp:=fun vs H Q _=>∃ (x b p:Addr) (ss:List Str) (ns:List Nat) (tr:List Str),vs=[.ref x]∧PlayAt (cc 9) cw H x b p ss ns tr∧∀ l,H l=none→Q (.ref l) (upd H l (.lst (tr.map V.str)))
def qgw (cc:Nat→Addr) (cw:Addr):Sp:=fun vs H Q _=>∃ (x b p:Addr) (ss:List Str) (ns:List Nat) (tr:List Str),vs=[.ref x]∧PlayAt (cc 9) cw H x b p ss ns tr∧Q (.int (((tr.length:Int) - 1) % 2)) H
theorem last_at {xs:List Str} {z:Str} (h:xs.getLast?=some z):atI (xs.map V.str) (-1)=some (.str z):=by
 have e:(xs.map V.str).getLast?=some (.str z):=by rw [List.getLast?_map,h];rfl
 rw [List.getLast?_eq_getElem?] at e
 have hl:=(List.getElem?_eq_some_iff.mp e).1
 unfold atI ixN
 rw [if_neg (by decide),if_pos (by omega)]
 have e2:(-1 + ((xs.map V.str).length:Int)).toNat=(xs.map V.str).length - 1:=by omega
 show (xs.map V.str)[(-1 + ((xs.map V.str).length:Int)).toNat]?=_
 rw [e2]
 exact e
theorem ok_pw {f:Addr} {fd:FuncData} (F:Fun K "web" "Walk.web" zh f fd) (T:Txt K mg cc cw):FnOk P w K mg base CX0 1 f fd ["self"] (qg3 cc cw):=by
 refine F.ok sc_Walk_web (fun vs H Q E h=>?_) fun cdv A outer s H vs Q E hr h=>?_
 ·obtain ⟨x,b,p,ss,ns,tr,rfl,_⟩:=h;rfl
 ·obtain ⟨x,b,p,ss,ns,tr,rfl,⟨dx,hx,hp,hW⟩,q⟩:=h
  refine ⟨_,(qf (qm (qT (K:=K) rfl (pv 0) rfl))),?_⟩
  walk_at "vc"
  exact .inl ⟨x,cc 9,dx,_,.ref b,rfl,hx,T.pcl,T.pb,zW,q⟩
theorem ok_ps {f:Addr} {fd:FuncData} (F:Fun K "stands_at" "Walk.stands_at" qX f fd) (T:Txt K mg cc cw):FnOk P w K mg base CX0 1 f fd ["self"] (qgv cc cw):=by
 refine F.ok sc_Walk_stands_at (fun vs H Q E h=>?_) fun cdv A outer s H vs Q E hr h=>?_
 ·obtain ⟨x,b,p,ss,ns,tr,z,rfl,_⟩:=h;rfl
 ·obtain ⟨x,b,p,ss,ns,tr,z,rfl,⟨dx,hx,hp,hW⟩,hz,q⟩:=h
  have hu:=zZ hr
  refine ⟨_,(qf (qm (qD (qE (K:=K) rfl hu) (qT (K:=K) rfl (pv 0) rfl) (qdD qbX qg) (fun _ _=>rfl)))),?_⟩
  walk_at "vc"
  refine .inl ⟨x,cc 9,dx,_,.ref p,rfl,hx,T.pcl,T.pp,zy,?_⟩
  walk_at "vc"
  refine vU ?_
  exact .inl (qaC hp (last_at hz) q)
theorem ok_pgn {f:Addr} {fd:FuncData} (F:Fun K "gone" "Walk.gone" jW f fd) (T:Txt K mg cc cw):FnOk P w K mg base CX0 1 f fd ["self"] (qg4 cc cw):=by
 refine F.ok sc_Walk_gone (fun vs H Q E h=>?_) fun cdv A outer s H vs Q E hr h=>?_
 ·obtain ⟨x,b,p,ss,ns,tr,rfl,_⟩:=h;rfl
 ·obtain ⟨x,b,p,ss,ns,tr,rfl,⟨dx,hx,hp,hW⟩,q⟩:=h
  refine ⟨_,(qf (qm (qG (qav (K:=K) rfl rfl) rfl T.b_list boot_list (qa (qT (K:=K) rfl (pv 0) rfl) qc)))),?_⟩
  walk_at "vc"
  refine .inl ⟨x,cc 9,dx,_,.ref p,rfl,hx,T.pcl,T.pp,zy,?_⟩
  walk_at "vc"
  exact .inl ⟨p,_,rfl,.inl (SqL.of hp),q⟩
theorem ok_ph {f:Addr} {fd:FuncData} (F:Fun K "hand" "Walk.hand" jX f fd) (T:Txt K mg cc cw):FnOk P w K mg base CX0 1 f fd ["self"] (qgw cc cw):=by
 refine F.ok sc_Walk_hand (fun vs H Q E h=>?_) fun cdv A outer s H vs Q E hr h=>?_
 ·obtain ⟨x,b,p,ss,ns,tr,rfl,_⟩:=h;rfl
 ·obtain ⟨x,b,p,ss,ns,tr,rfl,⟨dx,hx,hp,hW⟩,q⟩:=h
  refine ⟨_,(qf (qm (qB j5 (qB qcR (qp (zC (K:=K) rfl) rfl T.b_len boot_len (qa (qT (K:=K) rfl (pv 0) rfl) qc)) qg) qg))),?_⟩
  walk_at "vc"
  refine .inl ⟨x,cc 9,dx,_,.ref p,rfl,hx,T.pcl,T.pp,zy,?_⟩
  walk_at "vc"
  refine qaV hp ?_
  rw [List.length_map]
  walk_at "vc"
  exact vI (by decide) q
end
theorem sc_Walk_back:FnScope ["self"] ["self"] (qb jY):=⟨rfl,rfl,rfl,by decide +kernel,rfl,by decide +kernel,by decide +kernel⟩
def ngS (tr xs:List Str):List Str:=xs.filter fun o=>!decide (o∈tr)
def mvS (ss:List Str) (ns:List Nat) (tr:List Str) (z:Str):List Str:=ngS tr (inB ss 0 (ns.getD (ss.idxOf z) 0))
def qfS (cc:Nat→Addr) (cw:Addr):Sp:=fun vs H Q _=>∃ (x b p:Addr) (ss:List Str) (ns:List Nat) (tr:List Str) (z:Str),vs=[.ref x]∧PlayAt (cc 9) cw H x b p ss ns (tr++[z])∧tr≠[]∧tr.length≤100∧Q (.str z) (upd H p (.lst (tr.map V.str)))
theorem qH {f:Str} {p b:V} (h:(f=="path"||f=="board")=false):List.lookup f (jf "path" p (jf "board" b []))=none:=by
 simp only [Bool.or_eq_false_iff,beq_eq_false_iff_ne] at h
 rw [qv,if_neg h.1,qv,if_neg h.2]
 rfl
section
variable {P:Program} {w:World} {K:W.Frag} {mg:Str→Option Value} {base:Heap} {cc:Nat→Addr} {cw:Addr}
theorem ok_pbk {f:Addr} {fd:FuncData} (F:Fun K "back" "Walk.back" jY f fd) (T:Txt K mg cc cw):FnOk P w K mg base CX0 1 f fd ["self"] (qfS cc cw):=by
 refine F.ok sc_Walk_back (fun vs H Q E h=>?_) fun cdv A outer s H vs Q E hr h=>?_
 ·obtain ⟨x,b,p,ss,ns,tr,z,rfl,_⟩:=h;rfl
 ·obtain ⟨x,b,p,ss,ns,tr,z,rfl,hP,hne,l100,q⟩:=h
  obtain ⟨dx,hx,hp,hW⟩:=id hP
  have hu:=zZ hr
  refine ⟨_,(qe (qO (qu (zT (K:=K) rfl hu) (qp (zC (K:=K) rfl) rfl T.b_len boot_len (qa (qT (K:=K) rfl (pv 0) rfl) qc)) qg (qy _)) (qf qaX) qr)
 (qf (qm (qfb (K:=K) rfl PySem.F.plainAttrs_list PySem.F.slot_list_pop PySem.F.type_list_pop qcF (qT (K:=K) rfl (pv 0) rfl))))),?_⟩
  walk_at "vc"
  refine .inl ⟨x,cc 9,dx,_,.ref p,rfl,hx,T.pcl,T.pp,zy,?_⟩
  walk_at "vc"
  refine qaV hp ?_
  walk_at "vc"
  refine .inl (.inl (.inl ⟨rfl,rfl,?_⟩))
  walk_at "vc"
  have htl:0 < tr.length:=List.length_pos_iff.mpr hne
  refine qQ (fun h=>?_) fun _=>?_
  ·have h:eqV (V.int ((tr++[z]).map V.str).length) (V.int 1)=true:=h
   rw [List.length_map,List.length_append] at h
   have h:((tr.length + 1:Nat):Int)=1:=by simpa [eqV] using h
   omega
  walk_at "vc"
  refine .inl ⟨x,cc 9,dx,_,.ref p,rfl,hx,T.pcl,T.pp,zy,?_⟩
  walk_at "vc"
  refine ⟨.inl ⟨rfl,_,SqL.of hp⟩,?_⟩
  refine ⟨p,_,.str z,rfl,rfl,hp,by simp,?_⟩
  rw [show ((tr++[z]).map V.str).dropLast=tr.map V.str by simp]
  exact q
end
theorem WG.ris {ss:List Str} {ns:List Nat} {dps:List (Str×Str)} (hw:WOk ss ns) (h:WG ss ns dps):qbj ss dps ss=dps:=(qdf hw h.tok h.adj).symm.trans h.due
theorem WG.of {ss:List Str} {ns:List Nat} {tps ups:List (Str×Str)} (hw:WOk ss ns) (hT:TOk ss tps) (sh:Shuf tps ups) (hb:qaf ss ns ups) (hr:qbj ss tps ss=tps):WG ss ns tps:=
 ⟨hT,qeP sh hb,(qdf hw hT (qeP sh hb)).trans hr⟩
theorem WebN.ok {H0:Hp} {cw x:Addr} {H:Hp} {ss:List Str} {ns:List Nat} (h:WebN H0 cw H x ss ns):WOk ss ns:=by
 obtain ⟨_,_,_,_,_,_,_,_,z,_⟩:=h;exact z
theorem WebAt.ok {cw x:Addr} {H:Hp} {ss:List Str} {ns:List Nat} (h:WebAt cw H x ss ns):WOk ss ns:=by
 obtain ⟨_,_,_,_,_,_,_,_,z⟩:=h;exact z
section
variable {P:Program} {w:World} {K:W.Frag} {mg:Str→Option Value} {base:Heap} {cc:Nat→Addr} {cw:Addr}
end
structure RowOk (ss:List Str) (ns:List Nat) (tr:List Str):Prop where
 ne:tr≠[]
 few:tr.length≤100
 ins:∀ s∈tr,s∈ss
 mv:∀ (i:Nat) z v,tr[i]?=some z→tr[i + 1]?=some v→v∈mvS ss ns (tr.take (i + 1)) z
theorem same_but {p:Addr} {H H1 H2:Hp} (s:L2.Same H H1) (b:But p H1 H2) (hp:H p=none):L2.Same H H2:=fun c o e=>b c o (fun z=>by rw [z,hp] at e;cases e) (s c o e)
section
variable {P:Program} {w:World} {K:W.Frag} {mg:Str→Option Value} {base:Heap} {cc:Nat→Addr} {cw:Addr}
end
section
variable {P:Program} {w:World} {K:W.Frag} {mg:Str→Option Value} {base:Heap} {cc:Nat→Addr} {cw:Addr}
end
theorem qdg {K:W.Frag} {H:Hp} {m:Nat} {ss:List Str}:∀ x∈ss.map V.str,EqD K H m x x true:=fun x hx=>by
 obtain ⟨s,_,rfl⟩:=List.mem_map.mp hx
 have e:=EqD.flat (K:=K) (H:=H) (n:=m) (x:=.str s) (y:=.str s) rfl rfl
 rw [qbK,decide_eq_true rfl] at e
 exact e
theorem qdh {K:W.Frag} {H:Hp} {n:Nat} {a b:Addr} {xs ys:List V} (ha:H a=some (.tup xs)) (hb:H b=some (.tup ys)) (hl:xs.length=ys.length) (he:∀ (j:Nat) x y,xs[j]?=some x→ys[j]?=some y→EqD K H n x y true):EqT K H (n + 1) a b true:=by
 have z:=EqT.tup (K:=K) (H:=H) (n:=n) (e:=fun _=>true) (SqT.of ha) (SqT.of hb) he
 rw [hl,Nat.min_self,beq_self_eq_true,Bool.and_true,qa3] at z
 exact z
structure Duo (ss:List Str) (ns:List Nat) (dps ups:List (Str×Str)):Prop where
 wg:WG ss ns dps
 ti:∀ a b,tiB ups a b=tiB dps a b
theorem qeQ {K:W.Frag} {H:Hp} {a b:Addr} {ss:List Str} (ha:H a=some (.lst (ss.map V.str))) (hb:H b=some (.lst (ss.map V.str))):EqT K H 1 a b true:=by
 have z:=EqT.lst (K:=K) (H:=H) (n:=0) (e:=fun _=>true) (SqL.of ha) (SqL.of hb) rfl fun j x y h1 h2=>by
  rw [h1] at h2
  cases h2
  exact qdg x (List.mem_of_getElem? h1)
 rw [qa3] at z
 exact z
section
variable {P:Program} {w:World} {K:W.Frag} {mg:Str→Option Value} {base:Heap} {cc:Nat→Addr} {cw:Addr}
end
theorem qdi {K:W.Frag} {H:Hp} {a e:Addr} {xs:List Str} (ha:H a=some (.lst (xs.map V.str))) (he:H e=some (.lst [])):EqT K H 1 a e (decide (xs=[])):=by
 cases xs with
 | nil =>
  have z':=EqT.lst (K:=K) (H:=H) (n:=0) (e:=fun _=>true) (SqL.of ha) (SqL.of he) rfl fun j x y h1 h2=>by simp at h1
  rw [qa3] at z'
  exact z'
 | cons s r=>exact .lstL (SqL.of ha) (SqL.of he) (by simp)
def losV (n:Nat) (e:Bool):V:=if e=true then .int (((n:Int) - 1) % 2) else .non
section
variable {P:Program} {w:World} {K:W.Frag} {mg:Str→Option Value} {base:Heap} {cc:Nat→Addr} {cw:Addr}
end
theorem sc_is_whole:FnScope ["thing"] ["thing"] (qb zi):=⟨rfl,rfl,rfl,by decide +kernel,rfl,by decide +kernel,by decide +kernel⟩
theorem sc_is_within:FnScope ["thing", "low", "high"] ["thing", "low", "high"] (qb jZ):=⟨rfl,rfl,rfl,by decide +kernel,rfl,by decide +kernel,by decide +kernel⟩
def qeR:V→Bool
 | .int _=>true
 | _=>false
def qbn (lo hi:Int):V→Bool
 | .int i=>decide (lo≤i)&&decide (i≤hi)
 | _=>false
def qg5:Sp:=fun vs H Q _=>∃ (q:Addr) (k:Nat) (v:V),vs=[v]∧Th q H k v∧Q (.bl (qeR v)) H
def qgx:Sp:=fun vs H Q _=>∃ (q:Addr) (k:Nat) (v:V) (lo hi:Int),vs=[v,.int lo,.int hi]∧Th q H k v∧Q (.bl (qbn lo hi v)) H
section
variable {P:Program} {w:World} {K:W.Frag} {mg:Str→Option Value} {base:Heap} {cc:Nat→Addr} {cw:Addr}
theorem Th.whole {q:Addr} {H:Hp} {k:Nat} {v:V} (h:Th q H k v):∃ t,TyOf K H v (.type t)∧W.kitOne K (.type t) (.type "int")=some (qca t "int")∧W.kitOne K (.type t) (.type "bool")=some (qca t "bool")∧qeR v=(qca t "int"&&!qca t "bool"):=by
 have go:∀ t∈["NoneType", "bool", "int", "str", "list", "tuple", "dict"],W.kitOne K (.type t) (.type "int")=some (qca t "int")∧W.kitOne K (.type t) (.type "bool")=some (qca t "bool"):=fun t ht=>⟨j8 K t ht "int" (by simp),j8 K t ht "bool" (by simp)⟩
 cases h with
 | flat f l =>
  cases v with
  | non=>exact ⟨"NoneType",.non,(go _ (by simp)).1,(go _ (by simp)).2,rfl⟩
  | bl x=>exact ⟨"bool",.bl x,(go _ (by simp)).1,(go _ (by simp)).2,rfl⟩
  | int x=>exact ⟨"int",.int x,(go _ (by simp)).1,(go _ (by simp)).2,rfl⟩
  | str x=>exact ⟨"str",.str x,(go _ (by simp)).1,(go _ (by simp)).2,rfl⟩
  | _=>cases f
 | lst e ne h l=>exact ⟨"list",.lst e,(go _ (by simp)).1,(go _ (by simp)).2,rfl⟩
 | tup e ne h l=>exact ⟨"tuple",.tup e,(go _ (by simp)).1,(go _ (by simp)).2,rfl⟩
 | dct e ne=>exact ⟨"dict",.dK e,(go _ (by simp)).1,(go _ (by simp)).2,rfl⟩
theorem ok_wh {f:Addr} {fd:FuncData} (F:Fun K "is_whole" "is_whole" zi f fd) (T:Txt K mg cc cw):FnOk P w K mg base CX0 1 f fd ["thing"] qg5:=by
 refine F.ok sc_is_whole (fun vs H Q E h=>?_) fun cdv A outer s H vs Q E hr h=>?_
 ·obtain ⟨q,k,v,rfl,_⟩:=h;rfl
 ·obtain ⟨q,k,v,rfl,hv,hq⟩:=h
  have hu:=zZ hr
  obtain ⟨t,ty,k1,k2,ew⟩:=hv.whole (K:=K)
  rw [ew] at hq
  refine ⟨_,(qf (qm (qar (qp (zY (K:=K) rfl) rfl T.b_isinstance boot_isinstance (qa (pv 0) (qa (jC (v:=.ty "int") rfl T.b_int boot_int rfl) qc))) (qaq (qcN (qp (zY (K:=K) rfl) rfl T.b_isinstance boot_isinstance (qa (pv 0) (qa (jC (v:=.ty "bool") rfl T.b_bool boot_bool rfl) qc)))))))),?_⟩
  walk_at "vc"
  refine qaP (.inl ty) rfl k1 ?_
  walk_at "vc"
  cases e1:qca t "int" with
  | false =>
   rw [e1] at hq
   exact qQ (fun h=>by cases h) fun _=>hq
  | true =>
   rw [e1] at hq
   refine qau ?_
   walk_at "vc"
   refine qaP (.inl ty) rfl k2 ?_
   exact ⟨_,rfl,hq⟩
theorem ok_in {f:Addr} {fd:FuncData} (F:Fun K "is_within" "is_within" jZ f fd) (D_is_whole:DefOk P w K mg base CX0 1 "is_whole" ["thing"] qg5):FnOk P w K mg base CX0 2 f fd ["thing", "low", "high"] qgx:=by
 refine F.ok sc_is_within (fun vs H Q E h=>?_) fun cdv A outer s H vs Q E hr h=>?_
 ·obtain ⟨q,k,v,lo,hi,rfl,_⟩:=h;rfl
 ·obtain ⟨q,k,v,lo,hi,rfl,hv,hq⟩:=h
  refine ⟨_,(qf (qm (qar (qq D_is_whole (hmR hr) qx (qa (pv 0) qc)) (qaq (qcS qfs qfs (pv 1) (pv 0) (pv 2)))))),?_⟩
  walk_at "vc"
  refine ⟨q,k,v,rfl,hv,?_⟩
  walk_at "vc"
  cases v with
  | int i =>
   refine qau ?_
   walk_at "vc"
   have hq:Q (.bl (decide (lo≤i)&&decide (i≤hi))) H:=hq
   cases e1:decide (lo≤i) with
   | false =>
    rw [e1] at hq
    exact qQ (fun h=>by cases h) fun _=>hq
   | true =>
    rw [e1] at hq
    refine qau ?_
    walk_at "vc"
    exact hq
  | _=>exact qQ (fun h=>by cases h) fun _=>hq
end
theorem sc_Road_ties_gone:FnScope ["self"] ["self"] (qb qM):=⟨rfl,rfl,rfl,by decide +kernel,rfl,by decide +kernel,by decide +kernel⟩
theorem sc_Road_tie_between:FnScope ["self", "one", "other", "rising"] ["self", "one", "other"] (qb qK):=⟨rfl,rfl,rfl,by decide +kernel,rfl,by decide +kernel,by decide +kernel⟩
def tbN (ss:List Str) (a b:Str):Str×Str:=if ss.idxOf a < ss.idxOf b then (a,b) else (b,a)
def gnN (ss:List Str):List Str→List (Str×Str)
 | a::b::r=>tbN ss a b::gnN ss (b::r)
 | _=>[]
def rmN (ss:List Str) (ns:List Nat) (tr:List Str) (z:Str):List Str:=(inB ss 0 (ns.getD (ss.idxOf z) 0)).filter fun o=>!decide (tbN ss z o∈gnN ss tr)
theorem qdj (ss:List Str):∀ (tr:List Str) (i:Nat) (a b:Str),tr[i]?=some a→(tr.tail)[i]?=some b→(gnN ss tr).take (i + 1)=(gnN ss tr).take i++[tbN ss a b]
 | [],i,a,b,h,_=>by simp at h
 | [x],i,a,b,_,h=>by simp at h
 | x::y::r,0,a,b,h1,h2=>by
  simp at h1 h2
  subst h1 h2
  rfl
 | x::y::r,i + 1,a,b,h1,h2=>by
  have:=qdj ss (y::r) i a b (by simpa using h1) (by simpa using h2)
  show tbN ss x y::(gnN ss (y::r)).take (i + 1)=tbN ss x y::((gnN ss (y::r)).take i++[tbN ss a b])
  rw [this]
theorem qbO (ss:List Str):∀ tr:List Str,(gnN ss tr).length=tr.length - 1
 | []=>rfl
 | [x]=>rfl
 | x::y::r=>by
  show (gnN ss (y::r)).length + 1=_
  rw [qbO ss (y::r)]
  simp
def qgy (cc:Nat→Addr) (cw:Addr):Sp:=fun vs H Q _=>∃ (x b p:Addr) (ss:List Str) (ns:List Nat) (tr:List Str) (u v:Str),vs=[.ref x,.str u,.str v]∧PlayAt (cc 9) cw H x b p ss ns tr∧u∈ss∧v∈ss ∧
 ∀ (t:Addr) (H':Hp),L2.Same H H'→H t=none→H' t=some (.tup [.str (tbN ss u v).1,.str (tbN ss u v).2])→Q (.ref t) H'
def qgb (cc:Nat→Addr) (cw:Addr):Sp:=fun vs H Q _=>∃ (x b p:Addr) (ss:List Str) (ns:List Nat) (tr:List Str),vs=[.ref x]∧PlayAt (cc 9) cw H x b p ss ns tr∧tr.length≤100∧(∀ s∈tr,s∈ss) ∧
 ∀ (l:Addr) (ts:List Addr) (H':Hp),L2.Same H H'→H l=none→(∀ t∈ts,H t=none∧t≠l)→PL H' l ts (gnN ss tr)→Q (.ref l) H'
def qfT (cc:Nat→Addr) (cw:Addr):Sp:=fun vs H Q _=>∃ (x b p:Addr) (ss:List Str) (ns:List Nat) (tr:List Str) (z:Str),vs=[.ref x]∧PlayAt (cc 9) cw H x b p ss ns tr∧tr.length≤100∧(∀ s∈tr,s∈ss)∧tr.getLast?=some z ∧
 ∀ (r:Addr) (H':Hp),L2.Same H H'→H r=none→H' r=some (.lst ((rmN ss ns tr z).map V.str))→Q (.ref r) H'
def qfk (cc:Nat→Addr) (cw:Addr):Sp:=fun vs H Q _=>∃ (x b p:Addr) (ss:List Str) (ns:List Nat) (tr:List Str),vs=[.ref x]∧PlayAt (cc 9) cw H x b p ss ns tr∧tr.length≤100∧(∀ s∈tr,s∈ss) ∧
 ∀ (l:Addr) (ts:List Addr) (H':Hp),L2.Same H H'→H l=none→ts.length≤196→(∀ t∈ts,H t=none∧t≠l)→PL H' l ts ((qah ss ns ss.length).filter fun t=>!decide (t∈gnN ss tr))→Q (.ref l) H'
theorem qeS {K:W.Frag} {H:Hp} {l a:Addr} {ts:List Addr} {tps:List (Str×Str)} {s t:Str} {Q:VK} (h:PL H l ts tps) (ha:H a=some (.tup [.str s,.str t])) (q:Q (.bl (!decide ((s,t)∈tps))) H):qfO K true (.ref a) (.ref l) H Q:=by
 have z:=pl_in (K:=K) (Q:=fun v H'=>v=.bl (decide ((s,t)∈tps))∧H'=H) h ha ⟨rfl,rfl⟩
 rcases z with ⟨p,xs,e1,_,e2,_⟩ | ⟨p,o,e,g,e2,_⟩ | ⟨p,xs,e,n,e1,e2,e3,e4,e5,_⟩
 ·cases e2
 ·cases e
  rcases g with ⟨kvs,k,e | ⟨o',e⟩,_⟩ | ⟨kvs,k,b,e | ⟨o',e⟩,_⟩<;>(rw [h.1] at e;cases e)
 ·refine .inr (.inr ⟨p,xs,e,n,e1,e2,e3,e4,?_⟩)
  have e6:xs.any e=decide ((s,t)∈tps):=by
   have:=e5
   rw [if_neg (by decide)] at this
   cases e7:xs.any e<;>cases e8:decide ((s,t)∈tps)<;>rw [e7,e8] at this<;>first | rfl | (cases this)
  rw [if_pos rfl,e6]
  exact q
section
variable {P:Program} {w:World} {K:W.Frag} {mg:Str→Option Value} {base:Heap} {cc:Nat→Addr} {cw:Addr}
theorem ok_tb {f:Addr} {fd:FuncData} (F:Fun K "tie_between" "Road.tie_between" qK f fd) (T:Txt K mg cc cw) (QD_Web_number_of:MethOk P w K mg base CX0 4 cw "number_of" ["self", "place"] (fun vs H Q _=>qfh cc cw vs H Q E0)):FnOk P w K mg base CX0 5 f fd ["self", "one", "other"] (qgy cc cw):=by
 refine F.ok sc_Road_tie_between (fun vs H Q E h=>?_) fun cdv A outer s H vs Q E hr h=>?_
 ·obtain ⟨x,b,p,ss,ns,tr,u,v,rfl,_⟩:=h;rfl
 ·obtain ⟨x,b,p,ss,ns,tr,u,v,rfl,hP,hus,hvs,q⟩:=h
  obtain ⟨dx,hx,hp,hW⟩:=id hP
  obtain ⟨wx,d,ol,n,hb,_,_,_,hw⟩:=id hW
  have ix:∀ z,z∈ss→ss[ss.idxOf z]?=some z:=fun z hz=>by rw [List.getElem?_eq_getElem (List.idxOf_lt_length_of_mem hz)];exact congrArg some (List.getElem_idxOf _)
  have hun:=hw.nm _ hus
  have hvn:=hw.nm _ hvs
  refine ⟨_,(qe (qw (i:=3) sc_Road_tie_between.nd rfl (Or.inl rfl) (jT qdq (jH QD_Web_number_of (hmR hr) (qT (K:=K) rfl (pv 0) rfl) (qa (pv 1) qc)) (jH QD_Web_number_of (hmR hr) (qT (K:=K) rfl (pv 0) rfl) (qa (pv 2) qc)) (qy _)))
 (qf (qm (qcO (qI (pv 3)) (jD (qa (pv 1) (qa (pv 2) qc))) (jD (qa (pv 2) (qa (pv 1) qc))))))),?_⟩
  walk_at "vc"
  refine .inl ⟨x,cc 9,dx,_,.ref b,rfl,hx,T.pcl,T.pb,zW,?_⟩
  walk_at "vc"
  refine ⟨b,wx,_,rfl,hb,qag (by decide +kernel),?_⟩
  walk_at "vc"
  refine ⟨x,0,b,ss,ns,.str u,rfl,hW,Th.flat rfl (fun z e=>by cases e;have:=jv hun;omega),(fun e=>by rw [zg hus hun] at e;cases e),fun j hj _ H1 s1=>?_⟩
  have ej:j=ss.idxOf u:=qA hw.nd hj (ix u hus)
  subst ej
  walk_at "vc"
  refine .inl ⟨x,cc 9,dx,_,.ref b,rfl,s1 _ _ hx,T.pcl,T.pb,zW,?_⟩
  walk_at "vc"
  refine ⟨b,wx,_,rfl,s1 _ _ hb,qag (by decide +kernel),?_⟩
  walk_at "vc"
  refine ⟨x,0,b,ss,ns,.str v,rfl,hW.same s1,Th.flat rfl (fun z e=>by cases e;have:=jv hvn;omega),(fun e=>by rw [zg hvs hvn] at e;cases e),fun j hj _ H2 s2=>?_⟩
  have ej:j=ss.idxOf v:=qA hw.nd hj (ix v hvs)
  subst ej
  walk_at "vc"
  have s12:=s1.trans s2
  have et:decide ((ss.idxOf u:Int) < (ss.idxOf v:Int))=decide (ss.idxOf u < ss.idxOf v):=by
   congr 1
   apply propext
   omega
  rw [et]
  unfold tbN at q
  by_cases h:ss.idxOf u < ss.idxOf v
  ·rw [if_pos h] at q
   rw [decide_eq_true h]
   refine qau ?_
   walk_at "vc"
   exact ⟨by show 2≤sizeLine;decide,fun t ht=>q t _ (qF s12 ht) (s12.free ht) qd⟩
  ·rw [if_neg h] at q
   rw [decide_eq_false h]
   refine qQ (fun h=>by cases h) fun _=>?_
   walk_at "vc"
   exact ⟨by show 2≤sizeLine;decide,fun t ht=>q t _ (qF s12 ht) (s12.free ht) qd⟩
theorem ok_tg {f:Addr} {fd:FuncData} (F:Fun K "ties_gone" "Road.ties_gone" qM f fd) (T:Txt K mg cc cw) (D_Road_tie_between:MethOk P w K mg base CX0 5 (cc 9) "tie_between" ["self", "one", "other"] (qgy cc cw)):FnOk P w K mg base CX0 6 f fd ["self"] (qgb cc cw):=by
 refine F.ok sc_Road_ties_gone (fun vs H Q E h=>?_) fun cdv A outer s H vs Q E hr h=>?_
 ·obtain ⟨x,b,p,ss,ns,tr,rfl,_⟩:=h;rfl
 ·obtain ⟨x,b,p,ss,ns,tr,rfl,hP,l100,hall,q⟩:=h
  obtain ⟨dx,hx,hp,hW⟩:=id hP
  refine ⟨_,(qf (qm (zj (sc:=qb qM) (XN:=["self"]) ["one", "other", "self"] 2 [0] rfl rfl rfl (by decide +kernel) rfl (by decide +kernel)
  (qdW (K:=K) rfl rfl T.b_zip (qa (qT (K:=K) rfl (pv 0) rfl) (qa (qak (qfu (K:=K) rfl) (qT (K:=K) rfl (pv 0) rfl) (zN qg) qbG) qc))) (fun _ _ _ _=>(qax (n:=2) rfl (qS (qt (i:=0) (show (["one", "other", "self"]:List Str).Nodup by decide +kernel) rfl (Or.inl rfl)) (qS (qt (i:=1) (show (["one", "other", "self"]:List Str).Nodup by decide +kernel) rfl (Or.inl rfl)) zL)))) qbf
  (fun _ _ _ _=>zS)
  (fun _ _ _ _=>(jH D_Road_tie_between (hmR hr) (pv 2) (qa (pv 0) (qa (pv 1) qc))))))),?_⟩
  walk_at "vc"
  refine qgr ?_
  walk_at "vc"
  refine .inl ⟨x,cc 9,dx,_,.ref p,rfl,hx,T.pcl,T.pp,zy,?_⟩
  walk_at "vc"
  refine .inl ⟨x,cc 9,dx,_,.ref p,rfl,hx,T.pcl,T.pp,zy,?_⟩
  walk_at "vc"
  refine .inl ⟨p,_,rfl,SqL.of hp,fun d hd=>?_⟩
  have ec:qbH (tr.map V.str) (some 1) none=tr.tail.map V.str:=by
   have:=qcd (tr.map V.str) 1
   rw [← List.map_drop,List.drop_one] at this
   exact this
  rw [ec]
  have s1:=qF (L2.Same.refl H) (o:=.lst (tr.tail.map V.str)) hd
  have hd1:upd H d (.lst (tr.tail.map V.str)) d=some (.lst (tr.tail.map V.str)):=qd
  generalize upd H d (.lst (tr.tail.map V.str))=H1 at s1 hd1
  walk_at "vc"
  refine ⟨p,d,_,_,rfl,SqL.of (s1 _ _ hp),SqL.of hd1,qc6 (xs:=tr.map V.str) (ys:=tr.tail.map V.str) (by simp) (fun i zs J=>L2.Same H1 J∧∃ ts:List Addr,zs=ts.map V.ref∧(∀ t∈ts,H t=none)∧All2 (fun t ab=>J t=some (.tup [.str ab.1,.str ab.2])) ts ((gnN ss tr).take i)) ⟨L2.Same.refl H1,[],rfl,fun t ht=>(by cases ht),.nil⟩ (fun i zs J _ hp'=>⟨SqL.of (hp'.1 _ _ (s1 _ _ hp)),SqL.of (hp'.1 _ _ hd1)⟩) (fun i u v t zs J hu1 hv1 ht hp'=>?_) fun zs J hp'=>?_⟩
  ·obtain ⟨s2,ts,rfl,hts,hA⟩:=hp'
   rw [List.getElem?_map] at hu1 hv1
   obtain ⟨u,hu2,rfl⟩:=Option.map_eq_some_iff.mp hu1
   obtain ⟨v,hv2,rfl⟩:=Option.map_eq_some_iff.mp hv1
   clear hu1 hv1
   have s3:=qF s2 (o:=.tup [.str u,.str v]) ht
   have s23:=qF (L2.Same.refl J) (o:=.tup [.str u,.str v]) ht
   refine ⟨t,_,rfl,.of qd,rfl,_,_,rfl,_,_,rfl,rfl,?_⟩
   generalize upd J t (.tup [.str u,.str v])=J3 at s3 s23
   walk_at "vc"
   refine qau ?_
   walk_at "vc"
   have hP3:=hP.same (s1.trans s3)
   refine ⟨x,dx,_,rfl,(s1.trans s3) _ _ hx,qH (by decide +kernel),?_⟩
   walk_at "vc"
   refine ⟨x,b,p,ss,ns,tr,u,v,rfl,hP3,hall u (List.mem_of_getElem? hu2),hall v (List.mem_of_mem_tail (List.mem_of_getElem? hv2)),fun t2 J4 s4 ht20 ht2=>?_⟩
   have hlen:ts.length≤100:=by rw [hA.len,List.length_take,qbO];omega
   refine ⟨by rw [List.length_map];exact qk (by omega),s3.trans s4,ts++[t2],by rw [List.map_append];rfl,fun t' ht'=>?_,?_⟩
   ·rcases List.mem_append.mp ht' with z | z
    ·exact hts t' z
    ·rw [List.mem_singleton.mp z];exact (s1.trans s3).free ht20
   ·rw [qdj ss tr i u v hu2 hv2]
    exact (hA.mono fun t' ab z=>s4 _ _ (s23 _ _ z)).snoc ht2
  ·obtain ⟨s2,ts,rfl,hts,hA⟩:=hp'
   have e:(tr.tail.map V.str).length=(gnN ss tr).length:=by rw [List.length_map,List.length_tail,qbO]
   rw [e,List.take_length] at hA
   have hlen:ts.length≤100:=by rw [hA.len,qbO];omega
   refine ⟨by rw [List.length_map];exact Nat.le_of_lt (qk (by omega)),fun l hl=>?_⟩
   refine q l ts _ (qF (s1.trans s2) hl) ((s1.trans s2).free hl) (fun t ht=>⟨hts t ht,fun z=>?_⟩) ⟨qd,hA.mono fun t ab z=>qF (L2.Same.refl J) hl _ _ z⟩
   obtain ⟨ab,_,e⟩:=hA.mem ht
   rw [z,hl] at e
   cases e
end
theorem sc_Walk_ended:FnScope ["self"] ["self"] (qb jO):=⟨rfl,rfl,rfl,by decide +kernel,rfl,by decide +kernel,by decide +kernel⟩
theorem sc_Walk_loser:FnScope ["self"] ["self"] (qb jP):=⟨rfl,rfl,rfl,by decide +kernel,rfl,by decide +kernel,by decide +kernel⟩
theorem sc_Walk_move_to:FnScope ["self", "thing"] ["self", "thing"] (qb jq):=⟨rfl,rfl,rfl,by decide +kernel,rfl,by decide +kernel,by decide +kernel⟩
theorem sc_Road_ties_left:FnScope ["self", "gone"] ["self"] (qb qN):=⟨rfl,rfl,rfl,by decide +kernel,rfl,by decide +kernel,by decide +kernel⟩
theorem sc_Road_moves:FnScope ["self", "place", "gone"] ["self"] (qb jw):=⟨rfl,rfl,rfl,by decide +kernel,rfl,by decide +kernel,by decide +kernel⟩
theorem sc_Road_go:FnScope ["self", "place"] ["self", "place"] (qb zG):=⟨rfl,rfl,rfl,by decide +kernel,rfl,by decide +kernel,by decide +kernel⟩
structure RoadAt (cc:Nat→Addr) (cw:Addr) (H:Hp) (x b p:Addr) (ss:List Str) (ns:List Nat) (tr:List Str) (z:Str):Prop where
 pl:PlayAt (cc 9) cw H x b p ss ns tr
 len:tr.length≤100
 all:∀ s∈tr,s∈ss
 last:tr.getLast?=some z
theorem RoadAt.same {cc:Nat→Addr} {cw:Addr} {H H':Hp} {x b p:Addr} {ss:List Str} {ns:List Nat} {tr:List Str} {z:Str} (h:RoadAt cc cw H x b p ss ns tr z) (s:L2.Same H H'):RoadAt cc cw H' x b p ss ns tr z:=⟨h.pl.same s,h.len,h.all,h.last⟩
def qdA (cc:Nat→Addr) (cw:Addr):Sp:=fun vs H Q _=>∃ (x b p:Addr) (ss:List Str) (ns:List Nat) (tr:List Str) (z v:Str),vs=[.ref x,.str v]∧RoadAt cc cw H x b p ss ns tr z∧v∈rmN ss ns tr z∧∀ H',But p H H'→H' p=some (.lst ((tr++[v]).map V.str))→Q .non H'
def qd7 (cc:Nat→Addr) (cw:Addr):Sp:=fun vs H Q _=>∃ (x b p:Addr) (ss:List Str) (ns:List Nat) (tr:List Str) (z:Str),vs=[.ref x]∧RoadAt cc cw H x b p ss ns tr z∧∀ H',L2.Same H H'→Q (.bl (decide (rmN ss ns tr z=[]))) H'
def qeT (cc:Nat→Addr) (cw:Addr):Sp:=fun vs H Q _=>∃ (x b p:Addr) (ss:List Str) (ns:List Nat) (tr:List Str) (z:Str),vs=[.ref x]∧RoadAt cc cw H x b p ss ns tr z∧∀ H',L2.Same H H'→Q (losV tr.length (decide (rmN ss ns tr z=[]))) H'
def qfl (cc:Nat→Addr) (cw:Addr):Sp:=fun vs H Q _=>∃ (x b p:Addr) (ss:List Str) (ns:List Nat) (tr:List Str) (z:Str) (dps:List (Str×Str)),vs=[.ref x]∧RoadAt cc cw H x b p ss ns tr z∧WG ss ns dps ∧
 ∀ (x':Addr) (ns':List Nat) (H':Hp),L2.Same H H'→H x'=none→WebAt cw H' x' ss ns'→WG ss ns' (dps.filter fun t=>!decide (t∈gnN ss tr))→Q (.ref x') H'
theorem ris_filter {ss:List Str} {dps:List (Str×Str)} (hr:qbj ss dps ss=dps) (q:Str×Str→Bool):qbj ss (dps.filter q) ss=dps.filter q:=by
 conv=>rhs;rw [← hr]
 unfold qbj
 rw [qbm]
 refine qby ss fun a _=>?_
 unfold qaT
 rw [List.filter_map,List.filter_filter]
 congr 1
 refine List.filter_congr fun o _=>?_
 rw [Function.comp]
 by_cases h:(a,o)∈dps
 ·cases hq:q (a,o) with
  | true=>rw [decide_eq_true h,decide_eq_true (List.mem_filter.mpr ⟨h,hq⟩)];rfl
  | false=>rw [decide_eq_false fun z=>by have:=(List.mem_filter.mp z).2;rw [hq] at this;cases this];rfl
 ·rw [decide_eq_false h,decide_eq_false fun z=>h (List.mem_filter.mp z).1,Bool.and_false]
theorem TOk.filter {ss:List Str} {dps:List (Str×Str)} (h:TOk ss dps) (q:Str×Str→Bool):TOk ss (dps.filter q):=⟨Nat.le_trans (List.length_filter_le _ _) h.few,fun ab hab=>h.ok ab (List.mem_filter.mp hab).1,h.nd.filter _⟩
section
variable {P:Program} {w:World} {K:W.Frag} {mg:Str→Option Value} {base:Heap} {cc:Nat→Addr} {cw:Addr}
theorem ok_tlf {f:Addr} {fd:FuncData} (F:Fun K "ties_left" "Road.ties_left" qN f fd) (T:Txt K mg cc cw) (D_Road_ties_gone:MethOk P w K mg base CX0 6 (cc 9) "ties_gone" ["self"] (qgb cc cw)) (D_Web_ties:MethOk P w K mg base CX0 7 cw "ties" ["self"] (qgu cw)):FnOk P w K mg base CX0 8 f fd ["self"] (qfk cc cw):=by
 refine F.ok sc_Road_ties_left (fun vs H Q E h=>?_) fun cdv A outer s H vs Q E hr h=>?_
 ·obtain ⟨x,b,p,ss,ns,tr,rfl,_⟩:=h;rfl
 ·obtain ⟨x,b,p,ss,ns,tr,rfl,hP,l100,hall,q⟩:=h
  obtain ⟨dx,hx,hp,hW⟩:=id hP
  obtain ⟨wx,d,ol,n,hb,_,_,_,hw⟩:=id hW
  have hu:=zZ hr
  refine ⟨_,(qe (qw (i:=1) sc_Road_ties_left.nd rfl (Or.inr rfl) (qo D_Road_ties_gone (hmR hr) (pv 0)))
 (qf (qm (zj (sc:=qb qN) (XN:=["self", "gone"]) ["tie", "gone"] 1 [1] rfl rfl rfl (by decide +kernel) rfl (by decide +kernel)
  (j7 (K:=K) rfl (qo D_Web_ties (hmR hr) (qT (K:=K) rfl (pv 0) rfl))) (fun _ _ _ _=>(qt (i:=0) (show (["tie", "gone"]:List Str).Nodup by decide +kernel) rfl (Or.inl rfl))) zR
  (fun _ _ _ _=>(zb (qu (qal (K:=K) rfl hu) (pv 0) (pv 1) (by with_unfolding_all rfl))))
  (fun _ _ _ _=>(pv 0)))))),?_⟩
  walk_at "vc"
  refine ⟨x,dx,_,rfl,hx,qH (by decide +kernel),?_⟩
  walk_at "vc"
  refine ⟨x,b,p,ss,ns,tr,rfl,hP,l100,hall,fun l ts H1 s1 hl0 hts hPL=>?_⟩
  walk_at "vc"
  refine .inl ⟨x,cc 9,dx,_,.ref b,rfl,s1 _ _ hx,T.pcl,T.pb,zW,?_⟩
  walk_at "vc"
  refine ⟨b,wx,_,rfl,s1 _ _ hb,qag (by decide +kernel),?_⟩
  walk_at "vc"
  refine ⟨b,ss,ns,rfl,hW.same s1,fun r us H2 s2 hr0 hr2 hus hA=>?_⟩
  have hPL2:=hPL.same s2
  generalize qah ss ns ss.length=dps at hA q
  refine .inl ⟨⟨_,.of hr2⟩,jl (xs:=us.map V.ref) (fun i ys J=>J=H2∧∃ vs:List Addr,ys=vs.map V.ref∧vs.length≤i∧(∀ t∈vs,t∈us)∧All2 (fun t ab=>H2 t=some (.tup [.str ab.1,.str ab.2])) vs ((dps.take i).filter fun t=>!decide (t∈gnN ss tr))) ⟨rfl,[],rfl,Nat.le_refl _,fun t ht=>(by cases ht),.nil⟩ (fun i ys J _ hp'=>by rw [hp'.1];exact .of hr2) (fun i x' ys J hx' hp'=>?_) fun ys J hp'=>?_⟩
  ·obtain ⟨rfl,vs,rfl,hvl,hvs,hvA⟩:=hp'
   rw [List.getElem?_map] at hx'
   obtain ⟨t,ht,rfl⟩:=Option.map_eq_some_iff.mp hx'
   have hi:i < dps.length:=by rw [← hA.len];exact (List.getElem?_eq_some_iff.mp ht).1
   obtain ⟨ab,hab⟩:∃ ab,dps[i]?=some ab:=⟨_,List.getElem?_eq_getElem hi⟩
   have htA:=(hA.at_ i t ab ht hab).2.2
   rw [List.take_add_one,hab,List.filter_append]
   walk_at "vc"
   refine qeS hPL2 htA ?_
   walk_at "vc"
   refine qQ (fun h=>?_) (fun h=>?_)
   ·walk_at "vc"
    refine ⟨by rw [List.length_map];exact qk (by rw [hA.len] at hus;omega),rfl,vs++[t],by rw [List.map_append];rfl,by rw [List.length_append];simp;omega,fun t' ht'=>?_,?_⟩
    ·rcases List.mem_append.mp ht' with z | z
     ·exact hvs t' z
     ·rw [List.mem_singleton.mp z];exact List.mem_of_getElem? ht
    ·have e:([ab].filter fun t=>!decide (t∈gnN ss tr))=[ab]:=by rw [List.filter_cons,if_pos h];rfl
     show All2 _ _ (_++([ab].filter fun t=>!decide (t∈gnN ss tr)))
     rw [e]
     exact hvA.snoc htA
   ·refine ⟨rfl,vs,rfl,by omega,hvs,?_⟩
    have e:([ab].filter fun t=>!decide (t∈gnN ss tr))=[]:=by rw [List.filter_cons,if_neg h];rfl
    show All2 _ _ (_++([ab].filter fun t=>!decide (t∈gnN ss tr)))
    rw [e,List.append_nil]
    exact hvA
  ·obtain ⟨rfl,vs,rfl,hvl,hvs,hvA⟩:=hp'
   have e:(us.map V.ref).length=dps.length:=by rw [List.length_map,hA.len]
   rw [e,List.take_length] at hvA
   rw [List.length_map] at hvl
   refine ⟨by rw [List.length_map];exact Nat.le_of_lt (qk (by omega)),fun l2 hl2=>?_⟩
   have s12:=s1.trans s2
   refine q l2 vs _ (qF s12 hl2) (s12.free hl2) (by omega) (fun t ht=>?_) ⟨qd,hvA.mono fun t ab z=>qF (L2.Same.refl J) hl2 _ _ z⟩
   obtain ⟨ab,_,h1,_,h3⟩:=hA.mem (hvs t ht)
   exact ⟨s1.free h1,fun z=>by rw [z,hl2] at h3;cases h3⟩
theorem ok_rm {f:Addr} {fd:FuncData} (F:Fun K "moves" "Road.moves" jw f fd) (T:Txt K mg cc cw) (D_Walk_stands_at:MethOk P w K mg base CX0 1 (cc 9) "stands_at" ["self"] (qgv cc cw)) (D_Road_ties_gone:MethOk P w K mg base CX0 6 (cc 9) "ties_gone" ["self"] (qgb cc cw)) (QD_Web_beside:MethOk P w K mg base CX0 6 cw "beside" ["self", "place"] (fun vs H Q _=>qgt cc cw vs H Q E0))
  (D_Road_tie_between:MethOk P w K mg base CX0 5 (cc 9) "tie_between" ["self", "one", "other"] (qgy cc cw)):FnOk P w K mg base CX0 7 f fd ["self"] (qfT cc cw):=by
 refine F.ok sc_Road_moves (fun vs H Q E h=>?_) fun cdv A outer s H vs Q E hr h=>?_
 ·obtain ⟨x,b,p,ss,ns,tr,z,rfl,_⟩:=h;rfl
 ·obtain ⟨x,b,p,ss,ns,tr,z,rfl,hP,l100,hall,hz,q⟩:=h
  obtain ⟨dx,hx,hp,hW⟩:=id hP
  have hu:=zZ hr
  refine ⟨_,(qe (qw (i:=1) sc_Road_moves.nd rfl (Or.inr rfl) (qo D_Walk_stands_at (hmR hr) (pv 0)))
 (qe (qw (i:=2) sc_Road_moves.nd rfl (Or.inr rfl) (qo D_Road_ties_gone (hmR hr) (pv 0)))
 (qf (qm (zj (sc:=qb jw) (XN:=["self", "place", "gone"]) ["name", "gone", "place", "self"] 1 [2,1,0] rfl rfl rfl (by decide +kernel) rfl (by decide +kernel)
  (j7 (K:=K) rfl (jH QD_Web_beside (hmR hr) (qT (K:=K) rfl (pv 0) rfl) (qa (pv 1) qc))) (fun _ _ _ _=>(qt (i:=0) (show (["name", "gone", "place", "self"]:List Str).Nodup by decide +kernel) rfl (Or.inl rfl))) zR
  (fun _ _ _ _=>(zb (qu (qal (K:=K) rfl hu) (jH D_Road_tie_between (hmR hr) (pv 3) (qa (pv 2) (qa (pv 0) qc))) (pv 1) (by with_unfolding_all rfl))))
  (fun _ _ _ _=>(pv 0))))))),?_⟩
  obtain ⟨wx,d,ol,n,hb,_,_,_,hw⟩:=id hW
  have hzs:z∈ss:=hall z (List.mem_of_getLast? hz)
  have hnm:=hw.nm _ hzs
  have hix:ss[ss.idxOf z]?=some z:=by rw [List.getElem?_eq_getElem (List.idxOf_lt_length_of_mem hzs)];exact congrArg some (List.getElem_idxOf _)
  walk_at "vc"
  refine ⟨x,dx,_,rfl,hx,qH (by decide +kernel),?_⟩
  walk_at "vc"
  refine ⟨x,b,p,ss,ns,tr,z,rfl,hP,hz,?_⟩
  walk_at "vc"
  refine ⟨x,dx,_,rfl,hx,qH (by decide +kernel),?_⟩
  walk_at "vc"
  refine ⟨x,b,p,ss,ns,tr,rfl,hP,l100,hall,fun g ts H1 s1 hg0 hts hPL=>?_⟩
  walk_at "vc"
  refine .inl ⟨x,cc 9,dx,_,.ref b,rfl,s1 _ _ hx,T.pcl,T.pb,zW,?_⟩
  walk_at "vc"
  refine ⟨b,wx,_,rfl,s1 _ _ hb,qag (by decide +kernel),?_⟩
  walk_at "vc"
  refine ⟨x,0,b,ss,ns,.str z,rfl,hW.same s1,Th.flat rfl (fun z e=>by cases e;have:=jv hnm;omega),(fun e=>by rw [zg hzs hnm] at e;cases e),fun j hj _ H2 s2 l hl=>?_⟩
  have ej:j=ss.idxOf z:=qA hw.nd hj hix
  subst ej
  have hins:∀ o∈inB ss 0 (ns.getD (ss.idxOf z) 0),o∈ss:=fun o ho=>(qd2 hw.nd ho).1
  have hil:(inB ss 0 (ns.getD (ss.idxOf z) 0)).length≤ss.length:=qbi _ _ _
  have few:=hw.few
  unfold rmN at q
  generalize inB ss 0 (ns.getD (ss.idxOf z) 0)=bs at hins hil q
  have s12:=qF (s1.trans s2) (o:=.lst (bs.map V.str)) hl
  have s23:=qF s2 (o:=.lst (bs.map V.str)) hl
  have el:upd H2 l (.lst (bs.map V.str)) l=some (.lst (bs.map V.str)):=qd
  generalize upd H2 l (.lst (bs.map V.str))=H3 at s12 s23 el
  have hPL3:=hPL.same s23
  walk_at "vc"
  refine .inl ⟨⟨_,.of el⟩,jl (xs:=bs.map V.str) (fun i ys J=>L2.Same H3 J∧ys=((bs.take i).filter fun o=>!decide (tbN ss z o∈gnN ss tr)).map V.str) ⟨L2.Same.refl H3,by simp⟩ (fun i ys J _ hp'=>.of (hp'.1 _ _ el)) (fun i x' ys J hx' hp'=>?_) fun ys J hp'=>?_⟩
  ·obtain ⟨s4,rfl⟩:=hp'
   rw [List.getElem?_map] at hx'
   obtain ⟨o,ho,rfl⟩:=Option.map_eq_some_iff.mp hx'
   walk_at "vc"
   have s34:=s12.trans s4
   refine ⟨x,dx,_,rfl,s34 _ _ hx,qH (by decide +kernel),?_⟩
   walk_at "vc"
   refine ⟨x,b,p,ss,ns,tr,z,o,rfl,hP.same s34,hzs,hins o (List.mem_of_getElem? ho),fun t J5 s5 ht0 ht5=>?_⟩
   walk_at "vc"
   refine qeS ((hPL3.same s4).same s5) ht5 ?_
   walk_at "vc"
   rw [List.take_add_one,ho,List.filter_append]
   have hfl:((bs.take i).filter fun o=>!decide (tbN ss z o∈gnN ss tr)).length≤14:=by
    have:=List.length_filter_le (fun o=>!decide (tbN ss z o∈gnN ss tr)) (bs.take i)
    rw [List.length_take] at this
    omega
   refine qQ (fun h=>?_) (fun h=>?_)
   ·walk_at "vc"
    refine ⟨by rw [List.length_map];exact qk (by omega),s4.trans s5,?_⟩
    have e:([o].filter fun o=>!decide (tbN ss z o∈gnN ss tr))=[o]:=by rw [List.filter_cons,if_pos h];rfl
    show _=(_++([o].filter fun o=>!decide (tbN ss z o∈gnN ss tr))).map V.str
    rw [e,List.map_append]
    rfl
   ·refine ⟨s4.trans s5,?_⟩
    have e:([o].filter fun o=>!decide (tbN ss z o∈gnN ss tr))=[]:=by rw [List.filter_cons,if_neg h];rfl
    show _=(_++([o].filter fun o=>!decide (tbN ss z o∈gnN ss tr))).map V.str
    rw [e,List.append_nil]
  ·obtain ⟨s4,rfl⟩:=hp'
   have e:(bs.map V.str).length=bs.length:=List.length_map ..
   rw [e,List.take_length]
   refine ⟨?_,fun r hr0=>?_⟩
   ·rw [List.length_map]
    have:=List.length_filter_le (fun o=>!decide (tbN ss z o∈gnN ss tr)) bs
    exact Nat.le_of_lt (qk (by omega))
   ·exact q r _ (qF (s12.trans s4) hr0) ((s12.trans s4).free hr0) qd
theorem ok_rmvt {f:Addr} {fd:FuncData} (F:Fun K "move_to" "Walk.move_to" jq f fd) (T:Txt K mg cc cw) (D_Road_moves:MethOk P w K mg base CX0 7 (cc 9) "moves" ["self"] (qfT cc cw)):FnOk P w K mg base CX0 8 f fd ["self", "thing"] (qdA cc cw):=by
 refine F.ok sc_Walk_move_to (fun vs H Q E h=>?_) fun cdv A outer s H vs Q E hr h=>?_
 ·obtain ⟨x,b,p,ss,ns,tr,z,v,rfl,_⟩:=h;rfl
 ·obtain ⟨x,b,p,ss,ns,tr,z,v,rfl,hP,hv,q⟩:=h
  obtain ⟨dx,hx,hp,hW⟩:=id hP.pl
  have hu:=zZ hr
  refine ⟨_,(qe (qO (qu (qal (K:=K) rfl hu) (pv 1) (qo D_Road_moves (hmR hr) (pv 0)) (by with_unfolding_all rfl)) (qf qaX) qr)
 (qf (qL (qdQ (K:=K) rfl PySem.F.plainAttrs_list PySem.F.slot_list_append PySem.F.type_list_append jg (qT (K:=K) rfl (pv 0) rfl) (qa (pv 1) qc))))),?_⟩
  walk_at "vc"
  refine ⟨x,dx,_,rfl,hx,qH (by decide +kernel),?_⟩
  walk_at "vc"
  refine ⟨x,b,p,ss,ns,tr,z,rfl,hP.pl,hP.len,hP.all,hP.last,fun r H1 s1 hr0 hr1=>?_⟩
  refine .inl ⟨r,_,rfl,.inl (SqL.of hr1),rfl,flat_strs _,?_⟩
  rw [inV_str]
  walk_at "vc"
  refine qQ (fun h=>?_) fun _=>?_
  ·have h:(!decide (v∈rmN ss ns tr z))=true:=h
   rw [decide_eq_true hv] at h
   cases h
  walk_at "vc"
  refine .inl ⟨x,cc 9,dx,_,.ref p,rfl,s1 _ _ hx,T.pcl,T.pp,zy,?_⟩
  walk_at "vc"
  refine ⟨.inl ⟨rfl,_,SqL.of (s1 _ _ hp)⟩,?_⟩
  walk_at "vc"
  refine ⟨p,_,_,rfl,rfl,s1 _ _ hp,by rw [List.length_map];have:=hP.len;exact qk (by omega),?_⟩
  exact q _ ((But.refl p H).same s1).put (by rw [qd,List.map_append];rfl)
theorem ok_rgo {f:Addr} {fd:FuncData} (F:Fun K "go" "Road.go" zG f fd) (T:Txt K mg cc cw) (D_Walk_move_to:MethOk P w K mg base CX0 8 (cc 9) "move_to" ["self", "thing"] (qdA cc cw)):FnOk P w K mg base CX0 9 f fd ["self", "place"] (qdA cc cw):=by
 refine F.ok sc_Road_go (fun vs H Q E h=>?_) fun cdv A outer s H vs Q E hr h=>?_
 ·obtain ⟨x,b,p,ss,ns,tr,z,v,rfl,_⟩:=h;rfl
 ·obtain ⟨x,b,p,ss,ns,tr,z,v,rfl,hP,hv,q⟩:=h
  obtain ⟨dx,hx,hp,hW⟩:=id hP.pl
  refine ⟨_,(qf (qL (jH D_Walk_move_to (hmR hr) (pv 0) (qa (pv 1) qc)))),?_⟩
  walk_at "vc"
  refine ⟨x,dx,_,rfl,hx,qH (by decide +kernel),?_⟩
  walk_at "vc"
  exact ⟨x,b,p,ss,ns,tr,z,v,rfl,hP,hv,q⟩
theorem ok_rend {f:Addr} {fd:FuncData} (F:Fun K "ended" "Walk.ended" jO f fd) (T:Txt K mg cc cw) (D_Road_moves:MethOk P w K mg base CX0 7 (cc 9) "moves" ["self"] (qfT cc cw)):FnOk P w K mg base CX0 8 f fd ["self"] (qd7 cc cw):=by
 refine F.ok sc_Walk_ended (fun vs H Q E h=>?_) fun cdv A outer s H vs Q E hr h=>?_
 ·obtain ⟨x,b,p,ss,ns,tr,z,rfl,_⟩:=h;rfl
 ·obtain ⟨x,b,p,ss,ns,tr,z,rfl,hP,q⟩:=h
  obtain ⟨dx,hx,hp,hW⟩:=id hP.pl
  have hu:=zZ hr
  refine ⟨_,(qf (qm (jT (zT (K:=K) rfl hu) (qo D_Road_moves (hmR hr) (pv 0)) (js qc) (qy _)))),?_⟩
  walk_at "vc"
  refine ⟨x,dx,_,rfl,hx,qH (by decide +kernel),?_⟩
  walk_at "vc"
  refine ⟨x,b,p,ss,ns,tr,z,rfl,hP.pl,hP.len,hP.all,hP.last,fun r H1 s1 hr0 hr1=>?_⟩
  walk_at "vc"
  refine ⟨by decide,fun e he=>?_⟩
  have s12:=qF (L2.Same.refl H1) (o:=.lst []) he
  refine .inl (.inl (.inr (.inl ⟨r,e,_,1,rfl,rfl,by decide,qdi (s12 _ _ hr1) qd,?_⟩)))
  exact q _ (s1.trans s12)
theorem ok_rlos {f:Addr} {fd:FuncData} (F:Fun K "loser" "Walk.loser" jP f fd) (T:Txt K mg cc cw) (D_Walk_ended:MethOk P w K mg base CX0 8 (cc 9) "ended" ["self"] (qd7 cc cw)) (D_Walk_hand:MethOk P w K mg base CX0 1 (cc 9) "hand" ["self"] (qgw cc cw)):FnOk P w K mg base CX0 9 f fd ["self"] (qeT cc cw):=by
 refine F.ok sc_Walk_loser (fun vs H Q E h=>?_) fun cdv A outer s H vs Q E hr h=>?_
 ·obtain ⟨x,b,p,ss,ns,tr,z,rfl,_⟩:=h;rfl
 ·obtain ⟨x,b,p,ss,ns,tr,z,rfl,hP,q⟩:=h
  obtain ⟨dx,hx,hp,hW⟩:=id hP.pl
  refine ⟨_,(qf (qm (qcO (qI (qo D_Walk_ended (hmR hr) (pv 0))) (qo D_Walk_hand (hmR hr) (pv 0)) qcL))),?_⟩
  walk_at "vc"
  refine ⟨x,dx,_,rfl,hx,qH (by decide +kernel),?_⟩
  walk_at "vc"
  refine ⟨x,b,p,ss,ns,tr,z,rfl,hP,fun H1 s1=>?_⟩
  replace q:=q H1 s1
  generalize decide (rmN ss ns tr z=[])=c at q ⊢
  walk_at "vc"
  cases c with
  | true =>
   refine qau ?_
   walk_at "vc"
   refine ⟨x,dx,_,rfl,s1 _ _ hx,qH (by decide +kernel),?_⟩
   walk_at "vc"
   exact ⟨x,b,p,ss,ns,tr,rfl,hP.pl.same s1,q⟩
  | false=>exact qQ (fun h=>by cases h) fun _=>q
end
theorem qbP {α:Type} (r:α→α→Prop) (irr:∀ a,¬ r a a) (asy:∀ a b,r a b→¬ r b a):∀ (l m:List α),l.Pairwise r→m.Pairwise r→(∀ x,x∈l↔x∈m)→l=m
 | [],[],_,_,_=>rfl
 | [],b::m,_,_,h=>by have:=(h b).mpr (List.mem_cons_self ..);cases this
 | a::l,[],_,_,h=>by have:=(h a).mp (List.mem_cons_self ..);cases this
 | a::l,b::m,hl,hm,h=>by
  have hl':=List.pairwise_cons.mp hl
  have hm':=List.pairwise_cons.mp hm
  have hab:a=b:=by
   rcases List.mem_cons.mp ((h a).mp (List.mem_cons_self ..)) with e | e
   ·exact e
   ·rcases List.mem_cons.mp ((h b).mpr (List.mem_cons_self ..)) with e2 | e2
    ·exact e2.symm
    ·exact absurd (hm'.1 a e) (asy _ _ (hl'.1 b e2))
  subst hab
  congr 1
  refine qbP r irr asy l m hl'.2 hm'.2 fun x=>⟨fun hx=>?_,fun hx=>?_⟩
  ·rcases List.mem_cons.mp ((h x).mp (List.mem_cons_of_mem _ hx)) with e | e
   ·subst e;exact absurd (hl'.1 x hx) (irr x)
   ·exact e
  ·rcases List.mem_cons.mp ((h x).mpr (List.mem_cons_of_mem _ hx)) with e | e
   ·subst e;exact absurd (hm'.1 x hx) (irr x)
   ·exact e
def tn (ss:List Str) (i:Nat):Str:=ss.getD i ""
def nmP (ss:List Str) (p:Nat×Nat):Str×Str:=(tn ss p.1,tn ss p.2)
def mmP (a b:Nat):Nat×Nat:=(min a b,max a b)
def gnI:List Nat→List (Nat×Nat)
 | a::b::r=>mmP a b::gnI (b::r)
 | _=>[]
def qfm (a b:Nat×Nat):Prop:=a.1 < b.1∨(a.1=b.1∧a.2 < b.2)
structure TIok (n:Nat) (TI:List (Nat×Nat)):Prop where
 few:TI.length≤30
 ok:∀ p∈TI,p.1 < p.2∧p.2 < n
 so:TI.Pairwise qfm
def mvI (n:Nat) (TI:List (Nat×Nat)) (tr:List Nat) (h:Nat):List Nat:=(List.range n).filter fun k=>decide (mmP h k∈TI)&&!decide (mmP h k∈gnI tr)
theorem qcH {ss:List Str} {i:Nat} (h:i < ss.length):ss[i]?=some (tn ss i):=by unfold tn;rw [List.getD_eq_getElem?_getD,List.getElem?_eq_getElem h];rfl
theorem qbz {ss:List Str} {i:Nat} (h:i < ss.length):tn ss i∈ss:=List.mem_of_getElem? (qcH h)
theorem qbA {ss:List Str} (hn:ss.Nodup) {i:Nat} (h:i < ss.length):ss.idxOf (tn ss i)=i:=by
 have h1:ss[ss.idxOf (tn ss i)]?=some (tn ss i):=by rw [List.getElem?_eq_getElem (List.idxOf_lt_length_of_mem (qbz h))];exact congrArg some (List.getElem_idxOf _)
 exact qA hn h1 (qcH h)
theorem qeU {ss:List Str} (hn:ss.Nodup) {i j:Nat} (hi:i < ss.length) (hj:j < ss.length) (e:tn ss i=tn ss j):i=j:=by rw [← qbA hn hi,← qbA hn hj,e]
theorem qeV (ss:List Str):(List.range ss.length).map (tn ss)=ss:=qbl ss
theorem qeW (ss:List Str) (q:Str→Bool):ss.filter q=((List.range ss.length).filter (q ∘ tn ss)).map (tn ss):=by
 conv=>lhs;arg 2;rw [← qeV ss]
 rw [List.filter_map]
theorem qeX {ss:List Str} (hn:ss.Nodup) {a b:Nat} (ha:a < ss.length) (hb:b < ss.length):tbN ss (tn ss a) (tn ss b)=nmP ss (mmP a b):=by
 unfold tbN nmP mmP
 rw [qbA hn ha,qbA hn hb]
 by_cases h:a < b
 ·rw [if_pos h,Nat.min_eq_left (by omega),Nat.max_eq_right (by omega)]
 ·rw [if_neg h,Nat.min_eq_right (by omega),Nat.max_eq_left (by omega)]
theorem qdk {ss:List Str} (hn:ss.Nodup):∀ {tr:List Nat},(∀ i∈tr,i < ss.length)→gnN ss (tr.map (tn ss))=(gnI tr).map (nmP ss)
 | [],_=>rfl
 | [a],_=>rfl
 | a::b::r,h=>by
  show tbN ss (tn ss a) (tn ss b)::gnN ss ((b::r).map (tn ss))=nmP ss (mmP a b)::(gnI (b::r)).map (nmP ss)
  rw [qdk hn fun i hi=>h i (List.mem_cons_of_mem _ hi),qeX hn (h a (List.mem_cons_self ..)) (h b (List.mem_cons_of_mem _ (List.mem_cons_self ..)))]
theorem qen {n:Nat}:∀ {tr:List Nat},(∀ i∈tr,i < n)→∀ p∈gnI tr,p.1 < n∧p.2 < n
 | [],_,p,h=>by cases h
 | [a],_,p,h=>by cases h
 | a::b::r,ht,p,h=>by
  rcases List.mem_cons.mp (show p∈mmP a b::gnI (b::r) from h) with e | e
  ·have h1:=ht a (List.mem_cons_self ..)
   have h2:=ht b (List.mem_cons_of_mem _ (List.mem_cons_self ..))
   subst e
   show min a b < n∧max a b < n
   omega
  ·exact qen (fun i hi=>ht i (List.mem_cons_of_mem _ hi)) p e
theorem qbB:∀ tr:List Nat,(gnI tr).length=tr.length - 1
 | []=>rfl
 | [a]=>rfl
 | a::b::r=>by
  show (gnI (b::r)).length + 1=_
  rw [qbB (b::r)]
  simp
theorem qd8:∀ (tr:List Nat) (i:Nat) (a b:Nat),tr[i]?=some a→(tr.tail)[i]?=some b→(gnI tr).take (i + 1)=(gnI tr).take i++[mmP a b]
 | [],i,a,b,h,_=>by simp at h
 | [x],i,a,b,_,h=>by simp at h
 | x::y::r,0,a,b,h1,h2=>by
  simp at h1 h2
  subst h1 h2
  rfl
 | x::y::r,i + 1,a,b,h1,h2=>by
  have:=qd8 (y::r) i a b (by simpa using h1) (by simpa using h2)
  show mmP x y::(gnI (y::r)).take (i + 1)=mmP x y::((gnI (y::r)).take i++[mmP a b])
  rw [this]
theorem qeY {ss:List Str} (hn:ss.Nodup) {p q:Nat×Nat} (hp:p.1 < ss.length∧p.2 < ss.length) (hq:q.1 < ss.length∧q.2 < ss.length) (e:nmP ss p=nmP ss q):p=q:=by
 have e1:tn ss p.1=tn ss q.1:=congrArg Prod.fst e
 have e2:tn ss p.2=tn ss q.2:=congrArg Prod.snd e
 exact Prod.ext (qeU hn hp.1 hq.1 e1) (qeU hn hp.2 hq.2 e2)
theorem qcm {ss:List Str} (hn:ss.Nodup) {p:Nat×Nat} {l:List (Nat×Nat)} (hp:p.1 < ss.length∧p.2 < ss.length) (hl:∀ q∈l,q.1 < ss.length∧q.2 < ss.length):nmP ss p∈l.map (nmP ss)↔p∈l:=by
 constructor
 ·intro h
  obtain ⟨q,hq,e⟩:=List.mem_map.mp h
  rw [← qeY hn (hl q hq) hp e]
  exact hq
 ·exact fun h=>List.mem_map.mpr ⟨p,h,rfl⟩
theorem TIok.two {n:Nat} {TI:List (Nat×Nat)} (h:TIok n TI):∀ q∈TI,q.1 < n∧q.2 < n:=fun q hq=>by have:=h.ok q hq;omega
theorem qd9 (a:Nat×Nat):¬ qfm a a:=fun h=>by rcases h with h | ⟨_,h⟩<;>omega
theorem lex_asy (a b:Nat×Nat):qfm a b→¬ qfm b a:=fun h h'=>by rcases h with h | ⟨e,h⟩<;>rcases h' with h' | ⟨e',h'⟩<;>omega
theorem TIok.nd {n:Nat} {TI:List (Nat×Nat)} (h:TIok n TI):TI.Nodup:=h.so.imp fun {a b} hab e=>by subst e;exact qd9 _ hab
theorem TIok.tok {ss:List Str} (hn:ss.Nodup) {TI:List (Nat×Nat)} (h:TIok ss.length TI):TOk ss (TI.map (nmP ss)):=by
 refine ⟨by rw [List.length_map];exact h.few,fun ab hab=>?_,?_⟩
 ·obtain ⟨p,hp,rfl⟩:=List.mem_map.mp hab
  have:=h.ok p hp
  exact ⟨p.1,p.2,this.1,qcH (by omega),qcH this.2⟩
 ·refine List.pairwise_map.mpr (h.nd.imp_of_mem fun {a b} ha hb hne e=>hne ?_)
  exact qeY hn (h.two a ha) (h.two b hb) e
theorem ris_idx {ss:List Str} (hn:ss.Nodup) {TI:List (Nat×Nat)} (h:TIok ss.length TI):qbj ss (TI.map (nmP ss)) ss=TI.map (nmP ss):=by
 have e1:qbj ss (TI.map (nmP ss)) ss=(((List.range ss.length).flatMap fun i=>((List.range ss.length).filter fun j=>decide ((i,j)∈TI)).map fun j=>(i,j))).map (nmP ss):=by
  unfold qbj
  conv=>lhs;arg 2;rw [← qeV ss]
  rw [List.flatMap_map,List.map_flatMap]
  have fcong:∀ (l:List Nat) (f g:Nat→List (Str×Str)),(∀ a∈l,f a=g a)→l.flatMap f=l.flatMap g:=by
   intro l f g hfg
   induction l with
   | nil=>rfl
   | cons a l ih=>rw [List.flatMap_cons,List.flatMap_cons,hfg a (List.mem_cons_self ..),ih fun x hx=>hfg x (List.mem_cons_of_mem _ hx)]
  refine fcong _ _ _ fun i hi=>?_
  have hi:=List.mem_range.mp hi
  unfold qaT
  rw [qeW,List.map_map,List.map_map]
  have e:(List.range ss.length).filter ((fun o=>decide ((tn ss i,o)∈TI.map (nmP ss))) ∘ tn ss)=(List.range ss.length).filter fun j=>decide ((i,j)∈TI):=by
   refine List.filter_congr fun j hj=>?_
   have hj:=List.mem_range.mp hj
   exact decide_eq_decide.mpr (qcm hn (p:=(i,j)) ⟨hi,hj⟩ h.two)
  rw [e]
  rfl
 rw [e1]
 congr 1
 refine qbP qfm qd9 lex_asy _ _ ?_ h.so fun p=>?_
 ·rw [List.pairwise_flatMap]
  refine ⟨fun i _=>?_,?_⟩
  ·refine List.pairwise_map.mpr ?_
   exact (List.pairwise_lt_range.sublist List.filter_sublist).imp fun hab=>.inr ⟨rfl,hab⟩
  ·refine List.pairwise_lt_range.imp fun {a b} hab x hx y hy=>?_
   obtain ⟨j,_,rfl⟩:=List.mem_map.mp hx
   obtain ⟨k,_,rfl⟩:=List.mem_map.mp hy
   exact .inl hab
 ·rw [List.mem_flatMap]
  constructor
  ·rintro ⟨i,_,hp⟩
   obtain ⟨j,hj,rfl⟩:=List.mem_map.mp hp
   exact of_decide_eq_true (List.mem_filter.mp hj).2
  ·intro hp
   have h2:=h.two p hp
   exact ⟨p.1,List.mem_range.mpr h2.1,List.mem_map.mpr ⟨p.2,List.mem_filter.mpr ⟨List.mem_range.mpr h2.2,decide_eq_true hp⟩,rfl⟩⟩
theorem qeZ {ss:List Str} {ns:List Nat} {TI:List (Nat×Nat)} {tr:List Nat} {h:Nat} (hw:WOk ss ns) (hG:WG ss ns (TI.map (nmP ss))) (hT:TIok ss.length TI) (htr:∀ i∈tr,i < ss.length) (hh:h < ss.length) :
  rmN ss ns (tr.map (tn ss)) (tn ss h)=(mvI ss.length TI tr h).map (tn ss):=by
 unfold rmN mvI
 rw [qbA hw.nd hh,qaQ hw.nd,List.filter_filter,qdk hw.nd htr]
 rw [qeW]
 congr 1
 refine List.filter_congr fun k hk=>?_
 have hk:=List.mem_range.mp hk
 show (!decide (tbN ss (tn ss h) (tn ss k)∈(gnI tr).map (nmP ss))&&(ns.getD h 0).testBit (ss.idxOf (tn ss k)))=_
 have hmm:(mmP h k).1 < ss.length∧(mmP h k).2 < ss.length:=by unfold mmP;dsimp only;omega
 rw [qbA hw.nd hk,qeX hw.nd hh hk,Bool.and_comm]
 congr 1
 ·have ha:=hG.adj h k (tn ss h) (tn ss k) (qcH hh) (qcH hk)
  have e:((tn ss h,tn ss k)∈TI.map (nmP ss)∨(tn ss k,tn ss h)∈TI.map (nmP ss))↔mmP h k∈TI:=by
   have m1:=qcm hw.nd (p:=(h,k)) ⟨hh,hk⟩ hT.two
   have m2:=qcm hw.nd (p:=(k,h)) ⟨hk,hh⟩ hT.two
   rw [show (tn ss h,tn ss k)=nmP ss (h,k) from rfl,show (tn ss k,tn ss h)=nmP ss (k,h) from rfl,m1,m2]
   unfold mmP
   by_cases hlt:h < k
   ·rw [Nat.min_eq_left (by omega),Nat.max_eq_right (by omega)]
    refine ⟨fun z=>z.elim id fun z=>?_,.inl⟩
    have:=hT.ok _ z
    dsimp only at this
    omega
   ·rw [Nat.min_eq_right (by omega),Nat.max_eq_left (by omega)]
    refine ⟨fun z=>z.elim (fun z=>?_) id,.inr⟩
    have:=hT.ok _ z
    dsimp only at this
    omega
  rw [e] at ha
  cases eb:(ns.getD h 0).testBit k with
  | true=>exact (decide_eq_true (ha.mp eb)).symm
  | false=>exact (decide_eq_false fun z=>by rw [ha.mpr z] at eb;cases eb).symm
 ·congr 1
  exact decide_eq_decide.mpr (qcm hw.nd hmm (qen htr))
theorem qcI {ss:List Str} (hn:ss.Nodup) {TI:List (Nat×Nat)} {tr:List Nat} (hT:TIok ss.length TI) (htr:∀ i∈tr,i < ss.length) :
  (TI.map (nmP ss)).filter (fun t=>!decide (t∈gnN ss (tr.map (tn ss))))=(TI.filter fun p=>!decide (p∈gnI tr)).map (nmP ss):=by
 rw [List.filter_map,qdk hn htr]
 congr 1
 refine List.filter_congr fun p hp=>?_
 show (!decide (nmP ss p∈(gnI tr).map (nmP ss)))=_
 congr 1
 exact decide_eq_decide.mpr (qcm hn (hT.two p hp) (qen htr))
def bsI (TI:List (Nat×Nat)) (tr:List Nat) (h:Nat):List Int:=(TI.filter fun p=>(decide (h=p.1)||decide (h=p.2))&&!decide (p∈gnI tr)).map fun p=>(p.1:Int) + (p.2:Int) - (h:Int)
theorem bs_sorted {n:Nat} {TI:List (Nat×Nat)} {tr:List Nat} {h:Nat} (hT:TIok n TI) {ms:List Int} (hp:ms.Perm (bsI TI tr h)) (hs:ms.Pairwise (·≤·)):ms=(mvI n TI tr h).map fun k:Nat=>(k:Int):=by
 have oth:∀ p∈TI,(h=p.1∨h=p.2)→∃ k:Nat,(p.1:Int) + p.2 - h=(k:Int)∧p=mmP h k∧k < n:=fun p hp he=>by
  have:=hT.ok p hp
  rcases he with e | e
  ·exact ⟨p.2,by omega,by unfold mmP;rw [Nat.min_eq_left (by omega),Nat.max_eq_right (by omega),e],by omega⟩
  ·exact ⟨p.1,by omega,by unfold mmP;rw [Nat.min_eq_right (by omega),Nat.max_eq_left (by omega),e],by omega⟩
 have hmem:∀ x,x∈bsI TI tr h↔x∈(mvI n TI tr h).map fun k:Nat=>(k:Int):=fun x=>by
  unfold bsI mvI
  rw [List.mem_map,List.mem_map]
  constructor
  ·rintro ⟨p,hp',rfl⟩
   obtain ⟨h1,h2⟩:=List.mem_filter.mp hp'
   rw [Bool.and_eq_true,Bool.or_eq_true,decide_eq_true_iff,decide_eq_true_iff] at h2
   obtain ⟨k,e1,e2,e3⟩:=oth p h1 h2.1
   refine ⟨k,List.mem_filter.mpr ⟨List.mem_range.mpr e3,?_⟩,e1.symm⟩
   rw [← e2,decide_eq_true h1,h2.2]
   rfl
  ·rintro ⟨k,hk,rfl⟩
   obtain ⟨h1,h2⟩:=List.mem_filter.mp hk
   rw [Bool.and_eq_true,decide_eq_true_iff] at h2
   have h3:h=(mmP h k).1∨h=(mmP h k).2:=by unfold mmP;dsimp only;omega
   refine ⟨mmP h k,List.mem_filter.mpr ⟨h2.1,?_⟩,?_⟩
   ·rw [h2.2,Bool.and_true,Bool.or_eq_true,decide_eq_true_iff,decide_eq_true_iff]
    exact h3
   ·unfold mmP
    dsimp only
    omega
 have hnd:(bsI TI tr h).Nodup:=by
  unfold bsI
  refine List.pairwise_map.mpr ?_
  refine (hT.nd.sublist List.filter_sublist).imp_of_mem fun {a b} ha hb hne e=>hne ?_
  obtain ⟨a1,a2⟩:=List.mem_filter.mp ha
  obtain ⟨b1,b2⟩:=List.mem_filter.mp hb
  rw [Bool.and_eq_true,Bool.or_eq_true,decide_eq_true_iff,decide_eq_true_iff] at a2 b2
  obtain ⟨k,e1,e2,_⟩:=oth a a1 a2.1
  obtain ⟨j,f1,f2,_⟩:=oth b b1 b2.1
  have:k=j:=by omega
  rw [e2,f2,this]
 refine qbP (fun a b:Int=>a < b) (fun a=>by omega) (fun a b=>by omega) _ _ ?_ ?_ fun x=>?_
 ·have hnm:ms.Nodup:=hp.nodup_iff.mpr hnd
  exact List.Pairwise.imp₂ (fun {a b} h1 h2=>by omega) hs hnm
 ·refine List.pairwise_map.mpr ?_
  exact (List.pairwise_lt_range.sublist List.filter_sublist).imp fun hab=>by omega
 ·rw [hp.mem_iff];exact hmem x
theorem sc_l_cell_at:FnScope ["_law_script", "_law_k"] ["_law_script", "_law_k"] (qb j0):=⟨rfl,rfl,rfl,by decide +kernel,rfl,by decide +kernel,by decide +kernel⟩
theorem sc_l_box:FnScope ["_law_cell", "_law_found", "_law_number", "_law_k"] ["_law_cell"] (qb qaR):=⟨rfl,rfl,rfl,by decide +kernel,rfl,by decide +kernel,by decide +kernel⟩
theorem sc_l_take:FnScope ["_law_box_here", "_law_many", "_law_found"] ["_law_box_here", "_law_many"] (qb qam):=⟨rfl,rfl,rfl,by decide +kernel,rfl,by decide +kernel,by decide +kernel⟩
def qg6 (K:W.Frag):Sp:=fun vs H Q _=>∃ (a:Addr) (ns:List Int) (k:Nat),vs=[.ref a,.int (k:Int)]∧SqL K H a (ns.map V.int)∧k < 1000∧∀ i:Int,Q (.int i) H
def Bx (H:Hp) (p:Addr):Prop:=∃ v:Int,0≤v∧H p=some (.lst [.int v])
def qg7:Sp:=fun vs H Q _=>∃ c:Int,vs=[.int c]∧∀ (p:Addr) (H':Hp),L2.Same H H'→H p=none→Bx H' p→Q (.ref p) H'
def qgz:Sp:=fun vs H Q _=>∃ (p:Addr) (m:Nat),vs=[.ref p,.int (m:Int)]∧Bx H p∧0 < m∧m < 1000∧∀ (d:Nat) (H':Hp),d < m→But p H H'→Bx H' p→Q (.int (d:Int)) H'
def qfU:Sp:=fun vs H Q _=>∃ (p:Addr) (m:Nat),vs=[.ref p,.int (m:Int)]∧Bx H p∧m≤14∧∀ (l:Addr) (ss:List Str) (H':Hp),But p H H'→Bx H' p→H l=none→l≠p→H' l=some (.lst (ss.map V.str))→NOk ss→ss.length=m→Q (.ref l) H'
def stepsL:List Int:=[1,3,5,7,9,11,15,17,19,21,23,25]
theorem step_in2 {step sh a b:Int} (hs:step∈stepsL) (ha:0≤a) (hb:0≤b) (ha':a < 26) (hb':b < 26) (e:(sh + step * a) % 26=(sh + step * b) % 26):a=b:=by
 simp only [stepsL,List.mem_cons,List.not_mem_nil,or_false] at hs
 rcases hs with rfl | rfl | rfl | rfl | rfl | rfl | rfl | rfl | rfl | rfl | rfl | rfl<;>omega
def cL (first step:Int) (j:Nat):Nat:=97 + ((first + step * (j:Int)) % 26).toNat
def NmK (way first step:Int) (t j:Nat) (s:Str):Prop:=
 if way=0 then ∃ sf:List Nat,s.cps.toList=cL first step j::sf∧sf.all sg=true∧sf.length≤5
 else if way=1 then s.cps.toList=List.replicate t 109++[cL first step j]
 else if j < 6 then s.cps.toList=List.replicate (j + 1) (97 + first.toNat) else s.cps.toList=[cL first step j]
theorem qfn (first step:Int) (j:Nat):sg (cL first step j)=true:=by
 have h1:=Int.emod_nonneg (first + step * (j:Int)) (show (26:Int)≠0 by decide)
 have h2:=Int.emod_lt_of_pos (first + step * (j:Int)) (show (0:Int) < 26 by decide)
 unfold cL
 exact qfj (by omega) (by omega)
theorem qcn {first step:Int} (hs:step∈stepsL) {j k:Nat} (hj:j < 14) (hk:k < 14) (e:cL first step j=cL first step k):j=k:=by
 have h1:=Int.emod_nonneg (first + step * (j:Int)) (show (26:Int)≠0 by decide)
 have h2:=Int.emod_nonneg (first + step * (k:Int)) (show (26:Int)≠0 by decide)
 unfold cL at e
 have:=step_in2 (a:=j) (b:=k) (sh:=first) hs (by omega) (by omega) (by omega) (by omega) (by omega)
 omega
theorem NmK.nm {way first step:Int} {t j:Nat} {s:Str} (h:NmK way first step t j s) (ht:t≤5) (hf:0≤first∧first < 26):qao s=true:=by
 unfold NmK at h
 split at h
 ·obtain ⟨sf,e,h1,h2⟩:=h
  refine qa2 e (by simp) (by simp;omega) ?_
  rw [List.all_cons,qfn,h1];rfl
 ·split at h
  ·refine qa2 h (by simp) (by simp;omega) ?_
   rw [List.all_append,List.all_cons,qfn]
   have:(List.replicate t 109).all sg=true:=List.all_eq_true.mpr fun x hx=>by rw [(List.mem_replicate.mp hx).2];exact qfj (by decide) (by decide)
   rw [this];rfl
  ·split at h
   ·refine qa2 h (by simp) (by simp;omega) ?_
    exact List.all_eq_true.mpr fun x hx=>by rw [(List.mem_replicate.mp hx).2];exact qfj (by omega) (by omega)
   ·refine qa2 h (by simp) (by simp) ?_
    rw [List.all_cons,qfn];rfl
theorem NmK.inj {way first step:Int} {t j k:Nat} {s:Str} (hs:step∈stepsL) (hf:0≤first∧first < 26) (hj:j < 14) (hk:k < 14) (h:NmK way first step t j s) (g:NmK way first step t k s):j=k:=by
 have c0:cL first step 0=97 + first.toNat:=by
  unfold cL
  rw [show first + step * ((0:Nat):Int)=first by simp,Int.emod_eq_of_lt hf.1 hf.2]
 unfold NmK at h g
 split at h
 ·rename_i hw
  rw [if_pos hw] at g
  obtain ⟨sf,e,_⟩:=h
  obtain ⟨sf',e',_⟩:=g
  rw [e] at e'
  exact qcn hs hj hk (List.cons.inj e').1
 ·rename_i hw
  rw [if_neg hw] at g
  split at h
  ·rename_i hw2
   rw [if_pos hw2] at g
   rw [h] at g
   have:=List.append_cancel_left g
   exact qcn hs hj hk (List.cons.inj this).1
  ·rename_i hw2
   rw [if_neg hw2] at g
   split at h<;>split at g
   ·rw [h] at g
    have:=congrArg List.length g
    simp at this
    omega
   ·rename_i h1 h2
    rw [h] at g
    have hl:=congrArg List.length g
    simp at hl
    have hj0:j=0:=by omega
    subst hj0
    have:97 + first.toNat=cL first step k:=by simpa using g
    rw [← c0] at this
    exact qcn hs hj hk this
   ·rename_i h1 h2
    rw [h] at g
    have hl:=congrArg List.length g
    simp at hl
    have hk0:k=0:=by omega
    subst hk0
    have:cL first step j=97 + first.toNat:=by simpa using g
    rw [← c0] at this
    exact qcn hs hj hk this
   ·rw [h] at g
    exact qcn hs hj hk (List.cons.inj g).1
section
variable {P:Program} {w:World} {K:W.Frag} {mg:Str→Option Value} {base:Heap} {cc:Nat→Addr} {cw:Addr}
theorem ok_ca7 {f:Addr} {fd:FuncData} (F:Fun K "_law_cell_at" "_law_cell_at" j0 f fd) (T:Txt K mg cc cw):FnOk P w K mg base CX0 1 f fd ["_law_script", "_law_k"] (qg6 K):=by
 refine F.ok sc_l_cell_at (fun vs H Q E h=>?_) fun cdv A outer s H vs Q E hr h=>?_
 ·obtain ⟨a,ns,k,rfl,_⟩:=h;rfl
 ·obtain ⟨a,ns,k,rfl,hS,h1,q⟩:=h
  have hu:=zZ hr
  refine ⟨_,(qe (qO (qu qdq (pv 1) (qp (zC (K:=K) rfl) rfl T.b_len boot_len (qa (pv 0) qc)) (qy _)) (qf (qm (qD (qE (K:=K) rfl hu) (pv 0) (pv 1) (fun _ _=>rfl)))) qr)
 (qf (qm qg))),?_⟩
  walk_at "vc"
  refine vLenLs hS ?_
  rw [List.length_map]
  walk_at "vc"
  by_cases hk:k < ns.length
  ·rw [decide_eq_true (show (k:Int) < (ns.length:Int) by omega)]
   refine qau ?_
   walk_at "vc"
   refine .inl (vIxLs hS (v:=.int ns[k]) (ju (by rw [List.getElem?_map,List.getElem?_eq_getElem hk];rfl)) ?_)
   exact q _
  ·rw [decide_eq_false (show ¬ (k:Int) < (ns.length:Int) by omega)]
   refine qQ (fun h=>by cases h) fun _=>?_
   walk_at "vc"
   exact q _
theorem ok_bx {f:Addr} {fd:FuncData} (F:Fun K "_law_box" "_law_box" qaR f fd) (T:Txt K mg cc cw):FnOk P w K mg base CX0 1 f fd ["_law_cell"] qg7:=by
 refine F.ok sc_l_box (fun vs H Q E h=>?_) fun cdv A outer s H vs Q E hr h=>?_
 ·obtain ⟨c,rfl,_⟩:=h;rfl
 ·obtain ⟨c,rfl,q⟩:=h
  refine ⟨_,(qe (qO (qu op_ge (pv 0) (qB qes qg qg) (qy _)) (qf (qm (js (qa (pv 0) qc)))) qr)
 (qe (qw (i:=1) sc_l_box.nd rfl (Or.inl rfl) qg)
 (qe (qw (i:=2) sc_l_box.nd rfl (Or.inl rfl) (qB (qaa (K:=K) rfl) (qB j5 (pv 0) qg) qg))
 (qe (j9 PassesOwn.never rfl (zA rfl T.b_range (qa qg qc)) (qt (i:=3) sc_l_box.nd rfl (Or.inl rfl))
 (qe (qw (i:=2) sc_l_box.nd rfl (Or.inl rfl) (qB j5 (qB (qaa (K:=K) rfl) (qB (qaa (K:=K) rfl) (qB qcA (pv 2) (pv 2)) (qB qcA qg (pv 2))) (pv 3)) qg))
 (qf (qw (i:=1) sc_l_box.nd rfl (Or.inl rfl) (qB (qaa (K:=K) rfl) (qB qcA (pv 1) qg) (qB j5 (qB qcA (pv 2) qg) qg))))))
 (qf (qm (js (qa (pv 1) qc)))))))),?_⟩
  walk_at "vc"
  refine vI ⟨by decide,by decide,by decide⟩ ?_
  walk_at "vc"
  refine qQ (fun h=>?_) (fun h=>?_)
  ·have h:c ≥ 10 ^ (18:Int).toNat:=of_decide_eq_true h
   walk_at "vc"
   refine ⟨by show 1≤sizeLine;decide,fun p hp=>q p _ (qF (L2.Same.refl H) hp) hp ⟨c,?_,qd⟩⟩
   have:(10:Int) ^ (18:Int).toNat=1000000000000000000:=by decide
   omega
  ·walk_at "vc"
   refine vI (by decide) ?_
   walk_at "vc"
   have e1:=Int.emod_nonneg c (show (2147483647:Int)≠0 by decide)
   have e2:=Int.emod_lt_of_pos c (show (0:Int) < 2147483647 by decide)
   refine ⟨9,rfl,by decide,by decide,zB (lo:=0) (n:=9) (fun i σ H'=>H'=H∧∃ (fnd num:Int) (x:Option V),σ=[some (.int c),some (.int fnd),some (.int num),x]∧0≤fnd∧0≤num∧num < 2200000000) ⟨rfl,0,_,_,rfl,by decide,by omega,by omega⟩ (fun i σ H' hi hp=>?_) fun σ H' hp=>?_⟩
   ·obtain ⟨rfl,fnd,num,x,rfl,hf,h0,h1⟩:=hp
    walk_at "vc"
    refine qdv (.inl ⟨by omega,by omega⟩) ?_
    walk_at "vc"
    refine qdv (.inl ⟨by decide,by decide⟩) ?_
    walk_at "vc"
    refine vI (by decide) ?_
    walk_at "vc"
    refine qdv (.inr ⟨by decide,by decide⟩) ?_
    walk_at "vc"
    refine qdv (.inr ⟨by decide,by decide⟩) ?_
    walk_at "vc"
    refine vI (by decide) ?_
    walk_at "vc"
    generalize hN:(num * num + 48271 * num + (0 + (i:Int))) % 2147483647=N
    have n0:0≤N:=by rw [← hN];exact Int.emod_nonneg _ (by decide)
    have n1:N < 2147483647:=by rw [← hN];exact Int.emod_lt_of_pos _ (by decide)
    refine ⟨rfl,_,_,_,rfl,?_,n0,by omega⟩
    have m0:=Int.emod_nonneg (N * 69621) (show (2147483629:Int)≠0 by decide)
    have:0≤fnd * 2147483629:=Int.mul_nonneg hf (by decide)
    omega
   ·obtain ⟨rfl,fnd,num,x,rfl,hf,_⟩:=hp
    walk_at "vc"
    exact ⟨by show 1≤sizeLine;decide,fun p hp=>q p _ (qF (L2.Same.refl H') hp) hp ⟨fnd,hf,qd⟩⟩
theorem ok_tk {f:Addr} {fd:FuncData} (F:Fun K "_law_take" "_law_take" qam f fd):FnOk P w K mg base CX0 1 f fd ["_law_box_here", "_law_many"] qgz:=by
 refine F.ok sc_l_take (fun vs H Q E h=>?_) fun cdv A outer s H vs Q E hr h=>?_
 ·obtain ⟨p,m,rfl,_⟩:=h;rfl
 ·obtain ⟨p,m,rfl,⟨v,hv,hp⟩,h0,h1,k⟩:=h
  have hu:=zZ hr
  have hm:(0:Int) < (m:Int):=by omega
  refine ⟨_,(qe (qw (i:=2) sc_l_take.nd rfl (Or.inl rfl) (qB j5 (qD (qE (K:=K) rfl hu) (pv 0) qg (fun _ _=>rfl)) (pv 1)))
 (qe (qbU (qB qbE (qD (qE (K:=K) rfl hu) (pv 0) qg (fun _ _=>rfl)) (pv 1)) (qcP (pv 0) qg (qc4 hu)))
 (qf (qm (pv 2))))),?_⟩
  walk_at "vc"
  refine .inl (qaC hp rfl ?_)
  walk_at "vc"
  refine vI hm ?_
  walk_at "vc"
  refine .inl (qaC hp rfl ?_)
  walk_at "vc"
  refine vI ⟨hm,by omega⟩ ?_
  walk_at "vc"
  refine .inl (qfa hp rfl ?_)
  walk_at "vc"
  have e1:=Int.emod_nonneg v (show (m:Int)≠0 by omega)
  have e2:=Int.emod_lt_of_pos v hm
  have e3:v % (m:Int)=(((v % (m:Int)).toNat:Nat):Int):=by omega
  rw [e3]
  exact k _ _ (by omega) (fun x o n e=>by rw [qi n];exact e) ⟨_,Int.ediv_nonneg hv (by omega),qd⟩
end
theorem sc_l_names:FnScope ["_law_box_here", "_law_many", "_law_letters", "_law_way", "_law_first", "_law_step", "_law_tails", "_law_names_here", "_law_k", "_law_sign"] ["_law_box_here", "_law_many"] (qb qR):=⟨rfl,rfl,rfl,by decide +kernel,rfl,by decide +kernel,by decide +kernel⟩
theorem rep_ok6 {c:Nat} {n:Nat} (h:n < 6):MulOk ⟨#[c]⟩ ((n:Int) + 1)∧(Txt.mul ⟨#[c]⟩ ((n:Int) + 1)).cps.toList=List.replicate (n + 1) c:=by
 have h6:n=0∨n=1∨n=2∨n=3∨n=4∨n=5:=by omega
 rcases h6 with rfl | rfl | rfl | rfl | rfl | rfl
 ·exact ⟨⟨by decide,fun _ _=>by show ¬ ((1:Int) > (2 ^ 63 - 1) / 1);decide,fun _ _=>by show Builtin.Str.tooLong (1 * 1)=false;decide⟩,rfl⟩
 ·exact ⟨⟨by decide,fun _ _=>by show ¬ ((1:Int) > (2 ^ 63 - 1) / 2);decide,fun _ _=>by show Builtin.Str.tooLong (1 * 2)=false;decide⟩,rfl⟩
 ·exact ⟨⟨by decide,fun _ _=>by show ¬ ((1:Int) > (2 ^ 63 - 1) / 3);decide,fun _ _=>by show Builtin.Str.tooLong (1 * 3)=false;decide⟩,rfl⟩
 ·exact ⟨⟨by decide,fun _ _=>by show ¬ ((1:Int) > (2 ^ 63 - 1) / 4);decide,fun _ _=>by show Builtin.Str.tooLong (1 * 4)=false;decide⟩,rfl⟩
 ·exact ⟨⟨by decide,fun _ _=>by show ¬ ((1:Int) > (2 ^ 63 - 1) / 5);decide,fun _ _=>by show Builtin.Str.tooLong (1 * 5)=false;decide⟩,rfl⟩
 ·exact ⟨⟨by decide,fun _ _=>by show ¬ ((1:Int) > (2 ^ 63 - 1) / 6);decide,fun _ _=>by show Builtin.Str.tooLong (1 * 6)=false;decide⟩,rfl⟩
theorem zw (a b:Int):(if false=true then !eqV (V.int a) (V.int b) else eqV (V.int a) (V.int b))=decide (a=b):=by
 rw [if_neg (by decide)]
 unfold eqV
 by_cases h:a=b<;>simp [h]
theorem But.trans7 {p:Addr} {H H1 H2:Hp} (a:But p H H1) (b:But p H1 H2):But p H H2:=fun c o n e=>b c o n (a c o n e)
theorem But.new7 {p l:Addr} {H H1:Hp} {o:HO} (a:But p H H1) (hl:H1 l=none):But p H (upd H1 l o):=fun c u n e=>by
 have:=a c u n e
 have ne:c≠l:=fun z=>by rw [z,hl] at this;cases this
 rw [qi ne];exact this
theorem But.free7 {p l:Addr} {H H1:Hp} (a:But p H H1) (hn:l≠p) (hl:H1 l=none):H l=none:=by
 cases e:H l with
 | none=>rfl
 | some o=>rw [a l o hn e] at hl;cases hl
def setWith (s:Stmt) (es:List Expr):Stmt:=match s with
 | .Assign ts (.Subscript (.List _ lp) ix p1) p=>.Assign ts (.Subscript (.List es lp) ix p1) p
 | s=>s
abbrev qe0 (s:Stmt) (i:Nat):Stmt:=(qh s).getD i (.Pass ⟨0,0,0,0⟩)
theorem names_parts:∃ es,qh qR=[qe0 qR 0,qe0 qR 1,qe0 qR 2,setWith (qe0 qR 3) es,qe0 qR 4,qe0 qR 5,qe0 qR 6,qe0 qR 7]∧∀ (env:Env) (PE':Expr→TE→Prop) (PA':List Expr→TA→Prop),
  (∀ i j pos,PE' (.Constant (.int i) j pos) (tC (.int i)))→PA' [] qdB→(∀ e es te t,PE' e te→PA' es t→starEach (e::es) env=(false,eval e env)::starEach es env→PA' (e::es) (j6 te t)) →
  PA' es (j6 (tC (.int 1)) (j6 (tC (.int 3)) (j6 (tC (.int 5)) (j6 (tC (.int 7)) (j6 (tC (.int 9)) (j6 (tC (.int 11)) (j6 (tC (.int 15)) (j6 (tC (.int 17)) (j6 (tC (.int 19)) (j6 (tC (.int 21)) (j6 (tC (.int 23)) (j6 (tC (.int 25)) qdB)))))))))))):=
 ⟨_,rfl,fun env PE' PA' hi h0 hc=>(hc _ _ _ _ (hi _ _ _) (hc _ _ _ _ (hi _ _ _) (hc _ _ _ _ (hi _ _ _) (hc _ _ _ _ (hi _ _ _) (hc _ _ _ _ (hi _ _ _) (hc _ _ _ _ (hi _ _ _) (hc _ _ _ _ (hi _ _ _) (hc _ _ _ _ (hi _ _ _) (hc _ _ _ _ (hi _ _ _) (hc _ _ _ _ (hi _ _ _) (hc _ _ _ _ (hi _ _ _) (hc _ _ _ _ (hi _ _ _) h0 rfl) rfl) rfl) rfl) rfl) rfl) rfl) rfl) rfl) rfl) rfl) rfl)⟩
section
variable {P:Program} {w:World} {K:W.Frag} {mg:Str→Option Value} {base:Heap} {cc:Nat→Addr} {cw:Addr}
theorem ok_nm7 {f:Addr} {fd:FuncData} (F:Fun K "_law_names" "_law_names" qR f fd) (T:Txt K mg cc cw) (D_l_take:DefOk P w K mg base CX0 1 "_law_take" ["_law_box_here", "_law_many"] qgz):FnOk P w K mg base CX0 2 f fd ["_law_box_here", "_law_many"] qfU:=by
 refine F.ok sc_l_names (fun vs H Q E h=>?_) fun cdv A outer s H vs Q E hr h=>?_
 ·obtain ⟨p,m,rfl,_⟩:=h;rfl
 ·obtain ⟨p,m,rfl,hB,hm,q⟩:=h
  have hu:=zZ hr
  obtain ⟨TC5,hTC5⟩:∃ t:TS,t=fun D σ H'=>(∀ u H',Q u H'→D.rt u H')∧∃ (x7 x8 x9:Option V) (way first step:Int) (t:Nat),σ=[some (.ref p),some (.int (m:Int)),some (.str L26),some (.int way),some (.int first),some (.int step),some (.int (t:Int)),x7,x8,x9]∧But p H H'∧Bx H' p∧(way=0∨way=1∨way=2)∧(0≤first∧first < 26)∧step∈stepsL∧t≤5:=⟨_,rfl⟩
  obtain ⟨es7,hbody,hPA⟩:=names_parts
  rw [hbody]
  refine ⟨_,(qe (qw (i:=2) sc_l_names.nd rfl (Or.inl rfl) zq)
 (qe (qw (i:=3) sc_l_names.nd rfl (Or.inl rfl) (qq D_l_take (hmR hr) qx (qa (pv 0) (qa qg qc))))
 (qe (qw (i:=4) sc_l_names.nd rfl (Or.inl rfl) (qq D_l_take (hmR hr) qx (qa (pv 0) (qa qg qc))))
 (qe (qw (i:=5) sc_l_names.nd rfl (Or.inl rfl) (qD (qE (K:=K) rfl hu) (js (hPA _ _ _ (fun _ _ _=>qg) qc fun _ _ _ _ ha hr hs=>qa ha hr hs)) (qq D_l_take (hmR hr) qx (qa (pv 0) (qa qg qc))) (fun _ _=>rfl)))
 (qe (qw (i:=6) sc_l_names.nd rfl (Or.inl rfl) (qq D_l_take (hmR hr) qx (qa (pv 0) (qa qg qc))))
 (zV TC5 (qe (qw (i:=7) sc_l_names.nd rfl (Or.inl rfl) (js qc))
 (qe (j9 PassesOwn.never rfl (zA rfl T.b_range (qa (pv 1) qc)) (qt (i:=8) sc_l_names.nd rfl (Or.inl rfl))
 (qe (qw (i:=9) sc_l_names.nd rfl (Or.inl rfl) (qD (qE (K:=K) rfl hu) (pv 2) (qB j5 (qB (qaa (K:=K) rfl) (pv 4) (qB qcA (pv 5) (pv 8))) qg) (fun _ _=>rfl)))
 (qf (qO (qu (zT (K:=K) rfl hu) (pv 3) qg (qy _)) (qf (qL (qdQ (K:=K) rfl PySem.F.plainAttrs_list PySem.F.slot_list_append PySem.F.type_list_append jg (pv 7) (qa (qB (qaa (K:=K) rfl) (pv 9) (qak (qfu (K:=K) rfl) zq qbG (zN (qB j5 (qB (qaa (K:=K) rfl) (pv 6) (qB qcA qg (pv 8))) qg)))) qc)))) (qf (qO (qu (zT (K:=K) rfl hu) (pv 3) qg (qy _)) (qf (qL (qdQ (K:=K) rfl PySem.F.plainAttrs_list PySem.F.slot_list_append PySem.F.type_list_append jg (pv 7) (qa (qB (qaa (K:=K) rfl) (qak (qfu (K:=K) rfl) zq qbG (zN (pv 6))) (pv 9)) qc)))) (qf (qO (qu qdq (pv 8) qg (qy _)) (qf (qL (qdQ (K:=K) rfl PySem.F.plainAttrs_list PySem.F.slot_list_append PySem.F.type_list_append jg (pv 7) (qa (qB qcA (qD (qE (K:=K) rfl hu) (pv 2) (pv 4) (fun _ _=>rfl)) (qB (qaa (K:=K) rfl) (pv 8) qg)) qc)))) (qf (qL (qdQ (K:=K) rfl PySem.F.plainAttrs_list PySem.F.slot_list_append PySem.F.type_list_append jg (pv 7) (qa (pv 9) qc))))))))))))
 (qf (qm (pv 7))))) ?cut5)))))),?_⟩
  case cut5 =>
   intro D σ H1 h
   rw [hTC5] at h
   obtain ⟨hD,x7,x8,x9,way,first,step,t,rfl,b1,hB1,hway,hf,hst,ht⟩:=h
   walk_at "vc"
   refine ⟨by show 0≤sizeLine;decide,fun l hl=>?_⟩
   obtain ⟨bv,hbv,hp1⟩:=id hB1
   have hlp:l≠p:=fun z=>by rw [z,hp1] at hl;cases hl
   walk_at "vc"
   refine ⟨(m:Int),rfl,by omega,by omega,?_⟩
   rw [Int.toNat_natCast]
   refine zB (lo:=0) (n:=m) (fun i σ H'=>∃ (ss:List Str) (x8 x9:Option V),σ=[some (.ref p),some (.int (m:Int)),some (.str L26),some (.int way),some (.int first),some (.int step),some (.int (t:Int)),some (.ref l),x8,x9]∧H'=upd H1 l (.lst (ss.map V.str))∧ss.length=i∧∀ (j:Nat) s,ss[j]?=some s→NmK way first step t j s) ⟨[],_,_,rfl,rfl,rfl,fun j s h=>by simp at h⟩ (fun i σ H' hi hp=>?_) fun σ H' hp=>?_
   ·obtain ⟨ss,x8,x9,rfl,rfl,hsl,hss⟩:=hp
    have hl2:upd H1 l (.lst (ss.map V.str)) l=some (.lst (ss.map V.str)):=qd
    rw [Int.zero_add]
    walk_at "vc"
    have hsb:0≤step∧step≤25:=by
     have h:=hst
     simp only [stepsL,List.mem_cons,List.not_mem_nil,or_false] at h
     omega
    refine qdv (.inl ⟨by omega,by omega⟩) ?_
    walk_at "vc"
    refine vI (by decide) ?_
    have c1:=Int.emod_nonneg (first + step * (i:Int)) (show (26:Int)≠0 by decide)
    have c2:=Int.emod_lt_of_pos (first + step * (i:Int)) (show (0:Int) < 26 by decide)
    refine .inl (qgU (by decide +kernel) (qeM c1 c2) ?_)
    have fin:∀ (s:Str),NmK way first step t i s→∃ (ss':List Str) (x8 x9:Option V),[some (V.ref p),some (.int (m:Int)),some (.str L26),some (.int way),some (.int first),some (.int step),some (.int (t:Int)),some (.ref l),some (.int (i:Int)),some (V.str ⟨#[97 + ((first + step * (i:Int)) % 26).toNat]⟩)]=[some (.ref p),some (.int (m:Int)),some (.str L26),some (.int way),some (.int first),some (.int step),some (.int (t:Int)),some (.ref l),x8,x9]∧upd (upd H1 l (.lst (ss.map V.str))) l (.lst (ss.map V.str++[.str s]))=upd H1 l (.lst (ss'.map V.str))∧ss'.length=i + 1∧∀ (j:Nat) s,ss'[j]?=some s→NmK way first step t j s:=fun s hs=>by
     refine ⟨ss++[s],_,_,rfl,?_,by rw [List.length_append,hsl];rfl,fun j s' hj=>?_⟩
     ·rw [List.map_append]
      funext c
      by_cases hc:c=l
      ·subst hc;rw [qd,qd];rfl
      ·rw [qi hc,qi hc,qi hc]
     ·by_cases hji:j < ss.length
      ·rw [List.getElem?_append_left hji] at hj
       exact hss j s' hj
      ·rw [List.getElem?_append_right (by omega)] at hj
       have e0:j - ss.length=0:=by
        have:=(List.getElem?_eq_some_iff.mp hj).1
        simp only [List.length_cons,List.length_nil] at this
        omega
       rw [e0] at hj
       cases hj
       have:j=i:=by omega
       rw [this]
       exact hs
    have hapl:(ss.map V.str).length < sizeLine:=by rw [List.length_map];exact qk (by omega)
    walk_at "vc"
    refine .inl (.inl (.inl ⟨rfl,rfl,?_⟩))
    rw [zw]
    walk_at "vc"
    refine qQ (fun h=>?_) (fun h=>?_)
    ·have hw:way=0:=of_decide_eq_true h
     walk_at "vc"
     refine ⟨.inl ⟨rfl,_,.of hl2⟩,?_⟩
     walk_at "vc"
     refine qdv (.inl ⟨by decide,by decide⟩) ?_
     walk_at "vc"
     refine vI (by decide) ?_
     walk_at "vc"
     refine qgV (by decide +kernel) ?_
     have e6:((t:Int) + 5 * (i:Int)) % 6=(((t + 5 * i) % 6:Nat):Int):=by omega
     rw [e6]
     have hsl2:=qbx (Str.ofString "zabqk") ((t + 5 * i) % 6)
     have hall:((Str.ofString "zabqk").cps.toList.take ((t + 5 * i) % 6)).all sg=true:=by
      have h0:(Str.ofString "zabqk").cps.toList.all sg=true:=by decide +kernel
      exact List.all_eq_true.mpr fun x hx=>List.all_eq_true.mp h0 x (List.mem_of_mem_take hx)
     have hlen5:((Str.ofString "zabqk").cps.toList.take ((t + 5 * i) % 6)).length≤5:=by rw [List.length_take];omega
     have hln:(Txt.slice (Str.ofString "zabqk") none (some (((t + 5 * i) % 6:Nat):Int))).length≤5:=by
      have:(Txt.slice (Str.ofString "zabqk") none (some (((t + 5 * i) % 6:Nat):Int))).length=(Txt.slice (Str.ofString "zabqk") none (some (((t + 5 * i) % 6:Nat):Int))).cps.toList.length:=by simp [Str.length]
      rw [this,hsl2];exact hlen5
     refine qfJ (by show 1 + _≤sizeLine;exact Nat.le_of_lt (qk (by omega))) ?_
     walk_at "vc"
     refine ⟨l,_,_,rfl,rfl,hl2,hapl,?_⟩
     refine fin _ ?_
     unfold NmK
     rw [if_pos hw]
     refine ⟨_,?_,hall,hlen5⟩
     rw [qde,hsl2]
     rfl
    ·have hw0:way≠0:=fun e=>h (decide_eq_true e)
     walk_at "vc"
     refine .inl (.inl (.inl ⟨rfl,rfl,?_⟩))
     rw [zw]
     walk_at "vc"
     refine qQ (fun h=>?_) (fun h=>?_)
     ·have hw:way=1:=of_decide_eq_true h
      walk_at "vc"
      refine ⟨.inl ⟨rfl,_,.of hl2⟩,?_⟩
      walk_at "vc"
      refine qgV (by decide +kernel) ?_
      have hsl2:=qbx (Str.ofString "mmmmm") t
      have hmm:(Str.ofString "mmmmm").cps.toList.take t=List.replicate t 109:=by
       have h0:(Str.ofString "mmmmm").cps.toList=List.replicate 5 109:=by decide +kernel
       rw [h0,List.take_replicate,Nat.min_eq_left ht]
      rw [hmm] at hsl2
      have hln:(Txt.slice (Str.ofString "mmmmm") none (some (t:Int))).length≤5:=by
       have:(Txt.slice (Str.ofString "mmmmm") none (some (t:Int))).length=(Txt.slice (Str.ofString "mmmmm") none (some (t:Int))).cps.toList.length:=by simp [Str.length]
       rw [this,hsl2,List.length_replicate];exact ht
      walk_at "vc"
      refine qfJ (by show _ + 1≤sizeLine;exact Nat.le_of_lt (qk (by omega))) ?_
      walk_at "vc"
      refine ⟨l,_,_,rfl,rfl,hl2,hapl,?_⟩
      refine fin _ ?_
      unfold NmK
      rw [if_neg hw0,if_pos hw,qde,hsl2]
      rfl
     ·have hw1:way≠1:=fun e=>h (decide_eq_true e)
      walk_at "vc"
      by_cases h6:i < 6
      ·rw [decide_eq_true (show (i:Int) < 6 by omega)]
       refine qau ?_
       walk_at "vc"
       refine ⟨.inl ⟨rfl,_,.of hl2⟩,?_⟩
       walk_at "vc"
       refine .inl (qgU (by decide +kernel) (qeM hf.1 hf.2) ?_)
       walk_at "vc"
       obtain ⟨mo,ml⟩:=rep_ok6 (c:=97 + first.toNat) h6
       refine ⟨mo,?_⟩
       walk_at "vc"
       refine ⟨l,_,_,rfl,rfl,hl2,hapl,?_⟩
       refine fin _ ?_
       unfold NmK
       rw [if_neg hw0,if_neg hw1,if_pos h6]
       exact ml
      ·rw [decide_eq_false (show ¬ (i:Int) < 6 by omega)]
       refine qQ (fun h=>by cases h) fun _=>?_
       walk_at "vc"
       refine ⟨.inl ⟨rfl,_,.of hl2⟩,?_⟩
       walk_at "vc"
       refine ⟨l,_,_,rfl,rfl,hl2,hapl,?_⟩
       refine fin _ ?_
       unfold NmK
       rw [if_neg hw0,if_neg hw1,if_neg h6]
       rfl
   ·obtain ⟨ss,x8,x9,rfl,rfl,hsl,hss⟩:=hp
    walk_at "vc"
    refine hD _ _ (q l ss _ (b1.new7 hl) ⟨bv,hbv,by rw [qi (Ne.symm hlp)];exact hp1⟩ (b1.free7 hlp hl) hlp qd ⟨by omega,nodup_key fun j k s hj hk=>?_,fun s hs=>?_⟩ hsl)
    ·have hj':j < ss.length:=(List.getElem?_eq_some_iff.mp hj).1
     have hk':k < ss.length:=(List.getElem?_eq_some_iff.mp hk).1
     exact NmK.inj hst hf (by omega) (by omega) (hss j s hj) (hss k s hk)
    ·obtain ⟨j,hj⟩:=List.getElem?_of_mem hs
     exact (hss j s hj).nm ht hf
  walk_at "vc"
  refine ⟨p,3,rfl,hB,by decide,by decide,fun way H1 hw b1 hB1=>?_⟩
  walk_at "vc"
  refine ⟨p,26,rfl,hB1,by decide,by decide,fun first H2 hf b2 hB2=>?_⟩
  walk_at "vc"
  refine ⟨by show 12≤sizeLine;decide,fun m2 hm2=>?_⟩
  obtain ⟨bv2,hbv2,hp2⟩:=id hB2
  have hmp:p≠m2:=fun z=>by rw [← z,hp2] at hm2;cases hm2
  have b3:=(b1.trans7 b2).new7 (o:=.lst (stepsL.map V.int)) hm2
  have em:upd H2 m2 (.lst (stepsL.map V.int)) m2=some (.lst (stepsL.map V.int)):=qd
  have hB3:Bx (upd H2 m2 (.lst (stepsL.map V.int))) p:=⟨bv2,hbv2,by rw [qi hmp];exact hp2⟩
  have eu:upd H2 m2 (.lst [V.int 1,V.int 3,V.int 5,V.int 7,V.int 9,V.int 11,V.int 15,V.int 17,V.int 19,V.int 21,V.int 23,V.int 25])=upd H2 m2 (.lst (stepsL.map V.int)):=rfl
  rw [eu]
  generalize upd H2 m2 (.lst (stepsL.map V.int))=H3 at b3 em hB3
  walk_at "vc"
  refine ⟨p,12,rfl,hB3,by decide,by decide,fun d H4 hd b4 hB4=>?_⟩
  obtain ⟨st,hst⟩:∃ st,stepsL[d]?=some st:=⟨_,List.getElem?_eq_getElem hd⟩
  refine .inl (qaC (b4 _ _ (Ne.symm hmp) em) (v:=.int st) (ju (by rw [List.getElem?_map,hst];rfl)) ?_)
  walk_at "vc"
  refine ⟨p,6,rfl,hB4,by decide,by decide,fun t H5 ht b5 hB5=>?_⟩
  walk_at "vc"
  rw [hTC5]
  exact ⟨fun _ _ z=>z,_,_,_,way,first,st,t,rfl,((b3.trans7 b4).trans7 b5),hB5,by omega,by omega,List.mem_of_getElem? hst,by omega⟩
end
theorem sc_l_drawn:FnScope ["_law_cell", "_law_apart", "_law_box_here", "_law_many", "_law_names_here", "_law_thick", "_law_side", "_law_ties", "_law_i", "_law_j", "_law_there"] ["_law_cell", "_law_apart"] (qb zn):=⟨rfl,rfl,rfl,by decide +kernel,rfl,by decide +kernel,by decide +kernel⟩
abbrev iT (q:Nat×Nat):HO:=.tup [.int (q.1:Int),.int (q.2:Int)]
def IPL (H:Hp) (l:Addr) (ts:List Addr) (TI:List (Nat×Nat)):Prop:=H l=some (.lst (ts.map V.ref))∧All2 (fun t q=>H t=some (iT q)) ts TI
theorem IPL.same {H H':Hp} {l:Addr} {ts:List Addr} {TI:List (Nat×Nat)} (h:IPL H l ts TI) (s:L2.Same H H'):IPL H' l ts TI:=⟨s _ _ h.1,h.2.mono fun _ _ z=>s _ _ z⟩
theorem vRng2 {ta:TA} {σ:L2.St} {H:Hp} {R:It→Hp→Prop} (h:ta σ H fun vs H1=>∃ i j:Int,vs=[.int i,.int j]∧(-(2 ^ 62)≤i∧i < 2 ^ 62∧-(2 ^ 62)≤j∧j < 2 ^ 62)∧R (Itr i (j - i).toNat) H1):qfB ta σ H R:=h
theorem qco {K:W.Frag} {H:Hp} {i j:Int} {Q:VK} (q:Q (.bl (decide (i=j))) H):qgq K (.int i) (.int j) H Q:=.inl (.inl (.inl ⟨rfl,rfl,by rw [zw];exact q⟩))
theorem But.same7 {p:Addr} {H H1 H2:Hp} (s:L2.Same H H1) (hp:H p=none) (b:But p H1 H2):L2.Same H H2:=fun c o e=>b c o (fun z=>by rw [z,hp] at e;cases e) (s c o e)
theorem Same.set7 {l:Addr} {H H1:Hp} {o:HO} (a:L2.Same H H1) (hl:H l=none):L2.Same H (upd H1 l o):=fun c u e=>by
 have:c≠l:=fun z=>by rw [z,hl] at e;cases e
 rw [qi this]
 exact a c u e
def qg8:Sp:=fun vs H Q _=>∃ c:Int,vs=[.int c,.bl false]∧∀ (t n l:Addr) (ss:List Str) (ts:List Addr) (TI:List (Nat×Nat)) (H':Hp),L2.Same H H'→H' t=some (.tup [.ref n,.ref l])→H n=none→H' n=some (.lst (ss.map V.str))→NOk ss→H l=none→IPL H' l ts TI→TIok ss.length TI→Q (.ref t) H'
section
variable {P:Program} {w:World} {K:W.Frag} {mg:Str→Option Value} {base:Heap} {cc:Nat→Addr} {cw:Addr}
theorem ok_dr {f:Addr} {fd:FuncData} (F:Fun K "_law_drawn" "_law_drawn" zn f fd) (T:Txt K mg cc cw) (D_l_box:DefOk P w K mg base CX0 1 "_law_box" ["_law_cell"] qg7) (D_l_take:DefOk P w K mg base CX0 1 "_law_take" ["_law_box_here", "_law_many"] qgz) (D_l_names:DefOk P w K mg base CX0 2 "_law_names" ["_law_box_here", "_law_many"] qfU):FnOk P w K mg base CX0 3 f fd ["_law_cell", "_law_apart"] qg8:=by
 refine F.ok sc_l_drawn (fun vs H Q E h=>?_) fun cdv A outer s H vs Q E hr h=>?_
 ·obtain ⟨c,rfl,_⟩:=h;rfl
 ·obtain ⟨c,rfl,q⟩:=h
  have hu:=zZ hr
  obtain ⟨TC3,hTC3⟩:∃ t:TS,t=fun D σ H'=>(∀ u H',Q u H'→D.rt u H')∧∃ (p:Addr) (m:Nat) (x4 x5 x6 x7 x8 x9 x10:Option V),σ=[some (.int c),some (.bl false),some (.ref p),some (.int (m:Int)),x4,x5,x6,x7,x8,x9,x10]∧L2.Same H H'∧H p=none∧Bx H' p∧m≤14:=⟨_,rfl⟩
  refine ⟨_,(qe (qw (i:=2) sc_l_drawn.nd rfl (Or.inr rfl) (qq D_l_box (hmR hr) qx (qa (pv 0) qc)))
 (qe (qw (i:=3) sc_l_drawn.nd rfl (Or.inl rfl) (qq D_l_take (hmR hr) qx (qa (pv 2) (qa qg qc))))
 (qe (qO (qu (zT (K:=K) rfl hu) (qq D_l_take (hmR hr) qx (qa (pv 2) (qa qg qc))) qg (qy _)) (qf (qw (i:=3) sc_l_drawn.nd rfl (Or.inl rfl) (qq D_l_take (hmR hr) qx (qa (pv 2) (qa qg qc))))) qr)
 (zV TC3 (qe (qw (i:=4) sc_l_drawn.nd rfl (Or.inl rfl) (qq D_l_names (hmR hr) qx (qa (pv 2) (qa (pv 3) qc))))
 (qe (qw (i:=5) sc_l_drawn.nd rfl (Or.inl rfl) (qB (qaa (K:=K) rfl) qg (qq D_l_take (hmR hr) qx (qa (pv 2) (qa qg qc)))))
 (qe (qbb (sc:=qb zn) (XN:=["_law_cell", "_law_apart", "_law_box_here", "_law_many", "_law_names_here", "_law_thick", "_law_side", "_law_ties", "_law_i", "_law_j", "_law_there"]) ["_law_k", "_law_box_here"] 1 [2] rfl rfl rfl (by decide +kernel) rfl (by decide +kernel) (i:=6) sc_l_drawn.nd rfl rfl
  (zA rfl T.b_range (qa (pv 3) qc)) (fun _ _ _ _=>(qt (i:=0) (show (["_law_k", "_law_box_here"]:List Str).Nodup by decide +kernel) rfl (Or.inl rfl))) zR
  (fun _ _ _ _=>zS)
  (fun _ _ _ _=>(qq D_l_take (hmR hr) qx (qa (pv 1) (qa qg qc)))))
 (qe (qw (i:=7) sc_l_drawn.nd rfl (Or.inl rfl) (js qc))
 (qe (j9 PassesOwn.never rfl (zA rfl T.b_range (qa (pv 3) qc)) (qt (i:=8) sc_l_drawn.nd rfl (Or.inl rfl))
 (qf (j9 PassesOwn.never rfl (pi_range2 rfl T.b_range (qa (qB (qaa (K:=K) rfl) (pv 8) qg) (qa (pv 3) qc))) (qt (i:=9) sc_l_drawn.nd rfl (Or.inl rfl))
 (qe (qw (i:=10) sc_l_drawn.nd rfl (Or.inl rfl) (qar (jT qdq (qq D_l_take (hmR hr) qx (qa (pv 2) (qa qg qc))) (pv 5) (qy _)) (qaq (pe_or (qcN (pv 1)) (qaq (jT (qaG (K:=K) rfl hu) (qD (qE (K:=K) rfl hu) (pv 6) (pv 8) (fun _ _=>rfl)) (qD (qE (K:=K) rfl hu) (pv 6) (pv 9) (fun _ _=>rfl)) (qy _)))))))
 (qf (qO (PW.pt (qcM (qI (pv 10)) (qbD (qu qdq (qp (zC (K:=K) rfl) rfl T.b_len boot_len (qa (pv 7) qc)) qg (qy _))))) (qf (qL (qdQ (K:=K) rfl PySem.F.plainAttrs_list PySem.F.slot_list_append PySem.F.type_list_append jg (pv 7) (qa (jD (qa (pv 8) (qa (pv 9) qc))) qc)))) qr))))))
 (qf (qm (jD (qa (pv 4) (qa (pv 7) qc)))))))))) ?cut3)))),?_⟩
  case cut3 =>
   intro D σ H1 h
   rw [hTC3] at h
   obtain ⟨hD,p,m,x4,x5,x6,x7,x8,x9,x10,rfl,s1,hp0,hB1,hm⟩:=h
   walk_at "vc"
   refine ⟨p,m,rfl,hB1,hm,fun n ss H2 b2 hB2 hn0 hnp hn2 hO hsl=>?_⟩
   have s2:=But.same7 s1 hp0 b2
   walk_at "vc"
   refine ⟨p,3,rfl,hB2,by decide,by decide,fun d H3 hd b3 hB3=>?_⟩
   have s3:=But.same7 s2 hp0 b3
   have hn3:=b3 _ _ hnp hn2
   walk_at "vc"
   refine ⟨(m:Int),rfl,by omega,by omega,?_⟩
   rw [Int.toNat_natCast]
   refine comp_range (lo:=0) (fun i ys J=>L2.Same H J∧Bx J p∧J n=some (.lst (ss.map V.str))∧ys.length=i) ⟨s3,hB3,hn3,rfl⟩ (fun i ys J hi hp=>?_) fun ys J hp=>?_
   ·obtain ⟨sJ,hBJ,hnJ,hyl⟩:=hp
    walk_at "vc"
    refine qau ?_
    walk_at "vc"
    refine ⟨p,2,rfl,hBJ,by decide,by decide,fun d2 J2 hd2 b4 hB4=>?_⟩
    exact ⟨qk (by omega),But.same7 sJ hp0 b4,hB4,b4 _ _ hnp hnJ,by rw [List.length_append,hyl];rfl⟩
   ·obtain ⟨sJ,hBJ,hnJ,hyl⟩:=hp
    refine ⟨Nat.le_of_lt (qk (by omega)),fun sd hsd=>?_⟩
    have s4:=qF sJ (o:=.lst ys) hsd
    have sJ4:=qF (L2.Same.refl J) (o:=.lst ys) hsd
    have hn4:=sJ4 _ _ hnJ
    have hB4:Bx (upd J sd (.lst ys)) p:=hBJ.elim fun v h=>⟨v,h.1,sJ4 _ _ h.2⟩
    generalize upd J sd (.lst ys)=H4 at s4 hn4 hB4
    walk_at "vc"
    refine ⟨by show 0≤sizeLine;decide,fun l hl0=>?_⟩
    have s5:=qF s4 (o:=.lst []) hl0
    have s45:=qF (L2.Same.refl H4) (o:=.lst []) hl0
    have hlH:H l=none:=s4.free hl0
    have hlp:l≠p:=fun z=>by obtain ⟨v,_,e⟩:=hB4;rw [z,e] at hl0;cases hl0
    have hln:l≠n:=fun z=>by rw [z,hn4] at hl0;cases hl0
    walk_at "vc"
    refine ⟨(m:Int),rfl,by omega,by omega,?_⟩
    rw [Int.toNat_natCast]
    refine zB (lo:=0) (n:=m) (fun i σ J=>L2.Same H J∧Bx J p∧J n=some (.lst (ss.map V.str))∧∃ (ts:List Addr) (TI:List (Nat×Nat)) (y8 y9 y10:Option V),σ=[some (.int c),some (.bl false),some (.ref p),some (.int (m:Int)),some (.ref n),some (.int (1 + (d:Int))),some (.ref sd),some (.ref l),y8,y9,y10]∧IPL J l ts TI∧TI.length≤30∧(∀ q∈TI,q.1 < q.2∧q.2 < m)∧TI.Pairwise qfm∧∀ q∈TI,q.1 < i)
     ⟨s5,hB4.elim fun v h=>⟨v,h.1,s45 _ _ h.2⟩,s45 _ _ hn4,[],[],_,_,_,rfl,⟨qd,.nil⟩,by decide,fun q hq=>(by cases hq),.nil,fun q hq=>by cases hq⟩ (fun i σ J hi hp=>?_) fun σ J hp=>?_
    ·obtain ⟨sJ,hBJ,hnJ,ts,TI,y8,y9,y10,rfl,hI,hfew,hok,hso,hlt⟩:=hp
     rw [Int.zero_add]
     walk_at "vc"
     refine vRng2 ?_
     walk_at "vc"
     refine ⟨_,_,rfl,⟨by omega,by omega,by omega,by omega⟩,?_⟩
     rw [show ((m:Int) - ((i:Int) + 1)).toNat=m - (i + 1) by omega]
     refine zB (lo:=(i:Int) + 1) (n:=m - (i + 1)) (fun k σ J=>L2.Same H J∧Bx J p∧J n=some (.lst (ss.map V.str))∧∃ (ts:List Addr) (TI:List (Nat×Nat)) (y9 y10:Option V),σ=[some (.int c),some (.bl false),some (.ref p),some (.int (m:Int)),some (.ref n),some (.int (1 + (d:Int))),some (.ref sd),some (.ref l),some (.int (i:Int)),y9,y10]∧IPL J l ts TI∧TI.length≤30∧(∀ q∈TI,q.1 < q.2∧q.2 < m)∧TI.Pairwise qfm∧∀ q∈TI,q.1 < i∨(q.1=i∧q.2 < i + 1 + k))
      ⟨sJ,hBJ,hnJ,ts,TI,_,_,rfl,hI,hfew,hok,hso,fun q hq=>.inl (hlt q hq)⟩ (fun k σ J hk hp=>?_) fun σ J hp=>?_
     ·obtain ⟨sJ,hBJ,hnJ,ts,TI,y9,y10,rfl,hI,hfew,hok,hso,hlt⟩:=hp
      walk_at "vc"
      refine ⟨p,4,rfl,hBJ,by decide,by decide,fun d2 J2 hd2 b6 hB6=>?_⟩
      have s6:=But.same7 sJ hp0 b6
      have hn6:=b6 _ _ hnp hnJ
      have hI6:IPL J2 l ts TI:=⟨b6 _ _ hlp hI.1,hI.2.mono fun t q z=>b6 _ _ (fun e=>by obtain ⟨v,_,e2⟩:=hBJ;rw [e,e2] at z;cases z) z⟩
      have skip:L2.Same H J2∧Bx J2 p∧J2 n=some (.lst (ss.map V.str))∧IPL J2 l ts TI:=⟨s6,hB6,hn6,hI6⟩
      have hlt':∀ q∈TI,q.1 < i∨(q.1=i∧q.2 < i + 1 + (k + 1)):=fun q hq=>by have:=hlt q hq;omega
      walk_at "vc"
      by_cases hdt:(d2:Int) < 1 + (d:Int)
      ·rw [decide_eq_true hdt]
       refine qau ?_
       walk_at "vc"
       refine qau ?_
       walk_at "vc"
       refine qau ?_
       walk_at "vc"
       refine qaV hI6.1 ?_
       walk_at "vc"
       by_cases h30:TI.length < 30
       ·rw [decide_eq_true (show (((ts.map V.ref).length:Nat):Int) < 30 by rw [List.length_map,hI.2.len];omega)]
        refine qau ?_
        walk_at "vc"
        refine ⟨.inl ⟨rfl,_,.of hI6.1⟩,?_⟩
        walk_at "vc"
        refine ⟨by show 2≤sizeLine;decide,fun t ht0=>?_⟩
        have s67:=qF (L2.Same.refl J2) (o:=.tup [.int (i:Int),.int ((i:Int) + 1 + (k:Int))]) ht0
        have ht7:upd J2 t (.tup [.int (i:Int),.int ((i:Int) + 1 + (k:Int))]) t=some (iT (i,i + 1 + k)):=by
         rw [qd]
         show _=some (HO.tup [_,V.int ((i + 1 + k:Nat):Int)])
         rw [show ((i + 1 + k:Nat):Int)=(i:Int) + 1 + (k:Int) by omega]
        have s7:=s6.trans s67
        generalize upd J2 t (.tup [.int (i:Int),.int ((i:Int) + 1 + (k:Int))])=J7 at s67 ht7 s7
        have hI7:=hI6.same s67
        walk_at "vc"
        refine ⟨l,_,_,rfl,rfl,hI7.1,by rw [List.length_map,hI.2.len];exact qk (by omega),?_⟩
        have hnt:∀ {c:Addr} {o:HO},J7 c=some o→(∀ xs,o≠.lst xs)→c≠l:=fun e hne z=>by rw [z,hI7.1] at e;cases e;exact hne _ rfl
        refine ⟨Same.set7 s7 hlH,hB6.elim fun v h=>⟨v,h.1,by rw [qi (Ne.symm hlp)];exact s67 _ _ h.2⟩,by rw [qi (Ne.symm hln)];exact s67 _ _ hn6,ts++[t],TI++[(i,i + 1 + k)],_,_,rfl,⟨by rw [qd,List.map_append];rfl,?_⟩,by rw [List.length_append];show TI.length + 1≤30;omega,fun q hq=>?_,?_,fun q hq=>?_⟩
        ·refine All2.snoc (hI7.2.mono fun t' q z=>?_) ?_
         ·rw [qi (hnt z fun xs e=>by cases e)];exact z
         ·rw [qi (hnt ht7 fun xs e=>by cases e)];exact ht7
        ·rcases List.mem_append.mp hq with z | z
         ·exact hok q z
         ·rw [List.mem_singleton.mp z];show i < i + 1 + k∧i + 1 + k < m;omega
        ·refine List.pairwise_append.mpr ⟨hso,List.pairwise_singleton _ _,fun a ha b hb=>?_⟩
         rw [List.mem_singleton.mp hb]
         rcases hlt a ha with z | z
         ·exact .inl z
         ·exact .inr z
        ·rcases List.mem_append.mp hq with z | z
         ·exact hlt' q z
         ·rw [List.mem_singleton.mp z];exact .inr ⟨rfl,by show i + 1 + k < _;omega⟩
       ·rw [decide_eq_false (show ¬ (((ts.map V.ref).length:Nat):Int) < 30 by rw [List.length_map,hI.2.len];omega)]
        refine qQ (fun h=>by cases h) fun _=>?_
        walk_at "vc"
        exact ⟨skip.1,skip.2.1,skip.2.2.1,ts,TI,_,_,rfl,skip.2.2.2,hfew,hok,hso,hlt'⟩
      ·rw [decide_eq_false hdt]
       refine qQ (fun h=>by cases h) fun _=>?_
       walk_at "vc"
       refine qQ (fun h=>by cases h) fun _=>?_
       refine qQ (fun h=>by cases h) fun _=>?_
       walk_at "vc"
       exact ⟨skip.1,skip.2.1,skip.2.2.1,ts,TI,_,_,rfl,skip.2.2.2,hfew,hok,hso,hlt'⟩
     ·obtain ⟨sJ,hBJ,hnJ,ts,TI,y9,y10,rfl,hI,hfew,hok,hso,hlt⟩:=hp
      exact ⟨sJ,hBJ,hnJ,ts,TI,_,_,_,rfl,hI,hfew,hok,hso,fun q hq=>by have:=hlt q hq;omega⟩
    ·obtain ⟨sJ,hBJ,hnJ,ts,TI,y8,y9,y10,rfl,hI,hfew,hok,hso,hlt⟩:=hp
     walk_at "vc"
     refine ⟨by show 2≤sizeLine;decide,fun t ht0=>hD _ _ ?_⟩
     have s8:=qF (L2.Same.refl J) (o:=.tup [.ref n,.ref l]) ht0
     exact q t n l ss ts TI _ (sJ.trans s8) qd (s1.free hn0) (s8 _ _ hnJ) hO hlH (hI.same s8) ⟨hfew,fun q hq=>by rw [hsl];exact hok q hq,hso⟩
  walk_at "vc"
  refine ⟨c,rfl,fun p H1 s1 hp0 hB1=>?_⟩
  walk_at "vc"
  refine ⟨p,8,rfl,hB1,by decide,by decide,fun m H2 hm b2 hB2=>?_⟩
  have s2:=But.same7 s1 hp0 b2
  walk_at "vc"
  refine ⟨p,8,rfl,hB2,by decide,by decide,fun m2 H3 hm2 b3 hB3=>?_⟩
  have s3:=But.same7 s2 hp0 b3
  walk_at "vc"
  refine qco ?_
  walk_at "vc"
  refine qQ (fun h=>?_) (fun h=>?_)
  ·walk_at "vc"
   refine ⟨p,15,rfl,hB3,by decide,by decide,fun m4 H4 hm4 b4 hB4=>?_⟩
   walk_at "vc"
   rw [hTC3]
   exact ⟨fun _ _ z=>z,p,m4,_,_,_,_,_,_,_,rfl,But.same7 s3 hp0 b4,hp0,hB4,by omega⟩
  ·walk_at "vc"
   rw [hTC3]
   exact ⟨fun _ _ z=>z,p,m,_,_,_,_,_,_,_,rfl,s3,hp0,hB3,by omega⟩
end
theorem sc_l_gone:FnScope ["_law_trail"] ["_law_trail"] (qb zX):=⟨rfl,rfl,rfl,by decide +kernel,rfl,by decide +kernel,by decide +kernel⟩
theorem sc_l_moves:FnScope ["_law_ties", "_law_trail", "_law_gone_here", "_law_here", "_law_beside"] ["_law_ties", "_law_trail"] (qb zo):=⟨rfl,rfl,rfl,by decide +kernel,rfl,by decide +kernel,by decide +kernel⟩
theorem sc_l_named:FnScope ["_law_names_here", "_law_ties"] ["_law_names_here", "_law_ties"] (qb zp):=⟨rfl,rfl,rfl,by decide +kernel,rfl,by decide +kernel,by decide +kernel⟩
abbrev iV (n:Nat):V:=.int (n:Int)
abbrev iVs (L:List Nat):List V:=L.map iV
theorem qdl {xs:List Nat} {z:Nat} (h:xs.getLast?=some z):atI (iVs xs) (-1)=some (iV z):=by
 have e:(iVs xs).getLast?=some (iV z):=by rw [List.getLast?_map,h];rfl
 rw [List.getLast?_eq_getElem?] at e
 have hl:=(List.getElem?_eq_some_iff.mp e).1
 unfold atI ixN
 rw [if_neg (by decide),if_pos (by omega)]
 have e2:(-1 + ((iVs xs).length:Int)).toNat=(iVs xs).length - 1:=by omega
 show (iVs xs)[(-1 + ((iVs xs).length:Int)).toNat]?=_
 rw [e2]
 exact e
theorem qea {q q':Nat×Nat} (h:some (iT q')=some (iT q)):q'=q:=by
 injection h with h
 injection h with h
 injection h with h1 h2
 injection h1 with h1
 injection h2 with h2 _
 injection h2 with h2
 exact Prod.ext (by omega) (by omega)
theorem ipair_eqD {K:W.Frag} {H:Hp} {a b:Addr} {q q':Nat×Nat} (hb:H b=some (iT q')) (ha:H a=some (iT q)):EqD K H 1 (.ref b) (.ref a) (decide (q'=q)):=by
 by_cases e:b=a
 ·subst e
  rw [hb] at ha
  have:q'=q:=qea ha
  rw [decide_eq_true this]
  exact .self
 ·have z:=EqT.tup (K:=K) (H:=H) (n:=0) (e:=fun j=>if j=0 then eqV (iV q'.1) (iV q.1) else eqV (iV q'.2) (iV q.2)) (SqT.of hb) (SqT.of ha) fun j x y hx hy=>by
   match j,hx,hy with
   | 0,hx,hy=>cases hx;cases hy;exact .flat rfl rfl
   | 1,hx,hy=>cases hx;cases hy;exact .flat rfl rfl
   | n + 2,hx,hy=>simp at hx
  have ee:((List.range (min [iV q'.1,iV q'.2].length [iV q.1,iV q.2].length)).all (fun j=>if j=0 then eqV (iV q'.1) (iV q.1) else eqV (iV q'.2) (iV q.2))&&[iV q'.1,iV q'.2].length==[iV q.1,iV q.2].length)=decide (q'=q):=by
   have e1:eqV (iV q'.1) (iV q.1)=decide (q'.1=q.1):=by
    have:=zw (q'.1:Int) (q.1:Int)
    rw [if_neg (by decide)] at this
    rw [this]
    exact decide_eq_decide.mpr (by omega)
   have e2:eqV (iV q'.2) (iV q.2)=decide (q'.2=q.2):=by
    have:=zw (q'.2:Int) (q.2:Int)
    rw [if_neg (by decide)] at this
    rw [this]
    exact decide_eq_decide.mpr (by omega)
   show ((if (0:Nat)=0 then eqV (iV q'.1) (iV q.1) else eqV (iV q'.2) (iV q.2))&&((if (1:Nat)=0 then eqV (iV q'.1) (iV q.1) else eqV (iV q'.2) (iV q.2))&&true)&&true)=_
   rw [if_pos rfl,if_neg (by decide),e1,e2,Bool.and_true,Bool.and_true]
   rw [Bool.eq_iff_iff,Bool.and_eq_true,decide_eq_true_iff,decide_eq_true_iff,decide_eq_true_iff]
   exact ⟨fun h=>Prod.ext h.1 h.2,fun h=>by rw [h];exact ⟨rfl,rfl⟩⟩
  rw [ee] at z
  exact .deep z e
theorem qcJ {K:W.Frag} {H:Hp} {l a:Addr} {ts:List Addr} {TI:List (Nat×Nat)} {q0:Nat×Nat} {Q:VK} (h:IPL H l ts TI) (ha:H a=some (iT q0)) (q:Q (.bl (!decide (q0∈TI))) H):qfO K true (.ref a) (.ref l) H Q:=by
 classical
 refine .inr (.inr ⟨l,ts.map V.ref,fun z=>decide (∃ t,z=.ref t∧H t=some (iT q0)),1,rfl,SqL.of h.1,by decide,fun z hz=>?_,?_⟩)
 ·obtain ⟨b,hb,rfl⟩:=List.mem_map.mp hz
  obtain ⟨q',_,r⟩:=h.2.mem hb
  have e:=ipair_eqD (K:=K) r ha
  have ee:decide (∃ t,V.ref b=.ref t∧H t=some (iT q0))=decide (q'=q0):=by
   apply decide_eq_decide.mpr
   constructor
   ·rintro ⟨t,e1,e2⟩
    cases e1
    rw [r] at e2
    exact qea e2
   ·rintro rfl
    exact ⟨b,rfl,r⟩
  show EqD K H 1 (.ref b) (.ref a) (decide (∃ t,V.ref b=.ref t∧H t=some (iT q0)))
  rw [ee]
  exact e
 ·have e:((ts.map V.ref).any fun z=>decide (∃ t,z=.ref t∧H t=some (iT q0)))=decide (q0∈TI):=by
   rw [Bool.eq_iff_iff,List.any_eq_true,decide_eq_true_iff]
   constructor
   ·rintro ⟨z,hz,e⟩
    obtain ⟨t,ht,rfl⟩:=List.mem_map.mp hz
    obtain ⟨q',hq',r⟩:=h.2.mem ht
    obtain ⟨t',e1,e2⟩:=of_decide_eq_true e
    cases e1
    rw [r] at e2
    have:q'=q0:=qea e2
    rw [← this]
    exact hq'
   ·intro hm
    obtain ⟨k,hk,e⟩:=List.getElem_of_mem hm
    have hk':k < ts.length:=by rw [h.2.len];exact hk
    have r:=h.2.at_ k ts[k] TI[k] (List.getElem?_eq_getElem hk') (List.getElem?_eq_getElem hk)
    exact ⟨.ref ts[k],List.mem_map.mpr ⟨_,List.getElem_mem hk',rfl⟩,decide_eq_true ⟨ts[k],rfl,by rw [r,e]⟩⟩
  rw [if_pos rfl,e]
  exact q
def qgc:Sp:=fun vs H Q _=>∃ (t:Addr) (tr:List Nat),vs=[.ref t]∧H t=some (.lst (iVs tr))∧tr.length≤100∧∀ (l:Addr) (ts:List Addr) (H':Hp),L2.Same H H'→H l=none→IPL H' l ts (gnI tr)→Q (.ref l) H'
def qeo:Sp:=fun vs H Q _=>∃ (l t:Addr) (ts:List Addr) (n:Nat) (TI:List (Nat×Nat)) (tr:List Nat) (h:Nat),vs=[.ref l,.ref t]∧IPL H l ts TI∧TIok n TI∧H t=some (.lst (iVs tr))∧tr.length≤100∧tr.getLast?=some h∧∀ (r:Addr) (H':Hp),L2.Same H H'→H r=none→H' r=some (.lst (iVs (mvI n TI tr h)))→Q (.ref r) H'
def qgd:Sp:=fun vs H Q _=>∃ (n l:Addr) (ss:List Str) (ts:List Addr) (TI:List (Nat×Nat)),vs=[.ref n,.ref l]∧H n=some (.lst (ss.map V.str))∧IPL H l ts TI∧TI.length≤200∧(∀ q∈TI,q.1 < ss.length∧q.2 < ss.length)∧∀ (r:Addr) (us:List Addr) (H':Hp),L2.Same H H'→H r=none→PL H' r us (TI.map (nmP ss))→Q (.ref r) H'
theorem qaS {K:W.Frag} {H:Hp} {n:Addr} {ss:List Str} {i:Nat} {Q:VK} (h:H n=some (.lst (ss.map V.str))) (hi:i < ss.length) (q:Q (.str (tn ss i)) H):qf9 K (.ref n) (.int (i:Int)) H Q:=
 .inl (qaC h (v:=.str (tn ss i)) (ju (by rw [List.getElem?_map,qcH hi];rfl)) q)
section
variable {P:Program} {w:World} {K:W.Frag} {mg:Str→Option Value} {base:Heap} {cc:Nat→Addr} {cw:Addr}
theorem ok_gn {f:Addr} {fd:FuncData} (F:Fun K "_law_gone" "_law_gone" zX f fd) (T:Txt K mg cc cw):FnOk P w K mg base CX0 1 f fd ["_law_trail"] qgc:=by
 refine F.ok sc_l_gone (fun vs H Q E h=>?_) fun cdv A outer s H vs Q E hr h=>?_
 ·obtain ⟨t,tr,rfl,_⟩:=h;rfl
 ·obtain ⟨t,tr,rfl,ht,l100,q⟩:=h
  refine ⟨_,(qf (qm (zj (sc:=qb zX) (XN:=["_law_trail"]) ["_law_one", "_law_other"] 2 [] rfl rfl rfl (by decide +kernel) rfl (by decide +kernel)
  (qdW (K:=K) rfl rfl T.b_zip (qa (pv 0) (qa (qak (qfu (K:=K) rfl) (pv 0) (zN qg) qbG) qc))) (fun _ _ _ _=>(qax (n:=2) rfl (qS (qt (i:=0) (show (["_law_one", "_law_other"]:List Str).Nodup by decide +kernel) rfl (Or.inl rfl)) (qS (qt (i:=1) (show (["_law_one", "_law_other"]:List Str).Nodup by decide +kernel) rfl (Or.inl rfl)) zL)))) qbf
  (fun _ _ _ _=>zS)
  (fun _ _ _ _=>(jD (qa (qp (qbY rfl) rfl T.b_min boot_min (qa (pv 0) (qa (pv 1) qc))) (qa (qp (call_max2 rfl) rfl T.b_max boot_max (qa (pv 0) (qa (pv 1) qc))) qc))))))),?_⟩
  walk_at "vc"
  refine qgr ?_
  walk_at "vc"
  refine .inl ⟨t,_,rfl,SqL.of ht,fun d hd=>?_⟩
  have ec:qbH (iVs tr) (some 1) none=iVs tr.tail:=by
   have:=qcd (iVs tr) 1
   rw [← List.map_drop,List.drop_one] at this
   exact this
  rw [ec]
  have s1:=qF (L2.Same.refl H) (o:=.lst (iVs tr.tail)) hd
  have hd1:upd H d (.lst (iVs tr.tail)) d=some (.lst (iVs tr.tail)):=qd
  generalize upd H d (.lst (iVs tr.tail))=H1 at s1 hd1
  walk_at "vc"
  refine ⟨t,d,_,_,rfl,SqL.of (s1 _ _ ht),SqL.of hd1,qc6 (xs:=iVs tr) (ys:=iVs tr.tail) (by simp) (fun i zs J=>L2.Same H1 J∧∃ ts:List Addr,zs=ts.map V.ref∧All2 (fun t q=>J t=some (iT q)) ts ((gnI tr).take i)) ⟨L2.Same.refl H1,[],rfl,.nil⟩ (fun i zs J _ hp'=>⟨SqL.of (hp'.1 _ _ (s1 _ _ ht)),SqL.of (hp'.1 _ _ hd1)⟩) (fun i u v t2 zs J hu1 hv1 ht2 hp'=>?_) fun zs J hp'=>?_⟩
  ·obtain ⟨s2,ts,rfl,hA⟩:=hp'
   rw [List.getElem?_map] at hu1 hv1
   obtain ⟨u,hu2,rfl⟩:=Option.map_eq_some_iff.mp hu1
   obtain ⟨v,hv2,rfl⟩:=Option.map_eq_some_iff.mp hv1
   clear hu1 hv1
   have s3:=qF s2 (o:=.tup [iV u,iV v]) ht2
   have s23:=qF (L2.Same.refl J) (o:=.tup [iV u,iV v]) ht2
   refine ⟨t2,_,rfl,.of qd,rfl,_,_,rfl,_,_,rfl,rfl,?_⟩
   generalize upd J t2 (.tup [iV u,iV v])=J3 at s3 s23
   walk_at "vc"
   refine qau ?_
   walk_at "vc"
   refine ⟨_,_,rfl,?_⟩
   walk_at "vc"
   refine ⟨_,_,rfl,?_⟩
   walk_at "vc"
   have e1:(if (v:Int) < (u:Int) then (v:Int) else (u:Int))=((min u v:Nat):Int):=by split<;>omega
   have e2:(if (v:Int) > (u:Int) then (v:Int) else (u:Int))=((max u v:Nat):Int):=by split<;>omega
   rw [e1,e2]
   refine ⟨by show 2≤sizeLine;decide,fun m hm=>?_⟩
   have hlen:ts.length≤100:=by rw [hA.len,List.length_take,qbB];omega
   refine ⟨by rw [List.length_map];exact qk (by omega),qF s3 hm,ts++[m],by rw [List.map_append];rfl,?_⟩
   rw [qd8 tr i u v hu2 hv2]
   exact (hA.mono fun t' q z=>qF (L2.Same.refl J3) hm _ _ (s23 _ _ z)).snoc qd
  ·obtain ⟨s2,ts,rfl,hA⟩:=hp'
   have e:(iVs tr.tail).length=(gnI tr).length:=by rw [List.length_map,List.length_tail,qbB]
   rw [e,List.take_length] at hA
   have hlen:ts.length≤100:=by rw [hA.len,qbB];omega
   refine ⟨by rw [List.length_map];exact Nat.le_of_lt (qk (by omega)),fun l hl=>?_⟩
   exact q l ts _ (qF (s1.trans s2) hl) ((s1.trans s2).free hl) ⟨qd,hA.mono fun t q z=>qF (L2.Same.refl J) hl _ _ z⟩
theorem ok_mvI {f:Addr} {fd:FuncData} (F:Fun K "_law_moves" "_law_moves" zo f fd) (T:Txt K mg cc cw) (D_l_gone:DefOk P w K mg base CX0 1 "_law_gone" ["_law_trail"] qgc):FnOk P w K mg base CX0 2 f fd ["_law_ties", "_law_trail"] qeo:=by
 refine F.ok sc_l_moves (fun vs H Q E h=>?_) fun cdv A outer s H vs Q E hr h=>?_
 ·obtain ⟨l,t,ts,n,TI,tr,h,rfl,_⟩:=h;rfl
 ·obtain ⟨l,t,ts,n,TI,tr,h,rfl,hI,hT,ht,l100,hh,q⟩:=h
  have hu:=zZ hr
  refine ⟨_,(qe (qw (i:=2) sc_l_moves.nd rfl (Or.inr rfl) (qq D_l_gone (hmR hr) qx (qa (pv 1) qc)))
 (qe (qw (i:=3) sc_l_moves.nd rfl (Or.inr rfl) (qD (qE (K:=K) rfl hu) (pv 1) (qdD qbX qg) (fun _ _=>rfl)))
 (qe (qbb (sc:=qb zo) (XN:=["_law_ties", "_law_trail", "_law_gone_here", "_law_here", "_law_beside"]) ["_law_i", "_law_j", "_law_here", "_law_gone_here"] 2 [3,2] rfl rfl rfl (by decide +kernel) rfl (by decide +kernel) (i:=4) sc_l_moves.nd rfl rfl
  (qcf (K:=K) rfl (pv 0)) (fun _ _ _ _=>(qax (n:=2) rfl (qS (qt (i:=0) (show (["_law_i", "_law_j", "_law_here", "_law_gone_here"]:List Str).Nodup by decide +kernel) rfl (Or.inl rfl)) (qS (qt (i:=1) (show (["_law_i", "_law_j", "_law_here", "_law_gone_here"]:List Str).Nodup by decide +kernel) rfl (Or.inl rfl)) zL)))) qbf
  (fun _ _ _ _=>(zb (PW.pt (qcM (qu (qfd (K:=K) rfl hu) (pv 2) (jD (qa (pv 0) (qa (pv 1) qc))) (by with_unfolding_all rfl)) (qbD (qu (qal (K:=K) rfl hu) (jD (qa (pv 0) (qa (pv 1) qc))) (pv 3) (by with_unfolding_all rfl)))))))
  (fun _ _ _ _=>(qB qcR (qB (qaa (K:=K) rfl) (pv 0) (pv 1)) (pv 2))))
 (qf (qm (qp (k_sorted (K:=K) rfl) rfl T.b_sorted boot_sorted (qa (pv 4) qc))))))),?_⟩
  walk_at "vc"
  refine ⟨t,tr,rfl,ht,l100,fun g gs H1 s1 hg0 hG=>?_⟩
  walk_at "vc"
  refine vU ?_
  refine .inl (qaC (s1 _ _ ht) (qdl hh) ?_)
  walk_at "vc"
  refine qdV ?_
  walk_at "vc"
  have hI1:=hI.same s1
  refine ⟨l,_,rfl,.of hI1.1,jl (xs:=ts.map V.ref) (fun i ys J=>L2.Same H1 J∧ys=((bsI (TI.take i) tr h).map V.int)) ⟨L2.Same.refl H1,rfl⟩ (fun i ys J _ hp'=>.of (hp'.1 _ _ hI1.1)) (fun i x ys J hx hp'=>?_) fun ys J hp'=>?_⟩
  ·obtain ⟨s2,rfl⟩:=hp'
   rw [List.getElem?_map] at hx
   obtain ⟨u,hu2,rfl⟩:=Option.map_eq_some_iff.mp hx
   have hi:i < TI.length:=by rw [← hI.2.len];exact (List.getElem?_eq_some_iff.mp hu2).1
   obtain ⟨p,hp⟩:∃ p,TI[i]?=some p:=⟨_,List.getElem?_eq_getElem hi⟩
   have hup:=s2 _ _ (hI1.2.at_ i u p hu2 hp)
   refine ⟨u,_,rfl,.of hup,rfl,_,_,rfl,_,_,rfl,rfl,?_⟩
   walk_at "vc"
   refine ⟨by show 2≤sizeLine;decide,fun m hm=>?_⟩
   have s3:=qF s2 (o:=iT p) hm
   have hm3:upd J m (iT p) m=some (iT p):=qd
   generalize upd J m (iT p)=J3 at s3 hm3
   walk_at "vc"
   refine .inl ⟨m,_,rfl,.inr (SqT.of hm3),rfl,rfl,?_⟩
   have ein:(if false=true then !inV (iV h) [iV p.1,iV p.2] else inV (iV h) [iV p.1,iV p.2])=(decide (h=p.1)||decide (h=p.2)):=by
    rw [if_neg (by decide)]
    have a1:=zw (p.1:Int) (h:Int)
    have a2:=zw (p.2:Int) (h:Int)
    rw [if_neg (by decide)] at a1 a2
    show (eqV (iV p.1) (iV h)||(eqV (iV p.2) (iV h)||false))=_
    rw [a1,a2,Bool.or_false]
    congr 1<;>exact decide_eq_decide.mpr (by omega)
   rw [ein]
   have ebs:bsI (TI.take (i + 1)) tr h=bsI (TI.take i) tr h++bsI [p] tr h:=by
    unfold bsI
    rw [List.take_add_one,hp,List.filter_append,List.map_append]
    rfl
   rw [ebs,List.map_append]
   have hbl:(bsI (TI.take i) tr h).length≤30:=by
    unfold bsI
    rw [List.length_map]
    have:=List.length_filter_le (fun p:Nat×Nat=>(decide (h=p.1)||decide (h=p.2))&&!decide (p∈gnI tr)) (TI.take i)
    rw [List.length_take] at this
    have:=hT.few
    omega
   walk_at "vc"
   cases e1:(decide (h=p.1)||decide (h=p.2)) with
   | false =>
    refine qQ (fun h=>by cases h) fun _=>?_
    refine qQ (fun h=>by cases h) fun _=>?_
    have e2:bsI [p] tr h=[]:=by unfold bsI;rw [List.filter_cons,e1];rfl
    rw [e2]
    exact ⟨s3,by simp⟩
   | true =>
    refine qau ?_
    walk_at "vc"
    refine ⟨by show 2≤sizeLine;decide,fun m2 hm2=>?_⟩
    have s4:=qF s3 (o:=iT p) hm2
    have hm4:upd J3 m2 (iT p) m2=some (iT p):=qd
    generalize upd J3 m2 (iT p)=J4 at s4 hm4
    walk_at "vc"
    refine qcJ (hG.same s4) hm4 ?_
    walk_at "vc"
    cases e2:(!decide (p∈gnI tr)) with
    | false =>
     refine qQ (fun h=>by cases h) fun _=>?_
     have e3:bsI [p] tr h=[]:=by unfold bsI;rw [List.filter_cons,e1,e2];rfl
     rw [e3]
     exact ⟨s4,by simp⟩
    | true =>
     refine qau ?_
     walk_at "vc"
     have e3:bsI [p] tr h=[(p.1:Int) + (p.2:Int) - (h:Int)]:=by unfold bsI;rw [List.filter_cons,e1,e2];rfl
     rw [e3]
     exact ⟨by rw [List.length_map];exact qk (by omega),s4,rfl⟩
  ·obtain ⟨s2,rfl⟩:=hp'
   have e:(ts.map V.ref).length=TI.length:=by rw [List.length_map,hI.2.len]
   rw [e,List.take_length]
   have hbl:(bsI TI tr h).length≤30:=by
    unfold bsI
    rw [List.length_map]
    exact Nat.le_trans (List.length_filter_le _ _) hT.few
   refine ⟨by rw [List.length_map];exact Nat.le_of_lt (qk (by omega)),fun b hb=>?_⟩
   have s3:=qF (s1.trans s2) (o:=.lst ((bsI TI tr h).map V.int)) hb
   walk_at "vc"
   refine ⟨b,bsI TI tr h,rfl,.of qd,by omega,fun r ms hr0 hp hs=>?_⟩
   have em:=bs_sorted hT hp hs
   subst em
   refine q r _ (qF s3 hr0) (s3.free hr0) ?_
   rw [qd,List.map_map]
   rfl
theorem ok_nd {f:Addr} {fd:FuncData} (F:Fun K "_law_named" "_law_named" zp f fd):FnOk P w K mg base CX0 1 f fd ["_law_names_here", "_law_ties"] qgd:=by
 refine F.ok sc_l_named (fun vs H Q E h=>?_) fun cdv A outer s H vs Q E hr h=>?_
 ·obtain ⟨n,l,ss,ts,TI,rfl,_⟩:=h;rfl
 ·obtain ⟨n,l,ss,ts,TI,rfl,hn,hI,h200,hok,q⟩:=h
  have hu:=zZ hr
  refine ⟨_,(qf (qm (zj (sc:=qb zp) (XN:=["_law_names_here", "_law_ties"]) ["_law_i", "_law_j", "_law_names_here"] 2 [0] rfl rfl rfl (by decide +kernel) rfl (by decide +kernel)
  (qcf (K:=K) rfl (pv 1)) (fun _ _ _ _=>(qax (n:=2) rfl (qS (qt (i:=0) (show (["_law_i", "_law_j", "_law_names_here"]:List Str).Nodup by decide +kernel) rfl (Or.inl rfl)) (qS (qt (i:=1) (show (["_law_i", "_law_j", "_law_names_here"]:List Str).Nodup by decide +kernel) rfl (Or.inl rfl)) zL)))) qbf
  (fun _ _ _ _=>zS)
  (fun _ _ _ _=>(jD (qa (qD (qE (K:=K) rfl hu) (pv 2) (pv 0) (fun _ _=>rfl)) (qa (qD (qE (K:=K) rfl hu) (pv 2) (pv 1) (fun _ _=>rfl)) qc))))))),?_⟩
  walk_at "vc"
  refine qdV ?_
  walk_at "vc"
  refine ⟨l,_,rfl,.of hI.1,jl (xs:=ts.map V.ref) (fun i ys J=>L2.Same H J∧∃ us:List Addr,ys=us.map V.ref∧All2 (fun t ab=>J t=some (.tup [.str ab.1,.str ab.2])) us ((TI.take i).map (nmP ss))) ⟨L2.Same.refl H,[],rfl,.nil⟩ (fun i ys J _ hp'=>.of (hp'.1 _ _ hI.1)) (fun i x ys J hx hp'=>?_) fun ys J hp'=>?_⟩
  ·obtain ⟨s2,us,rfl,hA⟩:=hp'
   rw [List.getElem?_map] at hx
   obtain ⟨u,hu2,rfl⟩:=Option.map_eq_some_iff.mp hx
   have hi:i < TI.length:=by rw [← hI.2.len];exact (List.getElem?_eq_some_iff.mp hu2).1
   obtain ⟨p,hp⟩:∃ p,TI[i]?=some p:=⟨_,List.getElem?_eq_getElem hi⟩
   have hup:=s2 _ _ (hI.2.at_ i u p hu2 hp)
   have hpo:=hok p (List.mem_of_getElem? hp)
   refine ⟨u,_,rfl,.of hup,rfl,_,_,rfl,_,_,rfl,rfl,?_⟩
   walk_at "vc"
   refine qau ?_
   walk_at "vc"
   refine qaS (s2 _ _ hn) hpo.1 ?_
   walk_at "vc"
   refine qaS (s2 _ _ hn) hpo.2 ?_
   walk_at "vc"
   refine ⟨by show 2≤sizeLine;decide,fun m hm=>?_⟩
   have hlen:us.length≤200:=by rw [hA.len,List.length_map,List.length_take];omega
   refine ⟨by rw [List.length_map];exact qk (by omega),qF s2 hm,us++[m],by rw [List.map_append];rfl,?_⟩
   rw [List.take_add_one,hp,List.map_append]
   exact (hA.mono fun t' q z=>qF (L2.Same.refl J) hm _ _ z).snoc qd
  ·obtain ⟨s2,us,rfl,hA⟩:=hp'
   have e:(ts.map V.ref).length=TI.length:=by rw [List.length_map,hI.2.len]
   rw [e,List.take_length] at hA
   have hlen:us.length≤200:=by rw [hA.len,List.length_map];omega
   refine ⟨by rw [List.length_map];exact Nat.le_of_lt (qk (by omega)),fun r hr0=>?_⟩
   exact q r us _ (qF s2 hr0) (s2.free hr0) ⟨qd,hA.mono fun t ab z=>qF (L2.Same.refl J) hr0 _ _ z⟩
end
theorem sc_l_web:FnScope ["_law_names_here", "_law_ties", "_law_handed"] ["_law_names_here", "_law_ties"] (qb qai):=⟨rfl,rfl,rfl,by decide +kernel,rfl,by decide +kernel,by decide +kernel⟩
theorem sc_l_texts:FnScope ["_law_found", "_law_due"] ["_law_found", "_law_due"] (qb zH):=⟨rfl,rfl,rfl,by decide +kernel,rfl,by decide +kernel,by decide +kernel⟩
def swP (ab:Str×Str):Str×Str:=(ab.2,ab.1)
def evP (p:Nat×Nat):Bool:=decide ((p.1 + p.2) % 2=0)
def hdU (ss:List Str) (TI:List (Nat×Nat)):List (Str×Str):=(TI.filter fun p=>!evP p).map (fun p=>swP (nmP ss p))++((TI.filter evP).map (nmP ss)).reverse
theorem qcp {α:Type} (f:α→Bool):∀ l:List α,(l.filter (fun x=>!f x)++l.filter f).Perm l
 | []=>.nil
 | a::l=>by
  have ih:=qcp f l
  rw [List.filter_cons,List.filter_cons]
  cases f a with
  | false=>exact .cons a ih
  | true=>exact (List.perm_middle).trans (.cons a ih)
theorem hd_shuf (ss:List Str) (TI:List (Nat×Nat)):Shuf (TI.map (nmP ss)) (hdU ss TI):=by
 refine ⟨TI.map fun p=>if evP p=true then nmP ss p else swP (nmP ss p),?_,by rw [List.length_map,List.length_map],fun k a b ha hb=>?_⟩
 ·have e1:(TI.filter fun p=>!evP p).map (fun p=>swP (nmP ss p))=(TI.filter fun p=>!evP p).map fun p=>if evP p=true then nmP ss p else swP (nmP ss p):=by
   refine List.map_congr_left fun p hp=>?_
   have:=(List.mem_filter.mp hp).2
   rw [if_neg (by simpa using this)]
  have e2:(TI.filter evP).map (nmP ss)=(TI.filter evP).map fun p=>if evP p=true then nmP ss p else swP (nmP ss p):=by
   refine List.map_congr_left fun p hp=>?_
   rw [if_pos (List.mem_filter.mp hp).2]
  unfold hdU
  rw [e1,e2]
  refine (List.Perm.append_left _ (List.reverse_perm _)).trans ?_
  rw [← List.map_append]
  exact (qcp evP TI).map _
 ·rw [List.getElem?_map] at ha hb
  cases e:TI[k]? with
  | none=>rw [e] at ha;cases ha
  | some p =>
   rw [e] at ha hb
   cases ha
   cases hb
   by_cases h:evP p=true
   ·exact .inl (if_pos h)
   ·exact .inr (if_neg h)
theorem qcq {cc:Nat→Addr} {cw:Addr} {G:Hp} {c1 l' x dx:Addr} {ss:List Str} {us:List Addr} {tps ups:List (Str×Str)} {Q:VK} {E:XK} (h1:G c1=some (.lst (ss.map V.str))∨G c1=some (.tup (ss.map V.str))) (h2:G l'=some (.lst (us.map V.ref))∨G l'=some (.tup (us.map V.ref))) (hA:All2 (fun t ab=>G t=some (.tup [.str ab.1,.str ab.2])) us ups)
  (hO:NOk ss) (hT:TOk ss tps) (sh:Shuf tps ups) (hx0:G x=none) (hdx:G dx=none) (hne:x≠dx) (q:∀ ns H',L2.Same G H'→WebN G cw H' x ss ns→qaf ss ns ups→Q .non H') :
  qdy cc cw [.ref x,.ref c1,.ref l'] (upd (upd G dx (.own x)) x (.ins cw dx [])) Q E:=by
 have s0:L2.Same G (upd (upd G dx (.own x)) x (.ins cw dx [])):=qF (qF (L2.Same.refl G) hdx) (by rw [qi hne];exact hx0)
 have hl0:=hA.mono fun t ab z=>s0 _ _ z
 have mk0:=qd6 (H:=upd (upd G dx (.own x)) x (.ins cw dx [])) (v:=.ref c1) (v2:=.ref l') hO hT sh hl0
 have nx:∀ {a:Addr} {o:HO},G a=some o→a≠x:=fun e z=>by rw [z,hx0] at e;cases e
 have t1:∀ v∈ss.map V.str,Th x (upd (upd G dx (.own x)) x (.ins cw dx [])) 2 v:=fun v hv=>by
  obtain ⟨s,hs,rfl⟩:=List.mem_map.mp hv
  exact Th.flat rfl fun z e=>by cases e;have:=jv (hO.nm _ hs);omega
 have t2:∀ v∈us.map V.ref,Th x (upd (upd G dx (.own x)) x (.ins cw dx [])) 2 v:=fun v hv=>by
  obtain ⟨u,hu',rfl⟩:=List.mem_map.mp hv
  obtain ⟨ab,hab,eu⟩:=hA.mem hu'
  obtain ⟨g1,g2,_⟩:=sh.good hT ab hab
  refine (Th.tup (n:=1) (s0 _ _ eu) (nx eu) (fun z hz=>?_) (by show 2≤1000;decide))
  simp only [List.mem_cons,List.not_mem_nil,or_false] at hz
  rcases hz with rfl | rfl
  ·exact Th.flat rfl fun z e=>by cases e;have:=jv (hO.nm _ g1);omega
  ·exact Th.flat rfl fun z e=>by cases e;have:=jv (hO.nm _ g2);omega
 have l1:(ss.map V.str).length≤1000:=by rw [List.length_map];have:=hO.few;omega
 have l2:(us.map V.ref).length≤1000:=by rw [List.length_map,hA.len,sh.len];have:=hT.few;omega
 refine ⟨x,x,dx,.ref c1,some (ss.map V.str),.ref l',some (us.map V.ref),rfl,qd,h1.elim (fun e=>.lst (s0 _ _ e) (nx e) t1 l1) fun e=>.tup (s0 _ _ e) (nx e) t1 l1,h2.elim (fun e=>.lst (s0 _ _ e) (nx e) t2 l2) fun e=>.tup (s0 _ _ e) (nx e) t2 l2,(fun r e=>by rw [mk0.1] at e;cases e),fun _ ns H' b hWN hbits=>?_⟩
 have e1:((some (ss.map V.str)).getD []).map jF=ss:=qbk ss
 rw [e1] at hbits hWN
 have e2:((some (us.map V.ref)).getD []).filterMap (zK (upd (upd G dx (.own x)) x (.ins cw dx [])) ss)=ups:=mk0.2
 rw [e2] at hbits
 exact q ns H' (b.out s0 hx0) (hWN.old s0) hbits
def qg9 (cc:Nat→Addr) (cw:Addr):Sp:=fun vs H Q _=>∃ (n l:Addr) (ss:List Str) (ts:List Addr) (TI:List (Nat×Nat)),vs=[.ref n,.ref l]∧H n=some (.lst (ss.map V.str))∧IPL H l ts TI∧NOk ss∧TIok ss.length TI∧∀ (b:Addr) (ns:List Nat) (H':Hp),L2.Same H H'→H b=none→WebAt cw H' b ss ns→WG ss ns (TI.map (nmP ss))→Q (.ref b) H'
def qgA (K:W.Frag):Sp:=fun vs H Q _=>∃ (a b:Addr) (xs:List V) (n:Nat),vs=[.ref a,.ref b]∧H a=some (.lst xs)∧xs.length≤1000∧n≤10∧EqT K H n a b true∧Q (.bl true) (upd H a (.lst (xs++[.non])))
section
variable {P:Program} {w:World} {K:W.Frag} {mg:Str→Option Value} {base:Heap} {cc:Nat→Addr} {cw:Addr}
theorem ok_wb {f:Addr} {fd:FuncData} (F:Fun K "_law_web" "_law_web" qai f fd) (T:Txt K mg cc cw) (QD_Web:MakeOk P w K mg base CX0 5 cw "Web" ["self", "names", "ties"] (fun vs H Q _=>qdy cc cw vs H Q E0)):FnOk P w K mg base CX0 7 f fd ["_law_names_here", "_law_ties"] (qg9 cc cw):=by
 refine F.ok sc_l_web (fun vs H Q E h=>?_) fun cdv A outer s H vs Q E hr h=>?_
 ·obtain ⟨n,l,ss,ts,TI,rfl,_⟩:=h;rfl
 ·obtain ⟨n,l,ss,ts,TI,rfl,hn,hI,hO,hT,q⟩:=h
  have hu:=zZ hr
  have few:=hT.few
  have two:=hT.two
  refine ⟨_,(qe (qbb (sc:=qb qai) (XN:=["_law_names_here", "_law_ties", "_law_handed"]) ["_law_i", "_law_j", "_law_names_here"] 2 [0] rfl rfl rfl (by decide +kernel) rfl (by decide +kernel) (i:=2) sc_l_web.nd rfl rfl
  (qcf (K:=K) rfl (pv 1)) (fun _ _ _ _=>(qax (n:=2) rfl (qS (qt (i:=0) (show (["_law_i", "_law_j", "_law_names_here"]:List Str).Nodup by decide +kernel) rfl (Or.inl rfl)) (qS (qt (i:=1) (show (["_law_i", "_law_j", "_law_names_here"]:List Str).Nodup by decide +kernel) rfl (Or.inl rfl)) zL)))) qbf
  (fun _ _ _ _=>(zb (qu (zT (K:=K) rfl hu) (qB j5 (qB (qaa (K:=K) rfl) (pv 0) (pv 1)) qg) qg (qy _))))
  (fun _ _ _ _=>(jD (qa (qD (qE (K:=K) rfl hu) (pv 2) (pv 0) (fun _ _=>rfl)) (qa (qD (qE (K:=K) rfl hu) (pv 2) (pv 1) (fun _ _=>rfl)) qc)))))
 (qe (qw (i:=2) sc_l_web.nd rfl (Or.inl rfl) (qB (qaa (K:=K) rfl) (zj (sc:=qb qai) (XN:=["_law_names_here", "_law_ties", "_law_handed"]) ["_law_i", "_law_j", "_law_names_here"] 2 [0] rfl rfl rfl (by decide +kernel) rfl (by decide +kernel)
  (qcf (K:=K) rfl (pv 1)) (fun _ _ _ _=>(qax (n:=2) rfl (qS (qt (i:=0) (show (["_law_i", "_law_j", "_law_names_here"]:List Str).Nodup by decide +kernel) rfl (Or.inl rfl)) (qS (qt (i:=1) (show (["_law_i", "_law_j", "_law_names_here"]:List Str).Nodup by decide +kernel) rfl (Or.inl rfl)) zL)))) qbf
  (fun _ _ _ _=>(zb (qu (zT (K:=K) rfl hu) (qB j5 (qB (qaa (K:=K) rfl) (pv 0) (pv 1)) qg) qg (qy _))))
  (fun _ _ _ _=>(jD (qa (qD (qE (K:=K) rfl hu) (pv 2) (pv 1) (fun _ _=>rfl)) (qa (qD (qE (K:=K) rfl hu) (pv 2) (pv 0) (fun _ _=>rfl)) qc))))) (pe_rvL (K:=K) rfl (pv 2) (zN (qdD qbX qg)))))
 (qe (qO (qu (zT (K:=K) rfl hu) (qB j5 (qp (zC (K:=K) rfl) rfl T.b_len boot_len (qa (pv 1) qc)) qg) qg (qy _)) (qf (qm (qaH QD_Web (hmR hr) (qa (qG (j3 (K:=K) rfl) rfl T.b_tuple boot_tuple (qa (pv 0) qc)) (qa (pv 2) qc))))) qr)
 (qf (qm (qaH QD_Web (hmR hr) (qa (qG (qav (K:=K) rfl rfl) rfl T.b_list boot_list (qa (pv 0) qc)) (qa (qG (j3 (K:=K) rfl) rfl T.b_tuple boot_tuple (qa (pv 2) qc)) qc)))))))),?_⟩
  walk_at "vc"
  refine qdV ?_
  walk_at "vc"
  refine ⟨l,_,rfl,.of hI.1,jl (xs:=ts.map V.ref) (fun i ys J=>L2.Same H J∧∃ us:List Addr,ys=us.map V.ref∧All2 (fun t ab=>J t=some (.tup [.str ab.1,.str ab.2])) us (((TI.take i).filter evP).map (nmP ss))) ⟨L2.Same.refl H,[],rfl,.nil⟩ (fun i ys J _ hp'=>.of (hp'.1 _ _ hI.1)) (fun i x ys J hx hp'=>?_) fun ys J hp'=>?_⟩
  ·obtain ⟨s2,us,rfl,hA⟩:=hp'
   rw [List.getElem?_map] at hx
   obtain ⟨u,hu2,rfl⟩:=Option.map_eq_some_iff.mp hx
   have hi:i < TI.length:=by rw [← hI.2.len];exact (List.getElem?_eq_some_iff.mp hu2).1
   obtain ⟨p,hp⟩:∃ p,TI[i]?=some p:=⟨_,List.getElem?_eq_getElem hi⟩
   have hup:=s2 _ _ (hI.2.at_ i u p hu2 hp)
   have hpo:=two p (List.mem_of_getElem? hp)
   refine ⟨u,_,rfl,.of hup,rfl,_,_,rfl,_,_,rfl,rfl,?_⟩
   walk_at "vc"
   refine vI (by decide) ?_
   refine qco ?_
   walk_at "vc"
   have ee:decide (((p.1:Int) + (p.2:Int)) % 2=0)=evP p:=decide_eq_decide.mpr (by omega)
   rw [ee,List.take_add_one,hp,List.filter_append,List.map_append]
   have hlen:us.length≤30:=by
    rw [hA.len,List.length_map]
    have:=List.length_filter_le evP (TI.take i)
    rw [List.length_take] at this
    omega
   refine qQ (fun h=>?_) (fun h=>?_)
   ·walk_at "vc"
    refine qaS (s2 _ _ hn) hpo.1 ?_
    walk_at "vc"
    refine qaS (s2 _ _ hn) hpo.2 ?_
    walk_at "vc"
    refine ⟨by show 2≤sizeLine;decide,fun m hm=>?_⟩
    refine ⟨by rw [List.length_map];exact qk (by omega),qF s2 hm,us++[m],by rw [List.map_append];rfl,?_⟩
    have e:([p].filter evP).map (nmP ss)=[nmP ss p]:=by rw [List.filter_cons,if_pos h];rfl
    show All2 _ _ (_++([p].filter evP).map (nmP ss))
    rw [e]
    exact (hA.mono fun t' q z=>qF (L2.Same.refl J) hm _ _ z).snoc qd
   ·refine ⟨s2,us,rfl,?_⟩
    have e:([p].filter evP).map (nmP ss)=[]:=by rw [List.filter_cons,if_neg h];rfl
    show All2 _ _ (_++([p].filter evP).map (nmP ss))
    rw [e,List.append_nil]
    exact hA
  ·obtain ⟨s2,us,rfl,hA⟩:=hp'
   have e:(ts.map V.ref).length=TI.length:=by rw [List.length_map,hI.2.len]
   rw [e,List.take_length] at hA
   have hul:us.length≤30:=by rw [hA.len,List.length_map];exact Nat.le_trans (List.length_filter_le _ _) few
   refine ⟨by rw [List.length_map];exact Nat.le_of_lt (qk (by omega)),fun r1 hr1=>?_⟩
   have s3:=qF s2 (o:=.lst (us.map V.ref)) hr1
   have sJ3:=qF (L2.Same.refl J) (o:=.lst (us.map V.ref)) hr1
   have hr13:upd J r1 (.lst (us.map V.ref)) r1=some (.lst (us.map V.ref)):=qd
   have hA3:=hA.mono fun t ab z=>sJ3 _ _ z
   generalize upd J r1 (.lst (us.map V.ref))=H3 at s3 sJ3 hr13 hA3
   walk_at "vc"
   refine qdV ?_
   walk_at "vc"
   have hI3:=hI.same s3
   refine ⟨l,_,rfl,.of hI3.1,jl (xs:=ts.map V.ref) (fun i ys J=>L2.Same H3 J∧∃ us:List Addr,ys=us.map V.ref∧All2 (fun t ab=>J t=some (.tup [.str ab.1,.str ab.2])) us (((TI.take i).filter fun p=>!evP p).map fun p=>swP (nmP ss p))) ⟨L2.Same.refl H3,[],rfl,.nil⟩ (fun i ys J _ hp'=>.of (hp'.1 _ _ hI3.1)) (fun i x ys J hx hp'=>?_) fun ys J hp'=>?_⟩
   ·obtain ⟨s4,vs,rfl,hB⟩:=hp'
    rw [List.getElem?_map] at hx
    obtain ⟨u,hu2,rfl⟩:=Option.map_eq_some_iff.mp hx
    have hi:i < TI.length:=by rw [← hI.2.len];exact (List.getElem?_eq_some_iff.mp hu2).1
    obtain ⟨p,hp⟩:∃ p,TI[i]?=some p:=⟨_,List.getElem?_eq_getElem hi⟩
    have hup:=s4 _ _ (hI3.2.at_ i u p hu2 hp)
    have hpo:=two p (List.mem_of_getElem? hp)
    have hn4:=s4 _ _ (s3 _ _ hn)
    refine ⟨u,_,rfl,.of hup,rfl,_,_,rfl,_,_,rfl,rfl,?_⟩
    walk_at "vc"
    refine vI (by decide) ?_
    refine qco ?_
    walk_at "vc"
    have ee:decide (((p.1:Int) + (p.2:Int)) % 2=1)=!evP p:=by
     unfold evP
     rw [← decide_not]
     exact decide_eq_decide.mpr (by omega)
    rw [ee,List.take_add_one,hp,List.filter_append,List.map_append]
    have hlen:vs.length≤30:=by
     rw [hB.len,List.length_map]
     have:=List.length_filter_le (fun p=>!evP p) (TI.take i)
     rw [List.length_take] at this
     omega
    refine qQ (fun h=>?_) (fun h=>?_)
    ·walk_at "vc"
     refine qaS hn4 hpo.2 ?_
     walk_at "vc"
     refine qaS hn4 hpo.1 ?_
     walk_at "vc"
     refine ⟨by show 2≤sizeLine;decide,fun m hm=>?_⟩
     refine ⟨by rw [List.length_map];exact qk (by omega),qF s4 hm,vs++[m],by rw [List.map_append];rfl,?_⟩
     have e:([p].filter fun p=>!evP p).map (fun p=>swP (nmP ss p))=[swP (nmP ss p)]:=by rw [List.filter_cons,if_pos h];rfl
     show All2 _ _ (_++([p].filter fun p=>!evP p).map (fun p=>swP (nmP ss p)))
     rw [e]
     exact (hB.mono fun t' q z=>qF (L2.Same.refl J) hm _ _ z).snoc qd
    ·refine ⟨s4,vs,rfl,?_⟩
     have e:([p].filter fun p=>!evP p).map (fun p=>swP (nmP ss p))=[]:=by rw [List.filter_cons,if_neg h];rfl
     show All2 _ _ (_++([p].filter fun p=>!evP p).map (fun p=>swP (nmP ss p)))
     rw [e,List.append_nil]
     exact hB
   ·obtain ⟨s4,vs,rfl,hB⟩:=hp'
    have e:(ts.map V.ref).length=TI.length:=by rw [List.length_map,hI.2.len]
    rw [e,List.take_length] at hB
    have hvl:vs.length≤30:=by rw [hB.len,List.length_map];exact Nat.le_trans (List.length_filter_le _ _) few
    refine ⟨by rw [List.length_map];exact Nat.le_of_lt (qk (by omega)),fun r2 hr2=>?_⟩
    have sJ5:=qF (L2.Same.refl J) (o:=.lst (vs.map V.ref)) hr2
    have s5:=s4.trans sJ5
    have hr25:upd J r2 (.lst (vs.map V.ref)) r2=some (.lst (vs.map V.ref)):=qd
    have hB5:=hB.mono fun t ab z=>sJ5 _ _ z
    generalize upd J r2 (.lst (vs.map V.ref))=H5 at s5 hr25 hB5
    refine vRvL ?_
    walk_at "vc"
    refine vU ?_
    walk_at "vc"
    refine ⟨rfl,r1,_,rfl,.of (s5 _ _ hr13),fun r3 hr3=>?_⟩
    rw [← List.map_reverse]
    have s56:=qF (L2.Same.refl H5) (o:=.lst (us.reverse.map V.ref)) hr3
    have hr36:upd H5 r3 (.lst (us.reverse.map V.ref)) r3=some (.lst (us.reverse.map V.ref)):=qd
    generalize upd H5 r3 (.lst (us.reverse.map V.ref))=H6 at s56 hr36
    refine .inl ⟨r2,r3,_,_,rfl,rfl,s56 _ _ hr25,hr36,by rw [List.length_map,List.length_map,List.length_reverse];exact Nat.le_of_lt (qk (by omega)),fun r4 hr4=>?_⟩
    rw [← List.map_append]
    have s67:=qF (L2.Same.refl H6) (o:=.lst ((vs++us.reverse).map V.ref)) hr4
    have hr47:upd H6 r4 (.lst ((vs++us.reverse).map V.ref)) r4=some (.lst ((vs++us.reverse).map V.ref)):=qd
    have s7:=((s3.trans s5).trans s56).trans s67
    have s37:=(s5.trans s56).trans s67
    have hU:All2 (fun t ab=>upd H6 r4 (.lst ((vs++us.reverse).map V.ref)) t=some (.tup [.str ab.1,.str ab.2])) (vs++us.reverse) (hdU ss TI):=by
     refine All2.app (hB5.mono fun t ab z=>s67 _ _ (s56 _ _ z)) ?_
     have hrev:∀ {α β:Type} {R:α→β→Prop} {x:List α} {y:List β},All2 R x y→All2 R x.reverse y.reverse:=fun {α β R x y} h=>by
      refine ⟨by rw [List.length_reverse,List.length_reverse,h.len],fun k a b ha hb=>?_⟩
      have hk:=(List.getElem?_eq_some_iff.mp ha).1
      rw [List.length_reverse] at hk
      rw [List.getElem?_reverse hk] at ha
      rw [List.getElem?_reverse (by rw [← h.len];exact hk),← h.len] at hb
      exact h.at_ _ a b ha hb
     exact hrev (hA3.mono fun t ab z=>s37 _ _ z)
    generalize upd H6 r4 (.lst ((vs++us.reverse).map V.ref))=H7 at s67 hr47 s7 s37 hU
    have hn7:=s7 _ _ hn
    have hI7:=hI.same s7
    have tok:=hT.tok hO.nd
    have ris:=ris_idx hO.nd hT
    have shf:=hd_shuf ss TI
    have fin:∀ (x':Addr) (ns:List Nat) (H8 H9:Hp),L2.Same H7 H8→H8 x'=none→L2.Same H8 H9→WebN H8 cw H9 x' ss ns→qaf ss ns (hdU ss TI)→Q (.ref x') H9:=fun x' ns H8 H9 s8 hx0 s9 hWN hb=>by
     refine q x' ns H9 ((s7.trans s8).trans s9) ((s7.trans s8).free hx0) ?_ (WG.of hWN.ok tok shf hb ris)
     obtain ⟨e1,e2,e3,e4,h1,h2,h3,h4,h5,_⟩:=hWN
     exact ⟨e1,e2,e3,e4,h1,h2,h3,h4,h5⟩
    walk_at "vc"
    refine qaV hI7.1 ?_
    walk_at "vc"
    refine vI (by decide) ?_
    refine qco ?_
    walk_at "vc"
    refine qQ (fun h=>?_) (fun h=>?_)
    ·walk_at "vc"
     refine ⟨n,_,rfl,.inl ⟨.of hn7,fun t1 ht1=>?_⟩⟩
     have s8:=qF (L2.Same.refl H7) (o:=.tup (ss.map V.str)) ht1
     have ht8:upd H7 t1 (.tup (ss.map V.str)) t1=some (.tup (ss.map V.str)):=qd
     generalize upd H7 t1 (.tup (ss.map V.str))=H8 at s8 ht8
     walk_at "vc"
     refine fun x' dx' hx0 hdx0 hne=>?_
     exact qcq (.inr ht8) (.inl (s8 _ _ hr47)) (hU.mono fun t ab z=>s8 _ _ z) hO tok shf hx0 hdx0 (Ne.symm hne) fun ns H9 s9 hWN hb=>⟨rfl,fin x' ns H8 H9 s8 hx0 s9 hWN hb⟩
    ·walk_at "vc"
     refine .inl ⟨n,_,rfl,.inl (.of hn7),fun t1 ht1=>?_⟩
     have s8:=qF (L2.Same.refl H7) (o:=.lst (ss.map V.str)) ht1
     have ht8:upd H7 t1 (.lst (ss.map V.str)) t1=some (.lst (ss.map V.str)):=qd
     generalize upd H7 t1 (.lst (ss.map V.str))=H8 at s8 ht8
     walk_at "vc"
     refine ⟨r4,_,rfl,.inl ⟨.of (s8 _ _ hr47),fun t2 ht2=>?_⟩⟩
     have s89:=qF (L2.Same.refl H8) (o:=.tup ((vs++us.reverse).map V.ref)) ht2
     have ht9:upd H8 t2 (.tup ((vs++us.reverse).map V.ref)) t2=some (.tup ((vs++us.reverse).map V.ref)):=qd
     have s9:=s8.trans s89
     generalize upd H8 t2 (.tup ((vs++us.reverse).map V.ref))=H9 at s89 ht9 s9
     walk_at "vc"
     refine fun x' dx' hx0 hdx0 hne=>?_
     exact qcq (.inl (s89 _ _ ht8)) (.inr ht9) (hU.mono fun t ab z=>s9 _ _ z) hO tok shf hx0 hdx0 (Ne.symm hne) fun ns H10 s10 hWN hb=>⟨rfl,fin x' ns H9 H10 s9 hx0 s10 hWN hb⟩
theorem ok_tx {f:Addr} {fd:FuncData} (F:Fun K "_law_texts" "_law_texts" zH f fd) (T:Txt K mg cc cw):FnOk P w K mg base CX0 1 f fd ["_law_found", "_law_due"] (qgA K):=by
 refine F.ok sc_l_texts (fun vs H Q E h=>?_) fun cdv A outer s H vs Q E hr h=>?_
 ·obtain ⟨a,b,xs,n,rfl,_⟩:=h;rfl
 ·obtain ⟨a,b,xs,n,rfl,ha,hl,hn,he,q⟩:=h
  have hu:=zZ hr
  refine ⟨_,(qe (qO (PW.pt (qaU (qZ (qI (qp (zY (K:=K) rfl) rfl T.b_isinstance boot_isinstance (qa (pv 0) (qa (jC (v:=.ty "list") rfl T.b_list boot_list rfl) qc))))) (qap (qu (qaG (K:=K) rfl hu) (pv 0) (pv 1) (qy _))))) (qf (qm jI)) qr)
 (qe (qL (qdQ (K:=K) rfl PySem.F.plainAttrs_list PySem.F.slot_list_append PySem.F.type_list_append jg (pv 0) (qa qcL qc)))
 (qf (qm jI)))),?_⟩
  walk_at "vc"
  refine qaP (.inl (.lst ha)) rfl (j8 K "list" (by simp) "list" (by simp)) ?_
  walk_at "vc"
  refine qQ (fun h=>by cases h) fun _=>?_
  walk_at "vc"
  refine .inr (.inl ⟨a,b,true,n,rfl,rfl,by omega,he,?_⟩)
  walk_at "vc"
  refine qQ (fun h=>by cases h) fun _=>?_
  walk_at "vc"
  refine ⟨.inl ⟨rfl,_,.of ha⟩,?_⟩
  walk_at "vc"
  exact ⟨a,_,_,rfl,rfl,ha,qk hl,q⟩
end
theorem qcr {v:V} (h:zO v=true):eqV v v=true:=by cases v<;>simp_all [zO,eqV]
theorem Th.eqDO {K:W.Frag} {p:Addr} {H:Hp} {n m:Nat} {v:V} (h:Th p H n v):EqD K H m v v true:=by
 cases h with
 | flat f l =>
  have z:=EqD.flat (K:=K) (H:=H) (n:=m) f f
  rw [qcr f] at z
  exact z
 | lst e ne h l=>exact .self
 | tup e ne h l=>exact .self
 | dct e ne=>exact .self
theorem Th.eqZO {K:W.Frag} {p:Addr} {H:Hp} {n:Nat} {v:V} {Q:VK} (h:Th p H n v) (q:Q (.bl true) H):qgq K v v H Q:=by
 have at1:∀ (m:Nat),((List.range m).all fun _=>true)=true:=fun m=>List.all_eq_true.mpr fun _ _=>rfl
 cases h with
 | flat f l=>exact .inl (.inl (.inl ⟨f,f,by rw [qcr f];exact q⟩))
 | lst e ne h l=>exact .inl (.inl (.inr (.inl ⟨_,_,true,1,rfl,rfl,by decide,(by
   have z:=EqT.lst (K:=K) (H:=H) (n:=0) (e:=fun _=>true) (SqL.of e) (SqL.of e) rfl fun j x y h1 h2=>by rw [h1] at h2;cases h2;exact (h x (List.mem_of_getElem? h1)).eqDO
   rw [at1] at z
   exact z),q⟩)))
 | tup e ne h l=>exact .inl (.inl (.inr (.inl ⟨_,_,true,1,rfl,rfl,by decide,qdh e e rfl fun j x y h1 h2=>by rw [h1] at h2;cases h2;exact (h x (List.mem_of_getElem? h1)).eqDO,q⟩)))
 | dct e ne=>exact .inl (.inl (.inr (.inr ⟨_,_,rfl,rfl,e,q⟩)))
theorem kit2 {K:W.Frag} {t a b:Value} (h1:W.kitOne K t a=some false) (h2:W.kitOne K t b=some false):W.kitAny K t [a,b]=some false:=by
 unfold W.kitAny
 rw [h1]
 dsimp only
 unfold W.kitAny
 rw [h2]
 rfl
section
variable {P:Program} {w:World} {K:W.Frag} {mg:Str→Option Value} {base:Heap} {cc:Nat→Addr} {cw:Addr}
end
section
variable {P:Program} {w:World} {K:W.Frag} {mg:Str→Option Value} {base:Heap} {cc:Nat→Addr} {cw:Addr}
end
theorem sc_l_ties_told:FnScope ["_law_road", "_law_names_here", "_law_ties", "_law_trail", "_law_gone_here", "_law_left"] ["_law_road", "_law_names_here", "_law_ties", "_law_trail"] (qb jk):=⟨rfl,rfl,rfl,by decide +kernel,rfl,by decide +kernel,by decide +kernel⟩
structure RSt (cc:Nat→Addr) (cw:Addr) (H:Hp) (n l x b p t:Addr) (ss:List Str) (ns:List Nat) (ts:List Addr) (TI:List (Nat×Nat)) (tr:List Nat) (h:Nat):Prop where
 nm:H n=some (.lst (ss.map V.str))
 ok:NOk ss
 ti:IPL H l ts TI
 tok:TIok ss.length TI
 wg:WG ss ns (TI.map (nmP ss))
 road:RoadAt cc cw H x b p ss ns (tr.map (tn ss)) (tn ss h)
 trl:H t=some (.lst (iVs tr))
 last:tr.getLast?=some h
 all:∀ i∈tr,i < ss.length
theorem RSt.same {cc:Nat→Addr} {cw:Addr} {H H':Hp} {n l x b p t:Addr} {ss:List Str} {ns:List Nat} {ts:List Addr} {TI:List (Nat×Nat)} {tr:List Nat} {h:Nat} (r:RSt cc cw H n l x b p t ss ns ts TI tr h) (s:L2.Same H H'):RSt cc cw H' n l x b p t ss ns ts TI tr h:=
 ⟨s _ _ r.nm,r.ok,r.ti.same s,r.tok,r.wg,r.road.same s,s _ _ r.trl,r.last,r.all⟩
theorem RSt.hl {cc:Nat→Addr} {cw:Addr} {H:Hp} {n l x b p t:Addr} {ss:List Str} {ns:List Nat} {ts:List Addr} {TI:List (Nat×Nat)} {tr:List Nat} {h:Nat} (r:RSt cc cw H n l x b p t ss ns ts TI tr h):h < ss.length:=r.all h (List.mem_of_getLast? r.last)
theorem RSt.len {cc:Nat→Addr} {cw:Addr} {H:Hp} {n l x b p t:Addr} {ss:List Str} {ns:List Nat} {ts:List Addr} {TI:List (Nat×Nat)} {tr:List Nat} {h:Nat} (r:RSt cc cw H n l x b p t ss ns ts TI tr h):tr.length≤100:=by have:=r.road.len;rw [List.length_map] at this;exact this
theorem RSt.mv {cc:Nat→Addr} {cw:Addr} {H:Hp} {n l x b p t:Addr} {ss:List Str} {ns:List Nat} {ts:List Addr} {TI:List (Nat×Nat)} {tr:List Nat} {h:Nat} (r:RSt cc cw H n l x b p t ss ns ts TI tr h):rmN ss ns (tr.map (tn ss)) (tn ss h)=(mvI ss.length TI tr h).map (tn ss):=by
 obtain ⟨dx,_,_,hW⟩:=r.road.pl
 exact qeZ hW.ok r.wg r.tok r.all r.hl
theorem qbQ {K:W.Frag} {H:Hp} {t t1 t2 u u1 u2:Addr} {ss:List Str} {ts us:List Addr} {tps:List (Str×Str)} (a0:H t=some (.tup [.ref t1,.ref t2])) (a1:H t1=some (.tup (ss.map V.str))) (a2:H t2=some (.tup (ts.map V.ref))) (a3:All2 (fun t ab=>H t=some (.tup [.str ab.1,.str ab.2])) ts tps)
  (b0:H u=some (.tup [.ref u1,.ref u2])) (b1:H u1=some (.tup (ss.map V.str))) (b2:H u2=some (.tup (us.map V.ref))) (b3:All2 (fun t ab=>H t=some (.tup [.str ab.1,.str ab.2])) us tps):EqT K H 3 t u true:=by
 refine qdh a0 b0 rfl fun j x y h1 h2=>?_
 match j,h1,h2 with
 | 0,h1,h2 =>
  cases h1;cases h2
  by_cases e:t1=u1
  ·subst e;exact .self
  ·exact .deep (qdh a1 b1 rfl fun j x y h1 h2=>by rw [h1] at h2;cases h2;exact qdg x (List.mem_of_getElem? h1)) e
 | 1,h1,h2 =>
  cases h1;cases h2
  by_cases e:t2=u2
  ·subst e;exact .self
  ·refine .deep (qdh a2 b2 (by rw [List.length_map,List.length_map,a3.len,b3.len]) fun j x y h1 h2=>?_) e
   rw [List.getElem?_map] at h1 h2
   obtain ⟨c,hc,rfl⟩:=Option.map_eq_some_iff.mp h1
   obtain ⟨d,hd,rfl⟩:=Option.map_eq_some_iff.mp h2
   have hj:j < tps.length:=by rw [← a3.len];exact (List.getElem?_eq_some_iff.mp hc).1
   have z:=qbM (K:=K) (a3.at_ j c _ hc (List.getElem?_eq_getElem hj)) (b3.at_ j d _ hd (List.getElem?_eq_getElem hj))
   rw [decide_eq_true rfl] at z
   exact z
 | j + 2,h1,h2=>simp at h1
def qfw (cc:Nat→Addr) (cw:Addr):Sp:=fun vs H Q _=>∃ (n l x b p t:Addr) (ss:List Str) (ns:List Nat) (ts:List Addr) (TI:List (Nat×Nat)) (tr:List Nat) (h:Nat),vs=[.ref x,.ref n,.ref l,.ref t]∧RSt cc cw H n l x b p t ss ns ts TI tr h∧∀ H',L2.Same H H'→Q (.bl true) H'
def qep (cc:Nat→Addr) (cw:Addr):Sp:=fun vs H Q _=>∃ (n l x b p t:Addr) (ss:List Str) (ns:List Nat) (ts:List Addr) (TI:List (Nat×Nat)) (tr:List Nat) (h:Nat) (i:Int),vs=[.ref x,.ref n,.ref l,.ref t,.int i]∧RSt cc cw H n l x b p t ss ns ts TI tr h∧∀ H',L2.Same H H'→Q (.bl true) H'
theorem Same.upd7 {H H1:Hp} {a:Addr} {o:HO} (s:L2.Same H H1) (h:H a=none):L2.Same H (upd H1 a o):=fun c u e=>by
 have:c≠a:=fun z=>by rw [z,h] at e;cases e
 rw [qi this]
 exact s c u e
section
variable {P:Program} {w:World} {K:W.Frag} {mg:Str→Option Value} {base:Heap} {cc:Nat→Addr} {cw:Addr}
theorem ok_tt {f:Addr} {fd:FuncData} (F:Fun K "_law_ties_told" "_law_ties_told" jk f fd) (T:Txt K mg cc cw) (D_l_gone:DefOk P w K mg base CX0 1 "_law_gone" ["_law_trail"] qgc) (D_l_texts:DefOk P w K mg base CX0 1 "_law_texts" ["_law_found", "_law_due"] (qgA K)) (D_l_named:DefOk P w K mg base CX0 1 "_law_named" ["_law_names_here", "_law_ties"] qgd)
  (D_Road_ties_gone:MethOk P w K mg base CX0 6 (cc 9) "ties_gone" ["self"] (qgb cc cw)) (D_Road_ties_left:MethOk P w K mg base CX0 8 (cc 9) "ties_left" ["self"] (qfk cc cw)) (D_Road_web_left:MethOk P w K mg base CX0 9 (cc 9) "web_left" ["self"] (qfl cc cw)) (D_Web_told:MethOk P w K mg base CX0 8 cw "told" ["self"] (qdd cw)):FnOk P w K mg base CX0 10 f fd ["_law_road", "_law_names_here", "_law_ties", "_law_trail"] (qfw cc cw):=by
 refine F.ok sc_l_ties_told (fun vs H Q E h=>?_) fun cdv A outer s H vs Q E hr h=>?_
 ·obtain ⟨n,l,x,b,p,t,ss,ns,ts,TI,tr,h,rfl,_⟩:=h;rfl
 ·obtain ⟨n,l,x,b,p,t,ss,ns,ts,TI,tr,h,rfl,R,q⟩:=h
  have hu:=zZ hr
  have l100:=R.len
  have few:=R.tok.few
  have trall:∀ s∈tr.map (tn ss),s∈ss:=R.road.all
  refine ⟨_,(qe (qw (i:=4) sc_l_ties_told.nd rfl (Or.inr rfl) (qq D_l_gone (hmR hr) qx (qa (pv 3) qc)))
 (qe (qbb (sc:=qb jk) (XN:=["_law_road", "_law_names_here", "_law_ties", "_law_trail", "_law_gone_here", "_law_left"]) ["_law_tie", "_law_gone_here"] 1 [4] rfl rfl rfl (by decide +kernel) rfl (by decide +kernel) (i:=5) sc_l_ties_told.nd rfl rfl
  (j7 (K:=K) rfl (pv 2)) (fun _ _ _ _=>(qt (i:=0) (show (["_law_tie", "_law_gone_here"]:List Str).Nodup by decide +kernel) rfl (Or.inl rfl))) zR
  (fun _ _ _ _=>(zb (qu (qal (K:=K) rfl hu) (pv 0) (pv 1) (by with_unfolding_all rfl))))
  (fun _ _ _ _=>(pv 0)))
 (qe (qO (qZ (qI (qq D_l_texts (hmR hr) qx (qa (qo D_Road_ties_gone (hmR hr) (pv 0)) (qa (qq D_l_named (hmR hr) qx (qa (pv 1) (qa (pv 4) qc))) qc))))) (qf (qm jI)) qr)
 (qe (qO (qZ (qI (qq D_l_texts (hmR hr) qx (qa (qo D_Road_ties_left (hmR hr) (pv 0)) (qa (qq D_l_named (hmR hr) qx (qa (pv 1) (qa (pv 5) qc))) qc))))) (qf (qm jI)) qr)
 (qf (qm (jT (zT (K:=K) rfl hu) (qo D_Web_told (hmR hr) (qo D_Road_web_left (hmR hr) (pv 0))) (jD (qa (qG (j3 (K:=K) rfl) rfl T.b_tuple boot_tuple (qa (pv 1) qc)) (qa (qG (j3 (K:=K) rfl) rfl T.b_tuple boot_tuple (qa (qq D_l_named (hmR hr) qx (qa (pv 1) (qa (pv 5) qc))) qc)) qc))) (qy _)))))))),?_⟩
  walk_at "vc"
  refine ⟨t,tr,rfl,R.trl,l100,fun g gs H1 s1 hg0 hG=>?_⟩
  have R1:=R.same s1
  walk_at "vc"
  refine .inl ⟨⟨_,.of R1.ti.1⟩,jl (xs:=ts.map V.ref) (fun i ys J=>J=H1∧∃ us:List Addr,ys=us.map V.ref∧All2 (fun t q=>H1 t=some (iT q)) us ((TI.take i).filter fun q=>!decide (q∈gnI tr))) ⟨rfl,[],rfl,.nil⟩ (fun i ys J _ hp'=>by rw [hp'.1];exact .of R1.ti.1) (fun i y ys J hx hp'=>?_) fun ys J hp'=>?_⟩
  ·obtain ⟨rfl,us,rfl,hA⟩:=hp'
   rw [List.getElem?_map] at hx
   obtain ⟨u,hu2,rfl⟩:=Option.map_eq_some_iff.mp hx
   have hi:i < TI.length:=by rw [← R.ti.2.len];exact (List.getElem?_eq_some_iff.mp hu2).1
   obtain ⟨q0,hq0⟩:∃ q0,TI[i]?=some q0:=⟨_,List.getElem?_eq_getElem hi⟩
   have hup:=R1.ti.2.at_ i u q0 hu2 hq0
   walk_at "vc"
   refine qcJ hG hup ?_
   walk_at "vc"
   rw [List.take_add_one,hq0,List.filter_append]
   have hlen:us.length≤30:=by
    rw [hA.len]
    have:=List.length_filter_le (fun q=>!decide (q∈gnI tr)) (TI.take i)
    rw [List.length_take] at this
    omega
   refine qQ (fun hc=>?_) (fun hc=>?_)
   ·walk_at "vc"
    refine ⟨by rw [List.length_map];exact qk (by omega),rfl,us++[u],by rw [List.map_append];rfl,?_⟩
    have e:([q0].filter fun q=>!decide (q∈gnI tr))=[q0]:=by rw [List.filter_cons,if_pos hc];rfl
    show All2 _ _ (_++([q0].filter fun q=>!decide (q∈gnI tr)))
    rw [e]
    exact hA.snoc hup
   ·refine ⟨rfl,us,rfl,?_⟩
    have e:([q0].filter fun q=>!decide (q∈gnI tr))=[]:=by rw [List.filter_cons,if_neg hc];rfl
    show All2 _ _ (_++([q0].filter fun q=>!decide (q∈gnI tr)))
    rw [e,List.append_nil]
    exact hA
  ·obtain ⟨rfl,us,rfl,hA⟩:=hp'
   have e:(ts.map V.ref).length=TI.length:=by rw [List.length_map,R.ti.2.len]
   rw [e,List.take_length] at hA
   have hlf:(TI.filter fun q=>!decide (q∈gnI tr)).length≤30:=Nat.le_trans (List.length_filter_le _ _) few
   have hul:us.length≤30:=by rw [hA.len];exact hlf
   refine ⟨by rw [List.length_map];exact Nat.le_of_lt (qk (by omega)),fun r hr0=>?_⟩
   have sJ:=qF (L2.Same.refl J) (o:=.lst (us.map V.ref)) hr0
   have s2:=s1.trans sJ
   have hLf:IPL (upd J r (.lst (us.map V.ref))) r us (TI.filter fun q=>!decide (q∈gnI tr)):=⟨qd,hA.mono fun t q z=>sJ _ _ z⟩
   have hG2:=hG.same sJ
   generalize upd J r (.lst (us.map V.ref))=H2 at sJ s2 hLf hG2
   have R2:=R.same s2
   have okL:∀ q∈TI.filter (fun q=>!decide (q∈gnI tr)),q.1 < ss.length∧q.2 < ss.length:=fun q hq=>R.tok.two q (List.mem_filter.mp hq).1
   obtain ⟨dx,hx,hp,hW⟩:=id R.road.pl
   walk_at "vc"
   refine ⟨x,dx,_,rfl,s2 _ _ hx,qH (by decide +kernel),?_⟩
   walk_at "vc"
   refine ⟨x,b,p,ss,ns,_,rfl,R2.road.pl,R2.road.len,trall,fun f1 f1s H3 s3 hf10 hf1s hF1=>?_⟩
   walk_at "vc"
   refine ⟨n,g,ss,gs,gnI tr,rfl,(R2.same s3).nm,hG2.same s3,by rw [qbB];omega,qen R.all,fun d1 d1s H4 s4 hd10 hD1=>?_⟩
   rw [qdk R.ok.nd R.all] at hF1
   have hF14:=hF1.same s4
   walk_at "vc"
   refine ⟨f1,d1,_,2,rfl,hF14.1,by rw [List.length_map,hF14.2.len,List.length_map,qbB];omega,by decide,qeN hF14 hD1,?_⟩
   have s5:L2.Same H2 (upd H4 f1 (.lst (f1s.map V.ref++[.non]))):=Same.upd7 (s3.trans s4) hf10
   generalize upd H4 f1 (.lst (f1s.map V.ref++[.non]))=H5 at s5
   clear hF14 hD1 hF1 s4 s3
   have R5:=R2.same s5
   walk_at "vc"
   refine qQ (fun h=>by cases h) fun _=>?_
   walk_at "vc"
   refine ⟨x,dx,_,rfl,s5 _ _ (s2 _ _ hx),qH (by decide +kernel),?_⟩
   walk_at "vc"
   refine ⟨x,b,p,ss,ns,_,rfl,R5.road.pl,R5.road.len,trall,fun f2 f2s H6 s6 hf20 hf2l hf2s hF2=>?_⟩
   walk_at "vc"
   have hLf6:=(hLf.same s5).same s6
   refine ⟨n,r,ss,us,_,rfl,(R5.same s6).nm,hLf6,by omega,okL,fun d2 d2s H7 s7 hd20 hD2=>?_⟩
   rw [R.wg.due,qcI R.ok.nd R.tok R.all] at hF2
   have hF27:=hF2.same s7
   walk_at "vc"
   refine ⟨f2,d2,_,2,rfl,hF27.1,by rw [List.length_map];omega,by decide,qeN hF27 hD2,?_⟩
   have s8:L2.Same H5 (upd H7 f2 (.lst (f2s.map V.ref++[.non]))):=Same.upd7 (s6.trans s7) hf20
   generalize upd H7 f2 (.lst (f2s.map V.ref++[.non]))=H8 at s8
   clear hF27 hD2 hF2 s7 s6 hLf6
   have R8:=R5.same s8
   walk_at "vc"
   refine qQ (fun h=>by cases h) fun _=>?_
   walk_at "vc"
   refine ⟨x,dx,_,rfl,s8 _ _ (s5 _ _ (s2 _ _ hx)),qH (by decide +kernel),?_⟩
   walk_at "vc"
   refine ⟨x,b,p,ss,ns,_,_,_,rfl,R8.road,R8.wg,fun x' ns' H9 s9 hx'0 hW' hG'=>?_⟩
   obtain ⟨wx,d,ol,nn,hb,_⟩:=id hW'
   walk_at "vc"
   refine ⟨x',wx,_,rfl,hb,qag (by decide +kernel),?_⟩
   walk_at "vc"
   refine ⟨x',ss,ns',rfl,hW',fun t0 t1 t2 ll tts H10 s10 ht0 ht1 ht2 hA10=>?_⟩
   rw [hG'.due,qcI R.ok.nd R.tok R.all] at hA10
   have s810:=s9.trans s10
   have R10:=R8.same s810
   walk_at "vc"
   refine ⟨n,_,rfl,.inl ⟨.of R10.nm,fun u1 hu1=>?_⟩⟩
   have s11:=qF (L2.Same.refl H10) (o:=.tup (ss.map V.str)) hu1
   have eu1:upd H10 u1 (.tup (ss.map V.str)) u1=some (.tup (ss.map V.str)):=qd
   generalize upd H10 u1 (.tup (ss.map V.str))=H11 at s11 eu1
   walk_at "vc"
   have hLf11:=(((hLf.same s5).same s8).same s810).same s11
   refine ⟨n,r,ss,us,_,rfl,s11 _ _ R10.nm,hLf11,by omega,okL,fun d3 d3s H12 s12 hd30 hD3=>?_⟩
   walk_at "vc"
   refine ⟨d3,_,rfl,.inl ⟨.of hD3.1,fun u2 hu2=>?_⟩⟩
   have s13:=qF (L2.Same.refl H12) (o:=.tup (d3s.map V.ref)) hu2
   have eu2:upd H12 u2 (.tup (d3s.map V.ref)) u2=some (.tup (d3s.map V.ref)):=qd
   generalize upd H12 u2 (.tup (d3s.map V.ref))=H13 at s13 eu2
   walk_at "vc"
   refine ⟨by show 2≤sizeLine;decide,fun u hu0=>?_⟩
   have s14:=qF (L2.Same.refl H13) (o:=.tup [.ref u1,.ref u2]) hu0
   have s1014:=((s11.trans s12).trans s13).trans s14
   have z:=qbQ (K:=K) (s1014 _ _ ht0) (s1014 _ _ ht1) (s1014 _ _ ht2) (hA10.mono fun t ab z=>s1014 _ _ z.2.2) (qd (H:=H13) (a:=u) (o:=.tup [.ref u1,.ref u2])) (s14 _ _ (s13 _ _ (s12 _ _ eu1))) (s14 _ _ eu2) (hD3.2.mono fun t ab z=>s14 _ _ (s13 _ _ z))
   refine .inl (.inl (.inr (.inl ⟨t0,u,true,3,rfl,rfl,by decide,z,?_⟩)))
   exact q _ ((((s2.trans s5).trans s8).trans s810).trans s1014)
end
theorem sc_l_places_told:FnScope ["_law_road", "_law_names_here", "_law_ties", "_law_trail", "_law_moves_here", "_law_hand"] ["_law_road", "_law_names_here", "_law_ties", "_law_trail"] (qb qJ):=⟨rfl,rfl,rfl,by decide +kernel,rfl,by decide +kernel,by decide +kernel⟩
theorem sc_l_told:FnScope ["_law_road", "_law_names_here", "_law_ties", "_law_trail", "_law_first"] ["_law_road", "_law_names_here", "_law_ties", "_law_trail", "_law_first"] (qb qan):=⟨rfl,rfl,rfl,by decide +kernel,rfl,by decide +kernel,by decide +kernel⟩
theorem qfV {K:W.Frag} {H:Hp} {a b:Str} {Q:VK} (q:Q (.bl (!decide (a=b))) H):qfc K true (.str a) (.str b) H Q:=.inl ⟨rfl,rfl,by rw [if_pos rfl,qbK];exact q⟩
theorem qfW {K:W.Frag} {H:Hp} {i j:Int} {Q:VK} (q:Q (.bl (!decide (i=j))) H):qfc K true (.int i) (.int j) H Q:=.inl ⟨rfl,rfl,by
 have:=zw i j
 rw [if_neg (by decide)] at this
 rw [if_pos rfl,this]
 exact q⟩
theorem vNeB7 {K:W.Frag} {H:Hp} {i j:Bool} {Q:VK} (q:Q (.bl (!(i==j))) H):qfc K true (.bl i) (.bl j) H Q:=.inl ⟨rfl,rfl,by
 rw [if_pos rfl]
 have:eqV (.bl i) (.bl j)=(i==j):=by cases i<;>cases j<;>rfl
 rw [this]
 exact q⟩
section
variable {P:Program} {w:World} {K:W.Frag} {mg:Str→Option Value} {base:Heap} {cc:Nat→Addr} {cw:Addr}
theorem ok_pt {f:Addr} {fd:FuncData} (F:Fun K "_law_places_told" "_law_places_told" qJ f fd) (T:Txt K mg cc cw) (D_l_moves:DefOk P w K mg base CX0 2 "_law_moves" ["_law_ties", "_law_trail"] qeo) (D_l_texts:DefOk P w K mg base CX0 1 "_law_texts" ["_law_found", "_law_due"] (qgA K)) (D_l_named:DefOk P w K mg base CX0 1 "_law_named" ["_law_names_here", "_law_ties"] qgd)
  (D_Road_moves:MethOk P w K mg base CX0 7 (cc 9) "moves" ["self"] (qfT cc cw)) (D_Walk_gone:MethOk P w K mg base CX0 1 (cc 9) "gone" ["self"] (qg4 cc cw)) (D_Walk_stands_at:MethOk P w K mg base CX0 1 (cc 9) "stands_at" ["self"] (qgv cc cw)) (D_Walk_web:MethOk P w K mg base CX0 1 (cc 9) "web" ["self"] (qg3 cc cw)) (D_Web_told:MethOk P w K mg base CX0 8 cw "told" ["self"] (qdd cw))
  (D_Walk_hand:MethOk P w K mg base CX0 1 (cc 9) "hand" ["self"] (qgw cc cw)) (D_Walk_ended:MethOk P w K mg base CX0 8 (cc 9) "ended" ["self"] (qd7 cc cw)) (D_Walk_loser:MethOk P w K mg base CX0 9 (cc 9) "loser" ["self"] (qeT cc cw)):FnOk P w K mg base CX0 10 f fd ["_law_road", "_law_names_here", "_law_ties", "_law_trail"] (qfw cc cw):=by
 refine F.ok sc_l_places_told (fun vs H Q E h=>?_) fun cdv A outer s H vs Q E hr h=>?_
 ·obtain ⟨n,l,x,b,p,t,ss,ns,ts,TI,tr,h,rfl,_⟩:=h;rfl
 ·obtain ⟨n,l,x,b,p,t,ss,ns,ts,TI,tr,h,rfl,R,q⟩:=h
  have hu:=zZ hr
  have l100:=R.len
  have few:=R.tok.few
  have few14:=R.ok.few
  have hmv:=R.mv
  have mvlt:∀ k∈mvI ss.length TI tr h,k < ss.length:=fun k hk=>List.mem_range.mp (List.mem_filter.mp hk).1
  have mvlen:(mvI ss.length TI tr h).length≤14:=by
   have:=List.length_filter_le (fun k=>decide (mmP h k∈TI)&&!decide (mmP h k∈gnI tr)) (List.range ss.length)
   rw [List.length_range] at this
   exact Nat.le_trans this few14
  obtain ⟨dx,hx,hp,hW⟩:=id R.road.pl
  obtain ⟨wx,d,ol,nn,hb,_⟩:=id hW
  obtain ⟨TC3,hTC3⟩:∃ t0:TS,t0=fun D σ H'=>(∀ u H',Q u H'→D.rt u H')∧∃ (mh:Addr) (x5:Option V),σ=[some (.ref x),some (.ref n),some (.ref l),some (.ref t),some (.ref mh),x5]∧L2.Same H H'∧H' mh=some (.lst (((mvI ss.length TI tr h).map (tn ss)).map V.str)):=⟨_,rfl⟩
  refine ⟨_,(qe (qbb (sc:=qb qJ) (XN:=["_law_road", "_law_names_here", "_law_ties", "_law_trail", "_law_moves_here", "_law_hand"]) ["_law_k", "_law_names_here"] 1 [1] rfl rfl rfl (by decide +kernel) rfl (by decide +kernel) (i:=4) sc_l_places_told.nd rfl rfl
  (j7 (K:=K) rfl (qq D_l_moves (hmR hr) qx (qa (pv 2) (qa (pv 3) qc)))) (fun _ _ _ _=>(qt (i:=0) (show (["_law_k", "_law_names_here"]:List Str).Nodup by decide +kernel) rfl (Or.inl rfl))) zR
  (fun _ _ _ _=>zS)
  (fun _ _ _ _=>(qD (qE (K:=K) rfl hu) (pv 1) (pv 0) (fun _ _=>rfl))))
 (qe (qO (PW.pt (qaU (qZ (qI (qq D_l_texts (hmR hr) qx (qa (qo D_Road_moves (hmR hr) (pv 0)) (qa (pv 4) qc))))) (qap (qZ (qI (qq D_l_texts (hmR hr) qx (qa (qo D_Walk_gone (hmR hr) (pv 0)) (qa (zj (sc:=qb qJ) (XN:=["_law_road", "_law_names_here", "_law_ties", "_law_trail", "_law_moves_here", "_law_hand"]) ["_law_k", "_law_names_here"] 1 [1] rfl rfl rfl (by decide +kernel) rfl (by decide +kernel)
  (j7 (K:=K) rfl (pv 3)) (fun _ _ _ _=>(qt (i:=0) (show (["_law_k", "_law_names_here"]:List Str).Nodup by decide +kernel) rfl (Or.inl rfl))) zR
  (fun _ _ _ _=>zS)
  (fun _ _ _ _=>(qD (qE (K:=K) rfl hu) (pv 1) (pv 0) (fun _ _=>rfl)))) qc)))))))) (qf (qm jI)) qr)
 (qe (qO (PW.pt (qaU (qu (qaG (K:=K) rfl hu) (qo D_Walk_stands_at (hmR hr) (pv 0)) (qD (qE (K:=K) rfl hu) (pv 1) (qD (qE (K:=K) rfl hu) (pv 3) (qdD qbX qg) (fun _ _=>rfl)) (fun _ _=>rfl)) (qy _)) (qap (qu (qaG (K:=K) rfl hu) (qo D_Web_told (hmR hr) (qo D_Walk_web (hmR hr) (pv 0))) (jD (qa (qG (j3 (K:=K) rfl) rfl T.b_tuple boot_tuple (qa (pv 1) qc)) (qa (qG (j3 (K:=K) rfl) rfl T.b_tuple boot_tuple (qa (qq D_l_named (hmR hr) qx (qa (pv 1) (qa (pv 2) qc))) qc)) qc))) (qy _))))) (qf (qm jI)) qr)
 (zV TC3 (qe (qw (i:=5) sc_l_places_told.nd rfl (Or.inl rfl) (qo D_Walk_hand (hmR hr) (pv 0)))
 (qe (qO (PW.pt (qaU (qZ (qI (qp (zY (K:=K) rfl) rfl T.b_isinstance boot_isinstance (qa (pv 5) (qa (jC (v:=.ty "int") rfl T.b_int boot_int rfl) qc))))) (qaU (qI (qp (zY (K:=K) rfl) rfl T.b_isinstance boot_isinstance (qa (pv 5) (qa (jC (v:=.ty "bool") rfl T.b_bool boot_bool rfl) qc)))) (qap (qu (qaG (K:=K) rfl hu) (pv 5) (qB j5 (qB (qaa (K:=K) rfl) (qp (zC (K:=K) rfl) rfl T.b_len boot_len (qa (pv 3) qc)) qg) qg) (qy _)))))) (qf (qm jI)) qr)
 (qe (qO (PW.pt (qaU (qZ (qI (qp (zY (K:=K) rfl) rfl T.b_isinstance boot_isinstance (qa (qo D_Walk_ended (hmR hr) (pv 0)) (qa (jC (v:=.ty "bool") rfl T.b_bool boot_bool rfl) qc))))) (qap (qu (qaG (K:=K) rfl hu) (qo D_Walk_ended (hmR hr) (pv 0)) (jT (zT (K:=K) rfl hu) (pv 4) (js qc) (qy _)) (qy _))))) (qf (qm jI)) qr)
 (qf (qm (qar (jT (zT (K:=K) rfl hu) (qo D_Walk_loser (hmR hr) (pv 0)) (qD (qE (K:=K) rfl hu) (js (qa qcL (qa (pv 5) qc))) (qG call_int1 rfl T.b_int boot_int (qa (jT (zT (K:=K) rfl hu) (pv 4) (js qc) (qy _)) qc)) (fun _ _=>rfl)) (qy _)) (qaq (qcN (qp (zY (K:=K) rfl) rfl T.b_isinstance boot_isinstance (qa (qo D_Walk_loser (hmR hr) (pv 0)) (qa (jC (v:=.ty "bool") rfl T.b_bool boot_bool rfl) qc))))))))))) ?cut3)))),?_⟩
  case cut3 =>
   intro D σ H1 h1
   rw [hTC3] at h1
   obtain ⟨hD,mh,x5,rfl,s1,hmh⟩:=h1
   have R1:=R.same s1
   walk_at "vc"
   refine ⟨x,dx,_,rfl,s1 _ _ hx,qH (by decide +kernel),?_⟩
   walk_at "vc"
   refine ⟨x,b,p,ss,ns,_,rfl,R1.road.pl,?_⟩
   rw [List.length_map]
   walk_at "vc"
   refine qaP (.inl (.int _)) rfl (j8 K "int" (by simp) "int" (by simp)) ?_
   walk_at "vc"
   refine qQ (fun h=>by cases h) fun _=>?_
   walk_at "vc"
   refine qaP (.inl (.int _)) rfl (j8 K "int" (by simp) "bool" (by simp)) ?_
   walk_at "vc"
   refine qQ (fun h=>by cases h) fun _=>?_
   walk_at "vc"
   refine qaV R1.trl ?_
   walk_at "vc"
   refine vI (by decide) ?_
   refine qfW ?_
   rw [List.length_map,decide_eq_true (show ((tr.length:Int) - 1) % 2=((tr.length:Int) + 1) % 2 by omega)]
   walk_at "vc"
   refine qQ (fun h=>by cases h) fun _=>?_
   walk_at "vc"
   refine ⟨x,dx,_,rfl,s1 _ _ hx,qH (by decide +kernel),?_⟩
   walk_at "vc"
   refine ⟨x,b,p,ss,ns,_,_,rfl,R1.road,fun H2 s2=>?_⟩
   rw [hmv]
   have R2:=R1.same s2
   walk_at "vc"
   refine qaP (.inl (.bl _)) rfl (j8 K "bool" (by simp) "bool" (by simp)) ?_
   walk_at "vc"
   refine qQ (fun h=>by cases h) fun _=>?_
   walk_at "vc"
   refine ⟨x,dx,_,rfl,s2 _ _ (s1 _ _ hx),qH (by decide +kernel),?_⟩
   walk_at "vc"
   refine ⟨x,b,p,ss,ns,_,_,rfl,R2.road,fun H3 s3=>?_⟩
   rw [hmv]
   have s23:=s2.trans s3
   walk_at "vc"
   refine ⟨by show 0≤sizeLine;decide,fun e0 he0=>?_⟩
   have s34:=qF (L2.Same.refl H3) (o:=.lst []) he0
   have ee0:upd H3 e0 (.lst []) e0=some (.lst []):=qd
   generalize upd H3 e0 (.lst [])=H4 at s34 ee0
   have s4:=s23.trans s34
   refine .inl (.inl (.inr (.inl ⟨mh,e0,_,1,rfl,rfl,by decide,qdi (s4 _ _ hmh) ee0,?_⟩)))
   rw [if_neg (by decide)]
   refine vNeB7 ?_
   rw [beq_self_eq_true]
   walk_at "vc"
   refine qQ (fun h=>by cases h) fun _=>?_
   have R4:=R1.same s4
   walk_at "vc"
   refine ⟨x,dx,_,rfl,s4 _ _ (s1 _ _ hx),qH (by decide +kernel),?_⟩
   walk_at "vc"
   refine ⟨x,b,p,ss,ns,_,_,rfl,R4.road,fun H5 s5=>?_⟩
   rw [hmv,List.length_map]
   walk_at "vc"
   refine ⟨by show 2≤sizeLine;decide,fun g hg0=>?_⟩
   have s56:=qF (L2.Same.refl H5) (o:=.lst [V.non,.int (((tr.length:Int) - 1) % 2)]) hg0
   have eg:upd H5 g (.lst [V.non,.int (((tr.length:Int) - 1) % 2)]) g=some (.lst [V.non,.int (((tr.length:Int) - 1) % 2)]):=qd
   generalize upd H5 g (.lst [V.non,.int (((tr.length:Int) - 1) % 2)])=H6 at s56 eg
   walk_at "vc"
   refine ⟨by show 0≤sizeLine;decide,fun e1 he1=>?_⟩
   have s67:=qF (L2.Same.refl H6) (o:=.lst []) he1
   have ee1:upd H6 e1 (.lst []) e1=some (.lst []):=qd
   generalize upd H6 e1 (.lst [])=H7 at s67 ee1
   have s47:=(s5.trans s56).trans s67
   have s7:=s4.trans s47
   refine .inl (.inl (.inr (.inl ⟨mh,e1,_,1,rfl,rfl,by decide,qdi (s7 _ _ hmh) ee1,?_⟩)))
   rw [if_neg (by decide)]
   have R7:=R1.same s7
   have fin:∀ H8,L2.Same H7 H8→D.rt (.bl true) H8:=fun H8 s8=>hD _ _ (q H8 ((s1.trans s7).trans s8))
   walk_at "vc"
   refine .inr ⟨_,rfl,?_⟩
   cases ec:decide ((mvI ss.length TI tr h).map (tn ss)=[]) with
   | true =>
    refine .inl (qaC (s67 _ _ eg) (v:=.int (((tr.length:Int) - 1) % 2)) rfl ?_)
    refine qco ?_
    rw [decide_eq_true rfl]
    walk_at "vc"
    refine qau ?_
    walk_at "vc"
    refine ⟨x,dx,_,rfl,s7 _ _ (s1 _ _ hx),qH (by decide +kernel),?_⟩
    walk_at "vc"
    refine ⟨x,b,p,ss,ns,_,_,rfl,R7.road,fun H8 s8=>?_⟩
    rw [hmv,ec]
    walk_at "vc"
    refine qaP (.inl (.int _)) rfl (j8 K "int" (by simp) "bool" (by simp)) ?_
    exact ⟨_,rfl,fin H8 s8⟩
   | false =>
    refine .inl (qaC (s67 _ _ eg) (v:=.non) rfl ?_)
    refine .inl (.inl (.inl ⟨rfl,rfl,?_⟩))
    walk_at "vc"
    refine qau ?_
    walk_at "vc"
    refine ⟨x,dx,_,rfl,s7 _ _ (s1 _ _ hx),qH (by decide +kernel),?_⟩
    walk_at "vc"
    refine ⟨x,b,p,ss,ns,_,_,rfl,R7.road,fun H8 s8=>?_⟩
    rw [hmv,ec]
    walk_at "vc"
    refine qaP (.inl .non) rfl (j8 K "NoneType" (by simp) "bool" (by simp)) ?_
    exact ⟨_,rfl,fin H8 s8⟩
  walk_at "vc"
  refine ⟨l,t,ts,ss.length,TI,tr,h,rfl,R.ti,R.tok,R.trl,l100,R.last,fun m H1 s1 hm0 hm=>?_⟩
  generalize mvI ss.length TI tr h=mv at hm mvlt mvlen hmv hTC3
  have R1:=R.same s1
  refine .inl ⟨⟨_,.of hm⟩,jl (xs:=iVs mv) (fun i ys J=>J=H1∧ys=((mv.take i).map (tn ss)).map V.str) ⟨rfl,by simp⟩ (fun i ys J _ hp'=>by rw [hp'.1];exact .of hm) (fun i y ys J hx' hp'=>?_) fun ys J hp'=>?_⟩
  ·obtain ⟨rfl,rfl⟩:=hp'
   rw [List.getElem?_map] at hx'
   obtain ⟨k,hk,rfl⟩:=Option.map_eq_some_iff.mp hx'
   walk_at "vc"
   refine qau ?_
   walk_at "vc"
   refine qaS R1.nm (mvlt k (List.mem_of_getElem? hk)) ?_
   refine ⟨by rw [List.length_map,List.length_map,List.length_take];exact qk (by omega),rfl,?_⟩
   rw [List.take_add_one,hk]
   show _=List.map V.str (List.map (tn ss) (_++[k]))
   rw [List.map_append,List.map_append]
   rfl
  ·obtain ⟨rfl,rfl⟩:=hp'
   have e:(iVs mv).length=mv.length:=List.length_map ..
   rw [e,List.take_length]
   refine ⟨by rw [List.length_map,List.length_map];exact Nat.le_of_lt (qk (by omega)),fun mh hmh0=>?_⟩
   have s12:=qF (L2.Same.refl J) (o:=.lst ((mv.map (tn ss)).map V.str)) hmh0
   have hmh:upd J mh (.lst ((mv.map (tn ss)).map V.str)) mh=some (.lst ((mv.map (tn ss)).map V.str)):=qd
   have s2:=s1.trans s12
   generalize upd J mh (.lst ((mv.map (tn ss)).map V.str))=H2 at s12 s2 hmh
   have R2:=R.same s2
   walk_at "vc"
   refine ⟨x,dx,_,rfl,s2 _ _ hx,qH (by decide +kernel),?_⟩
   walk_at "vc"
   refine ⟨x,b,p,ss,ns,_,_,rfl,R2.road.pl,R2.road.len,R2.road.all,R2.road.last,fun r H3 s3 hr0 hr3=>?_⟩
   rw [hmv] at hr3
   walk_at "vc"
   refine ⟨r,mh,_,1,rfl,hr3,by rw [List.length_map,List.length_map];omega,by decide,qeQ hr3 (s3 _ _ hmh),?_⟩
   have s4:L2.Same H2 (upd H3 r (.lst ((mv.map (tn ss)).map V.str++[.non]))):=Same.upd7 s3 hr0
   generalize upd H3 r (.lst ((mv.map (tn ss)).map V.str++[.non]))=H4 at s4
   have R4:=R2.same s4
   walk_at "vc"
   refine qQ (fun h=>by cases h) fun _=>?_
   walk_at "vc"
   refine ⟨x,dx,_,rfl,s4 _ _ (s2 _ _ hx),qH (by decide +kernel),?_⟩
   walk_at "vc"
   refine ⟨x,b,p,ss,ns,_,rfl,R4.road.pl,fun g hg0=>?_⟩
   have s45:=qF (L2.Same.refl H4) (o:=.lst ((tr.map (tn ss)).map V.str)) hg0
   have eg5:upd H4 g (.lst ((tr.map (tn ss)).map V.str)) g=some (.lst ((tr.map (tn ss)).map V.str)):=qd
   generalize upd H4 g (.lst ((tr.map (tn ss)).map V.str))=H5 at s45 eg5
   have R5:=R4.same s45
   walk_at "vc"
   refine .inl ⟨⟨_,.of R5.trl⟩,jl (xs:=iVs tr) (fun i ys J=>J=H5∧ys=((tr.take i).map (tn ss)).map V.str) ⟨rfl,by simp⟩ (fun i ys J _ hp'=>by rw [hp'.1];exact .of R5.trl) (fun i y ys J hx' hp'=>?_) fun ys J hp'=>?_⟩
   ·obtain ⟨rfl,rfl⟩:=hp'
    rw [List.getElem?_map] at hx'
    obtain ⟨k,hk,rfl⟩:=Option.map_eq_some_iff.mp hx'
    walk_at "vc"
    refine qau ?_
    walk_at "vc"
    refine qaS R5.nm (R.all k (List.mem_of_getElem? hk)) ?_
    refine ⟨by rw [List.length_map,List.length_map,List.length_take];exact qk (by omega),rfl,?_⟩
    rw [List.take_add_one,hk]
    show _=List.map V.str (List.map (tn ss) (_++[k]))
    rw [List.map_append,List.map_append]
    rfl
   ·obtain ⟨rfl,rfl⟩:=hp'
    have e:(iVs tr).length=tr.length:=List.length_map ..
    rw [e,List.take_length]
    refine ⟨by rw [List.length_map,List.length_map];exact Nat.le_of_lt (qk (by omega)),fun g2 hg20=>?_⟩
    have s56:=qF (L2.Same.refl J) (o:=.lst ((tr.map (tn ss)).map V.str)) hg20
    have eg6:upd J g2 (.lst ((tr.map (tn ss)).map V.str)) g2=some (.lst ((tr.map (tn ss)).map V.str)):=qd
    generalize upd J g2 (.lst ((tr.map (tn ss)).map V.str))=H6 at s56 eg6
    walk_at "vc"
    refine ⟨g,g2,_,1,rfl,s56 _ _ eg5,by rw [List.length_map,List.length_map];omega,by decide,qeQ (s56 _ _ eg5) eg6,?_⟩
    have s7:L2.Same H4 (upd H6 g (.lst ((tr.map (tn ss)).map V.str++[.non]))):=Same.upd7 (s45.trans s56) hg0
    generalize upd H6 g (.lst ((tr.map (tn ss)).map V.str++[.non]))=H7 at s7
    have s27:=s4.trans s7
    have s07:=s2.trans s27
    have R7:=R.same s07
    walk_at "vc"
    refine qQ (fun h=>by cases h) fun _=>?_
    walk_at "vc"
    refine ⟨x,dx,_,rfl,s07 _ _ hx,qH (by decide +kernel),?_⟩
    walk_at "vc"
    refine ⟨x,b,p,ss,ns,_,_,rfl,R7.road.pl,R7.road.last,?_⟩
    walk_at "vc"
    refine vU ?_
    refine .inl (qaC R7.trl (qdl R.last) ?_)
    refine qaS R7.nm R.hl ?_
    refine qfV ?_
    rw [decide_eq_true rfl]
    walk_at "vc"
    refine qQ (fun h=>by cases h) fun _=>?_
    walk_at "vc"
    refine ⟨x,dx,_,rfl,s07 _ _ hx,qH (by decide +kernel),?_⟩
    walk_at "vc"
    refine ⟨x,b,p,ss,ns,_,rfl,R7.road.pl,?_⟩
    walk_at "vc"
    refine ⟨b,wx,_,rfl,s07 _ _ hb,qag (by decide +kernel),?_⟩
    walk_at "vc"
    refine ⟨b,ss,ns,rfl,hW.same s07,fun t0 t1 t2 ll tts H10 s10 ht0 ht1 ht2 hA10=>?_⟩
    rw [R.wg.due] at hA10
    have R10:=R7.same s10
    walk_at "vc"
    refine ⟨n,_,rfl,.inl ⟨.of R10.nm,fun u1 hu1=>?_⟩⟩
    have s11:=qF (L2.Same.refl H10) (o:=.tup (ss.map V.str)) hu1
    have eu1:upd H10 u1 (.tup (ss.map V.str)) u1=some (.tup (ss.map V.str)):=qd
    generalize upd H10 u1 (.tup (ss.map V.str))=H11 at s11 eu1
    walk_at "vc"
    refine ⟨n,l,ss,ts,TI,rfl,s11 _ _ R10.nm,R10.ti.same s11,by omega,R.tok.two,fun d3 d3s H12 s12 hd30 hD3=>?_⟩
    walk_at "vc"
    refine ⟨d3,_,rfl,.inl ⟨.of hD3.1,fun u2 hu2=>?_⟩⟩
    have s13:=qF (L2.Same.refl H12) (o:=.tup (d3s.map V.ref)) hu2
    have eu2:upd H12 u2 (.tup (d3s.map V.ref)) u2=some (.tup (d3s.map V.ref)):=qd
    generalize upd H12 u2 (.tup (d3s.map V.ref))=H13 at s13 eu2
    walk_at "vc"
    refine ⟨by show 2≤sizeLine;decide,fun u hu0=>?_⟩
    have s14:=qF (L2.Same.refl H13) (o:=.tup [.ref u1,.ref u2]) hu0
    have s1014:=((s11.trans s12).trans s13).trans s14
    have z:=qbQ (K:=K) (s1014 _ _ ht0) (s1014 _ _ ht1) (s1014 _ _ ht2) (hA10.mono fun t ab z=>s1014 _ _ z.2.2) (qd (H:=H13) (a:=u) (o:=.tup [.ref u1,.ref u2])) (s14 _ _ (s13 _ _ (s12 _ _ eu1))) (s14 _ _ eu2) (hD3.2.mono fun t ab z=>s14 _ _ (s13 _ _ z))
    refine .inr (.inl ⟨t0,u,true,3,rfl,rfl,by decide,z,?_⟩)
    walk_at "vc"
    refine qQ (fun h=>by cases h) fun _=>?_
    walk_at "vc"
    rw [hTC3]
    have s714:=s10.trans s1014
    exact ⟨fun _ _ z=>z,mh,_,rfl,s07.trans s714,s714 _ _ (s27 _ _ hmh)⟩
theorem ok_tl {f:Addr} {fd:FuncData} (F:Fun K "_law_told" "_law_told" qan f fd) (T:Txt K mg cc cw) (D_l_ties_told:DefOk P w K mg base CX0 10 "_law_ties_told" ["_law_road", "_law_names_here", "_law_ties", "_law_trail"] (qfw cc cw)) (D_l_places_told:DefOk P w K mg base CX0 10 "_law_places_told" ["_law_road", "_law_names_here", "_law_ties", "_law_trail"] (qfw cc cw)):FnOk P w K mg base CX0 11 f fd ["_law_road", "_law_names_here", "_law_ties", "_law_trail", "_law_first"] (qep cc cw):=by
 refine F.ok sc_l_told (fun vs H Q E h=>?_) fun cdv A outer s H vs Q E hr h=>?_
 ·obtain ⟨n,l,x,b,p,t,ss,ns,ts,TI,tr,h,i,rfl,_⟩:=h;rfl
 ·obtain ⟨n,l,x,b,p,t,ss,ns,ts,TI,tr,h,i,rfl,R,q⟩:=h
  have hu:=zZ hr
  refine ⟨_,(qe (qO (PW.pt (qcM (qu (zT (K:=K) rfl hu) (qB j5 (pv 4) qg) qg (qy _)) (qbD (qZ (qI (qq D_l_ties_told (hmR hr) qx (qa (pv 0) (qa (pv 1) (qa (pv 2) (qa (pv 3) qc)))))))))) (qf (qm jI)) qr)
 (qf (qm (qar (qq D_l_places_told (hmR hr) qx (qa (pv 0) (qa (pv 1) (qa (pv 2) (qa (pv 3) qc))))) (qaq (qq D_l_ties_told (hmR hr) qx (qa (pv 0) (qa (pv 1) (qa (pv 2) (qa (pv 3) qc)))))))))),?_⟩
  walk_at "vc"
  refine vI (by decide) ?_
  refine qco ?_
  have fin:∀ H1,L2.Same H H1→qf4 (qe2 (qcx (qfw cc cw) [] E0 (j6 (qbr 0) (j6 (qbr 1) (j6 (qbr 2) (j6 (qbr 3) qdB))))) (qcx (qfw cc cw) [] E0 (j6 (qbr 0) (j6 (qbr 1) (j6 (qbr 2) (j6 (qbr 3) qdB)))))) { nx:=fun x H'=>Q .non H',rt:=Q } [some (.ref x),some (.ref n),some (.ref l),some (.ref t),some (.int i)] H1:=fun H1 s1=>by
   walk_at "vc"
   refine ⟨n,l,x,b,p,t,ss,ns,ts,TI,tr,h,rfl,R.same s1,fun H2 s2=>?_⟩
   walk_at "vc"
   refine qau ?_
   walk_at "vc"
   exact ⟨n,l,x,b,p,t,ss,ns,ts,TI,tr,h,rfl,(R.same s1).same s2,fun H3 s3=>q H3 ((s1.trans s2).trans s3)⟩
  walk_at "vc"
  refine qQ (fun hc=>?_) (fun hc=>?_)
  ·walk_at "vc"
   refine ⟨n,l,x,b,p,t,ss,ns,ts,TI,tr,h,rfl,R,fun H1 s1=>?_⟩
   walk_at "vc"
   refine qQ (fun h=>by cases h) fun _=>?_
   exact fin H1 s1
  ·refine qQ (fun h=>by cases h) fun _=>?_
   exact fin H (L2.Same.refl H)
end
def Bt2 (p t:Addr) (H H':Hp):Prop:=∀ c o,c≠p→c≠t→H c=some o→H' c=some o
theorem Bt2.of {p t:Addr} {H H':Hp} (s:L2.Same H H'):Bt2 p t H H':=fun c o _ _ e=>s c o e
theorem Bt2.trans {p t:Addr} {H H1 H2:Hp} (a:Bt2 p t H H1) (b:Bt2 p t H1 H2):Bt2 p t H H2:=fun c o h1 h2 e=>b c o h1 h2 (a c o h1 h2 e)
theorem Bt2.put {p t c:Addr} {H H1:Hp} {o:HO} (a:Bt2 p t H H1) (h:c=p∨c=t):Bt2 p t H (upd H1 c o):=fun d u h1 h2 e=>by
 have:d≠c:=fun z=>by rcases h with h | h<;>(rw [h] at z;first | exact h1 z | exact h2 z)
 rw [qi this]
 exact a d u h1 h2 e
theorem Bt2.same {p t:Addr} {H0 H H':Hp} (b:Bt2 p t H H') (s:L2.Same H0 H) (hp:H0 p=none) (ht:H0 t=none):L2.Same H0 H':=fun c o e=>b c o (fun z=>by rw [z,hp] at e;cases e) (fun z=>by rw [z,ht] at e;cases e) (s c o e)
def qha (cc:Nat→Addr) (cw:Addr):Sp:=fun vs H Q _=>∃ (n l x b p t:Addr) (ss:List Str) (ns:List Nat) (ts:List Addr) (TI:List (Nat×Nat)) (tr:List Nat) (h:Nat) (c:Int),vs=[.ref x,.ref n,.ref l,.ref t,.int c]∧RSt cc cw H n l x b p t ss ns ts TI tr h∧p≠t∧n≠p∧n≠t∧tr.length≤90∧(∀ H',Bt2 p t H H'→WebAt cw H' b ss ns) ∧
 ∀ (H':Hp) (tr':List Nat),Bt2 p t H H'→H' p=some (.lst ((tr'.map (tn ss)).map V.str))→H' t=some (.lst (iVs tr'))→tr'≠[]→(∀ i∈tr',i < ss.length)→tr'.length≤tr.length + 1→Q (.bl true) H'
section
variable {P:Program} {w:World} {K:W.Frag} {mg:Str→Option Value} {base:Heap} {cc:Nat→Addr} {cw:Addr}
end
structure Stc (K:W.Frag) (cw:Addr) (H:Hp) (a b n l:Addr) (nz:List Int) (ss:List Str) (ns:List Nat) (ts:List Addr) (TI:List (Nat×Nat)):Prop where
 sc:SqL K H a (nz.map V.int)
 nm:H n=some (.lst (ss.map V.str))
 ok:NOk ss
 ti:IPL H l ts TI
 tok:TIok ss.length TI
 wg:WG ss ns (TI.map (nmP ss))
 web:WebAt cw H b ss ns
theorem qdm {K:W.Frag} {H H':Hp} {a:Addr} {xs:List V} (h:SqL K H a xs) (s:L2.Same H H'):SqL K H' a xs:=h.imp (fun e=>e.imp (fun e=>s _ _ e) fun ⟨o,e⟩=>⟨o,s _ _ e⟩) id
theorem Stc.same {K:W.Frag} {cw:Addr} {H H':Hp} {a b n l:Addr} {nz:List Int} {ss:List Str} {ns:List Nat} {ts:List Addr} {TI:List (Nat×Nat)} (h:Stc K cw H a b n l nz ss ns ts TI) (s:L2.Same H H'):Stc K cw H' a b n l nz ss ns ts TI:=⟨qdm h.sc s,s _ _ h.nm,h.ok,h.ti.same s,h.tok,h.wg,h.web.same s⟩
structure RI (cc:Nat→Addr) (H0 H:Hp) (b x p t:Addr) (ss:List Str) (tr:List Nat):Prop where
 ob:∃ dx,H x=some (.ins (cc 9) dx (jf "path" (.ref p) (jf "board" (.ref b) [])))
 pa:H p=some (.lst ((tr.map (tn ss)).map V.str))
 tr_:H t=some (.lst (iVs tr))
 p0:H0 p=none
 t0:H0 t=none
 pt:p≠t
 ne:tr≠[]
 lt:∀ i∈tr,i < ss.length
theorem RI.same {cc:Nat→Addr} {H0 H H':Hp} {b x p t:Addr} {ss:List Str} {tr:List Nat} (h:RI cc H0 H b x p t ss tr) (s:L2.Same H H'):RI cc H0 H' b x p t ss tr:=⟨h.ob.elim fun dx e=>⟨dx,s _ _ e⟩,s _ _ h.pa,s _ _ h.tr_,h.p0,h.t0,h.pt,h.ne,h.lt⟩
theorem RI.rst {K:W.Frag} {cc:Nat→Addr} {cw:Addr} {H0 H:Hp} {a b n l x p t:Addr} {nz:List Int} {ss:List Str} {ns:List Nat} {ts:List Addr} {TI:List (Nat×Nat)} {tr:List Nat} (h:RI cc H0 H b x p t ss tr) (S:Stc K cw H0 a b n l nz ss ns ts TI) (s:L2.Same H0 H) (hl:tr.length≤100):∃ z,RSt cc cw H n l x b p t ss ns ts TI tr z:=by
 have S':=S.same s
 obtain ⟨dx,hx⟩:=h.ob
 have hz:tr.getLast?=some (tr.getLast h.ne):=List.getLast?_eq_some_getLast h.ne
 refine ⟨tr.getLast h.ne,S'.nm,S'.ok,S'.ti,S'.tok,S'.wg,⟨⟨dx,hx,h.pa,S'.web⟩,by rw [List.length_map];exact hl,fun u hu=>?_,?_⟩,h.tr_,hz,h.lt⟩
 ·obtain ⟨i,hi,rfl⟩:=List.mem_map.mp hu
  exact qbz (h.lt i hi)
 ·rw [List.getLast?_map,hz];rfl
structure LI (cc:Nat→Addr) (H0 H:Hp) (b rl tl:Addr) (ss:List Str) (m:Nat) (x0 p0 t0:Addr) (tr0:List Nat) (x1 p1 t1:Addr) (tr1:List Nat):Prop where
 s:L2.Same H0 H
 rl_:H rl=some (.lst [.ref x0,.ref x1])
 tl_:H tl=some (.lst [.ref t0,.ref t1])
 r0:RI cc H0 H b x0 p0 t0 ss tr0
 r1:RI cc H0 H b x1 p1 t1 ss tr1
 n1:p0≠p1
 n2:t0≠t1
 n3:p0≠t1
 n4:p1≠t0
 k1:rl≠p0∧rl≠t0∧rl≠p1∧rl≠t1
 k2:tl≠p0∧tl≠t0∧tl≠p1∧tl≠t1
 l0:tr0.length≤m
 l1:tr1.length≤m
section
variable {P:Program} {w:World} {K:W.Frag} {mg:Str→Option Value} {base:Heap} {cc:Nat→Addr} {cw:Addr}
end
theorem sc_count_from:FnScope ["walk", "many", "total", "move"] ["walk", "many"] (qb jQ):=⟨rfl,rfl,rfl,by decide +kernel,rfl,by decide +kernel,by decide +kernel⟩
theorem sc_Road_twin:FnScope ["self", "twin"] ["self"] (qb j1):=⟨rfl,rfl,rfl,by decide +kernel,rfl,by decide +kernel,by decide +kernel⟩
theorem sc_l_count:FnScope ["_law_ties", "_law_trail", "_law_many", "_law_found", "_law_goal"] ["_law_ties", "_law_trail", "_law_many"] (qb zI):=⟨rfl,rfl,rfl,by decide +kernel,rfl,by decide +kernel,by decide +kernel⟩
def rcI (n:Nat) (TI:List (Nat×Nat)):Nat→List Nat→Nat
 | 0,_=>1
 | m + 1,tr=>1 + ((mvI n TI tr (tr.getLast?.getD 0)).map fun g=>rcI n TI m (tr++[g])).sum
structure RdW (cc:Nat→Addr) (cw:Addr) (H:Hp) (x b p:Addr) (ss:List Str) (ns:List Nat) (TI:List (Nat×Nat)) (tr:List Nat):Prop where
 ok:NOk ss
 tok:TIok ss.length TI
 wg:WG ss ns (TI.map (nmP ss))
 pl:PlayAt (cc 9) cw H x b p ss ns (tr.map (tn ss))
 ne:tr≠[]
 lt:∀ i∈tr,i < ss.length
 ap:∃ H0,L2.Same H0 H∧H0 p=none∧WebAt cw H0 b ss ns
theorem RdW.same {cc:Nat→Addr} {cw:Addr} {H H':Hp} {x b p:Addr} {ss:List Str} {ns:List Nat} {TI:List (Nat×Nat)} {tr:List Nat} (h:RdW cc cw H x b p ss ns TI tr) (s:L2.Same H H'):RdW cc cw H' x b p ss ns TI tr:=by
 obtain ⟨H0,s0,hp0,hW0⟩:=h.ap
 exact ⟨h.ok,h.tok,h.wg,h.pl.same s,h.ne,h.lt,H0,s0.trans s,hp0,hW0⟩
theorem RdW.put {cc:Nat→Addr} {cw:Addr} {H H':Hp} {x b p:Addr} {ss:List Str} {ns:List Nat} {TI:List (Nat×Nat)} {tr tr':List Nat} (h:RdW cc cw H x b p ss ns TI tr) (k:But p H H') (e:H' p=some (.lst ((tr'.map (tn ss)).map V.str))) (hne:tr'≠[]) (hlt:∀ i∈tr',i < ss.length):RdW cc cw H' x b p ss ns TI tr':=by
 obtain ⟨H0,s0,hp0,hW0⟩:=h.ap
 obtain ⟨dx,hx,hp,_⟩:=h.pl
 have s1:=same_but s0 k hp0
 exact ⟨h.ok,h.tok,h.wg,⟨dx,k _ _ (fun z=>by rw [z,hp] at hx;cases hx) hx,e,hW0.same s1⟩,hne,hlt,H0,s1,hp0,hW0⟩
theorem RdW.road {cc:Nat→Addr} {cw:Addr} {H:Hp} {x b p:Addr} {ss:List Str} {ns:List Nat} {TI:List (Nat×Nat)} {tr:List Nat} (h:RdW cc cw H x b p ss ns TI tr) (hl:tr.length≤100):∃ z,tr.getLast?=some z∧RoadAt cc cw H x b p ss ns (tr.map (tn ss)) (tn ss z)∧rmN ss ns (tr.map (tn ss)) (tn ss z)=(mvI ss.length TI tr z).map (tn ss):=by
 have hz:tr.getLast?=some (tr.getLast h.ne):=List.getLast?_eq_some_getLast h.ne
 obtain ⟨dx,_,_,hW⟩:=id h.pl
 refine ⟨_,hz,⟨h.pl,by rw [List.length_map];exact hl,fun u hu=>?_,by rw [List.getLast?_map,hz];rfl⟩,qeZ hW.ok h.wg h.tok h.lt (h.lt _ (List.mem_of_getLast? hz))⟩
 obtain ⟨i,hi,rfl⟩:=List.mem_map.mp hu
 exact qbz (h.lt i hi)
def qfo (cc:Nat→Addr) (cw:Addr) (m:Nat):Sp:=fun vs H Q _=>∃ (x b p:Addr) (ss:List Str) (ns:List Nat) (TI:List (Nat×Nat)) (tr:List Nat),vs=[.ref x,.int m]∧RdW cc cw H x b p ss ns TI tr∧tr.length + m≤60∧∀ (H':Hp),L2.Same H H'→Q (.int (rcI ss.length TI m tr:Nat)) H'
def qfp (m:Nat):Sp:=fun vs H Q _=>∃ (l t:Addr) (n:Nat) (ts:List Addr) (TI:List (Nat×Nat)) (tr:List Nat),vs=[.ref l,.ref t,.int m]∧IPL H l ts TI∧TIok n TI∧H t=some (.lst (iVs tr))∧tr≠[]∧tr.length + m≤60∧∀ (H':Hp),L2.Same H H'→Q (.int (rcI n TI m tr:Nat)) H'
def qeq (cc:Nat→Addr) (cw:Addr):Sp:=fun vs H Q _=>∃ (x b p:Addr) (ss:List Str) (ns:List Nat) (TI:List (Nat×Nat)) (tr:List Nat),vs=[.ref x]∧RdW cc cw H x b p ss ns TI tr∧tr.length≤100∧∀ (x' p':Addr) (H':Hp),L2.Same H H'→H x'=none→H p'=none→PlayAt (cc 9) cw H' x' b p' ss ns (tr.map (tn ss))→Q (.ref x') H'
theorem putF_path {p q b:V}:jf "path" q (jf "path" p (jf "board" b []))=jf "path" q (jf "board" b []):=by
 rfl
section
variable {P:Program} {w:World} {K:W.Frag} {mg:Str→Option Value} {base:Heap} {cc:Nat→Addr} {cw:Addr}
theorem ok_rtw {f:Addr} {fd:FuncData} (F:Fun K "twin" "Road.twin" j1 f fd) (T:Txt K mg cc cw) (D_Road:MakeOk P w K mg base CX0 5 (cc 9) "Road" ["self", "web", "start"] (qem cc cw)):FnOk P w K mg base CX0 7 f fd ["self"] (qeq cc cw):=by
 refine F.ok sc_Road_twin (fun vs H Q E h=>?_) fun cdv A outer s H vs Q E hr h=>?_
 ·obtain ⟨x,b,p,ss,ns,TI,tr,rfl,_⟩:=h;rfl
 ·obtain ⟨x,b,p,ss,ns,TI,tr,rfl,W,l100,q⟩:=h
  have hu:=zZ hr
  obtain ⟨dx,hx,hp,hW⟩:=id W.pl
  obtain ⟨k0,rest,rfl⟩:∃ k0 rest,tr=k0::rest:=by
   cases tr with
   | nil=>exact absurd rfl W.ne
   | cons a r=>exact ⟨a,r,rfl⟩
  refine ⟨_,(qe (qw (i:=1) sc_Road_twin.nd rfl (Or.inl rfl) (qaH D_Road (hmR hr) (qa (qT (K:=K) rfl (pv 0) rfl) (qa (qD (qE (K:=K) rfl hu) (qT (K:=K) rfl (pv 0) rfl) qg (fun _ _=>rfl)) qc))))
 (qe (jU (K:=K) rfl (pv 1) (qG (qav (K:=K) rfl rfl) rfl T.b_list boot_list (qa (qT (K:=K) rfl (pv 0) rfl) qc)) rfl)
 (qf (qm (pv 1))))),?_⟩
  walk_at "vc"
  refine .inl ⟨x,cc 9,dx,_,.ref b,rfl,hx,T.pcl,T.pb,zW,?_⟩
  walk_at "vc"
  refine .inl ⟨x,cc 9,dx,_,.ref p,rfl,hx,T.pcl,T.pp,zy,?_⟩
  walk_at "vc"
  refine .inl (qaC hp (v:=.str (tn ss k0)) (ju (j:=0) rfl) ?_)
  walk_at "vc"
  intro x' dx' hx0 hdx0 hne
  have sG:L2.Same H (upd (upd H dx' (.own x')) x' (.ins (cc 9) dx' [])):=qF (qF (L2.Same.refl H) hdx0) (by rw [qi hne.symm];exact hx0)
  have ex:upd (upd H dx' (.own x')) x' (.ins (cc 9) dx' []) x'=some (.ins (cc 9) dx' []):=qd
  generalize upd (upd H dx' (.own x')) x' (.ins (cc 9) dx' [])=G at sG ex
  refine ⟨x',dx',b,tn ss k0,ss,ns,rfl,ex,hW.same sG,qbz (W.lt k0 (List.mem_cons_self ..)),fun p1 J b2 hp0 hPl=>⟨rfl,?_⟩⟩
  have sJ:L2.Same H J:=fun c o e=>b2 c o (fun z=>by rw [z,hx0] at e;cases e) (sG c o e)
  obtain ⟨dx1,hx1,hp1,_⟩:=hPl
  walk_at "vc"
  refine .inl ⟨x,cc 9,dx,_,.ref p,rfl,sJ _ _ hx,T.pcl,T.pp,zy,?_⟩
  walk_at "vc"
  refine .inl ⟨p,_,rfl,.inl (.of (sJ _ _ hp)),fun p2 hp20=>?_⟩
  have s3:=qF (L2.Same.refl J) (o:=.lst (((k0::rest).map (tn ss)).map V.str)) hp20
  have ep2:upd J p2 (.lst (((k0::rest).map (tn ss)).map V.str)) p2=some (.lst (((k0::rest).map (tn ss)).map V.str)):=qd
  generalize upd J p2 (.lst (((k0::rest).map (tn ss)).map V.str))=J3 at s3 ep2
  walk_at "vc"
  have hx3:=s3 _ _ hx1
  have n2:p2≠x':=fun z=>by rw [z,hx1] at hp20;cases hp20
  refine .inl ⟨x',cc 9,dx1,_,rfl,hx3,T.pcl,T.pp,Nat.lt_of_le_of_lt (Nat.le_trans (jt _ _ _) (Nat.succ_le_succ (jt _ _ _))) (by decide),?_⟩
  rw [putF_path]
  have sE:L2.Same H (upd J3 x' (.ins (cc 9) dx1 (jf "path" (.ref p2) (jf "board" (.ref b) [])))):=fun c o e=>by
   have:c≠x':=fun z=>by rw [z,hx0] at e;cases e
   rw [qi this]
   exact s3 _ _ (sJ _ _ e)
  walk_at "vc"
  exact q x' p2 _ sE hx0 (sJ.free hp20) ⟨dx1,qd,by rw [qi n2];exact ep2,hW.same sE⟩
theorem qcs {f:Addr} {fd:FuncData} (F:Fun K "count_from" "count_from" jQ f fd) (m:Nat) (hm:m≤4) (sp':Sp) (hsp:0 < m→sp'=qfo cc cw (m - 1)) (D_Road_moves:MethOk P w K mg base CX0 7 (cc 9) "moves" ["self"] (qfT cc cw)) (D_Walk_move_to:MethOk P w K mg base CX0 8 (cc 9) "move_to" ["self", "thing"] (qdA cc cw)) (D_Walk_back:MethOk P w K mg base CX0 1 (cc 9) "back" ["self"] (qfS cc cw)) (D_count_from:DefOk P w K mg base CX0 (m + 9) "count_from" ["walk", "many"] sp'):FnOk P w K mg base CX0 (m + 10) f fd ["walk", "many"] (qfo cc cw m):=by
 refine F.ok sc_count_from (fun vs H Q E h=>?_) fun cdv A outer s H vs Q E hr h=>?_
 ·obtain ⟨x,b,p,ss,ns,TI,tr,rfl,_⟩:=h;rfl
 ·obtain ⟨x,b,p,ss,ns,TI,tr,rfl,W,l60,q⟩:=h
  have hu:=zZ hr
  obtain ⟨dx,hx,hp,hW⟩:=id W.pl
  obtain ⟨z,hz,RA,emv⟩:=W.road (by omega)
  have few:=W.ok.few
  refine ⟨_,(qe (qw (i:=2) sc_count_from.nd rfl (Or.inl rfl) qg)
 (qe (qO (qu qdr (pv 1) qg (qy _)) (qf (j9 PassesOwn.never rfl (j7 (K:=K) rfl (qo D_Road_moves (hr.mono (by omega)) (pv 0))) (qt (i:=3) sc_count_from.nd rfl (Or.inl rfl))
 (qe (qL (jH D_Walk_move_to (hr.mono (by omega)) (pv 0) (qa (pv 3) qc)))
 (qe (ps_aug (i:=2) sc_count_from.nd rfl (Or.inl rfl) (qq D_count_from (hr.mono (by omega)) qx (qa (pv 0) (qa (qB qcR (pv 1) qg) qc))) ip_add)
 (qf (qL (qo D_Walk_back (hr.mono (by omega)) (pv 0)))))))) qr)
 (qf (qm (pv 2))))),?_⟩
  walk_at "vc"
  cases m with
  | zero =>
   refine qQ (fun h=>absurd h (by decide)) fun _=>?_
   walk_at "vc"
   exact q H (L2.Same.refl H)
  | succ k =>
   have hsp:=hsp (Nat.succ_pos k)
   rw [Nat.add_sub_cancel] at hsp
   subst hsp
   refine qQ (fun _=>?_) fun h=>absurd (decide_eq_true (by omega)) h
   walk_at "vc"
   refine ⟨x,dx,_,rfl,hx,qH (by decide +kernel),?_⟩
   walk_at "vc"
   refine ⟨x,b,p,ss,ns,_,_,rfl,RA.pl,RA.len,RA.all,RA.last,fun d H1 s1 hd0 hd=>?_⟩
   have ndp:d≠p:=fun e=>by rw [e,hp] at hd0;cases hd0
   have eqr:rcI ss.length TI (k + 1) tr=1 + ((mvI ss.length TI tr z).map fun g=>rcI ss.length TI k (tr++[g])).sum:=by
    show 1 + _=_
    rw [hz]
    rfl
   rw [eqr] at q
   rw [emv] at hd
   have mvlt:∀ g∈mvI ss.length TI tr z,g < ss.length:=fun k hk=>List.mem_range.mp (List.mem_filter.mp hk).1
   have hin:∀ g∈mvI ss.length TI tr z,tn ss g∈rmN ss ns (tr.map (tn ss)) (tn ss z):=fun g hg=>by rw [emv];exact List.mem_map.mpr ⟨g,hg,rfl⟩
   generalize mvI ss.length TI tr z=mv at q hd mvlt hin
   walk_at "vc"
   refine .inl ⟨⟨_,SqL.of hd⟩,zr (K:=K) (xs:=(mv.map (tn ss)).map V.str) (fun i σ H'=>L2.Same H H'∧H' d=some (.lst ((mv.map (tn ss)).map V.str))∧∃ x3,σ=[some (.ref x),some (.int ((k + 1:Nat):Int)),some (.int ((1 + ((mv.take i).map fun g=>rcI ss.length TI k (tr++[g])).sum:Nat):Int)),x3]) ⟨s1,hd,none,rfl⟩ (fun i σ H' _ hp=>SqL.of hp.2.1) (fun i y σ H3 hy hp'=>?_) fun σ H3 hp'=>?_⟩
   ·obtain ⟨s3,ed3,x3,rfl⟩:=hp'
    rw [List.getElem?_map,List.getElem?_map] at hy
    obtain ⟨v,hv,rfl⟩:=Option.map_eq_some_iff.mp hy
    obtain ⟨g,hg,rfl⟩:=Option.map_eq_some_iff.mp hv
    have hgm:g∈mv:=List.mem_of_getElem? hg
    have htk:mv.take (i + 1)=mv.take i++[g]:=by rw [List.take_add_one,hg];rfl
    have W3:=W.same s3
    walk_at "vc"
    refine ⟨x,dx,_,rfl,s3 _ _ hx,qH (by decide +kernel),?_⟩
    walk_at "vc"
    refine ⟨x,b,p,ss,ns,_,_,tn ss g,rfl,RA.same s3,hin g hgm,fun H4 b4 e4=>?_⟩
    have W4:RdW cc cw H4 x b p ss ns TI (tr++[g]):=W3.put b4 (by rw [e4];simp) (by simp) fun i hi=>by
     rcases List.mem_append.mp hi with z | z
     ·exact W.lt i z
     ·rw [List.mem_singleton.mp z];exact mvlt g hgm
    walk_at "vc"
    refine ⟨_,rfl,?_⟩
    walk_at "vc"
    rw [show ((((k + 1:Nat):Int)) - 1)=(k:Int) by omega]
    refine ⟨x,b,p,ss,ns,TI,tr++[g],rfl,W4,by rw [List.length_append];show tr.length + 1 + k≤60;omega,fun H5 s45=>?_⟩
    have W5:=W4.same s45
    obtain ⟨dx5,hx5,hp5,hW5⟩:=id W5.pl
    refine ⟨_,_,rfl,rfl,?_⟩
    walk_at "vc"
    refine ⟨x,dx5,_,rfl,hx5,qH (by decide +kernel),?_⟩
    walk_at "vc"
    have hpl5:=W5.pl
    rw [List.map_append] at hpl5
    refine ⟨x,b,p,ss,ns,tr.map (tn ss),tn ss g,rfl,hpl5,fun e=>W.ne (List.map_eq_nil_iff.mp e),by rw [List.length_map];omega,?_⟩
    have s6:L2.Same H (upd H5 p (.lst ((tr.map (tn ss)).map V.str))):=fun c o e=>by
     by_cases ec:c=p
     ·subst ec;rw [qd];rw [hp] at e;exact e
     ·rw [qi ec];exact s45 _ _ (b4 _ _ ec (s3 _ _ e))
    have e7:((1 + ((mv.take i).map fun g=>rcI ss.length TI k (tr++[g])).sum:Nat):Int) + ((rcI ss.length TI k (tr++[g]):Nat):Int)=((1 + ((mv.take (i + 1)).map fun g=>rcI ss.length TI k (tr++[g])).sum:Nat):Int):=by
     rw [htk,List.map_append,List.sum_append,List.map_cons,List.map_nil,List.sum_cons,List.sum_nil]
     omega
    refine ⟨s6,by rw [qi ndp];exact s45 _ _ (b4 _ _ ndp ed3),some (.str (tn ss g)),?_⟩
    rw [← e7]
    rfl
   ·obtain ⟨s3,ed3,x3,rfl⟩:=hp'
    have e:((mv.map (tn ss)).map V.str).length=mv.length:=by rw [List.length_map,List.length_map]
    rw [e,List.take_length]
    walk_at "vc"
    exact q H3 s3
theorem qct {f:Addr} {fd:FuncData} (F:Fun K "_law_count" "_law_count" zI f fd) (m:Nat) (hm:m≤4) (sp':Sp) (hsp:0 < m→sp'=qfp (m - 1)) (D_l_moves:DefOk P w K mg base CX0 2 "_law_moves" ["_law_ties", "_law_trail"] qeo) (D_l_count:DefOk P w K mg base CX0 (m + 2) "_law_count" ["_law_ties", "_law_trail", "_law_many"] sp'):FnOk P w K mg base CX0 (m + 3) f fd ["_law_ties", "_law_trail", "_law_many"] (qfp m):=by
 refine F.ok sc_l_count (fun vs H Q E h=>?_) fun cdv A outer s H vs Q E hr h=>?_
 ·obtain ⟨l,t,n,ts,TI,tr,rfl,_⟩:=h;rfl
 ·obtain ⟨l,t,n,ts,TI,tr,rfl,hI,hT,ht,hne,l60,q⟩:=h
  have hu:=zZ hr
  have hz:tr.getLast?=some (tr.getLast hne):=List.getLast?_eq_some_getLast hne
  generalize tr.getLast hne=z at hz
  refine ⟨_,(qe (qO (qu (zT (K:=K) rfl hu) (pv 2) qg (qy _)) (qf (qm qg)) qr)
 (qe (qw (i:=3) sc_l_count.nd rfl (Or.inl rfl) qg)
 (qe (j9 PassesOwn.never rfl (j7 (K:=K) rfl (qq D_l_moves (hr.mono (by omega)) qx (qa (pv 0) (qa (pv 1) qc)))) (qt (i:=4) sc_l_count.nd rfl (Or.inl rfl))
 (qf (qw (i:=3) sc_l_count.nd rfl (Or.inl rfl) (qB (qaa (K:=K) rfl) (pv 3) (qq D_l_count (hr.mono (by omega)) qx (qa (pv 0) (qa (qB (qaa (K:=K) rfl) (pv 1) (js (qa (pv 4) qc))) (qa (qB qcR (pv 2) qg) qc))))))))
 (qf (qm (pv 3)))))),?_⟩
  walk_at "vc"
  refine qco ?_
  walk_at "vc"
  cases m with
  | zero =>
   refine qau ?_
   walk_at "vc"
   exact q H (L2.Same.refl H)
  | succ k =>
   have hsp:=hsp (Nat.succ_pos k)
   rw [Nat.add_sub_cancel] at hsp
   subst hsp
   rw [decide_eq_false (show ¬ ((k + 1:Nat):Int)=0 by omega)]
   refine qQ (fun h=>by cases h) fun _=>?_
   walk_at "vc"
   refine ⟨l,t,ts,n,TI,tr,z,rfl,hI,hT,ht,by omega,hz,fun d H1 s1 hd0 hd=>?_⟩
   have eqr:rcI n TI (k + 1) tr=1 + ((mvI n TI tr z).map fun g=>rcI n TI k (tr++[g])).sum:=by
    show 1 + _=_
    rw [hz]
    rfl
   rw [eqr] at q
   generalize mvI n TI tr z=mv at q hd
   refine .inl ⟨⟨_,SqL.of hd⟩,zr (K:=K) (xs:=iVs mv) (fun i σ H'=>L2.Same H1 H'∧∃ x3,σ=[some (.ref l),some (.ref t),some (.int ((k + 1:Nat):Int)),some (.int ((1 + ((mv.take i).map fun g=>rcI n TI k (tr++[g])).sum:Nat):Int)),x3]) ⟨L2.Same.refl H1,none,rfl⟩ (fun i σ H' _ hp=>SqL.of (hp.1 _ _ hd)) (fun i y σ H3 hy hp'=>?_) fun σ H3 hp'=>?_⟩
   ·obtain ⟨s3,x3,rfl⟩:=hp'
    rw [List.getElem?_map] at hy
    obtain ⟨g,hg,rfl⟩:=Option.map_eq_some_iff.mp hy
    have htk:mv.take (i + 1)=mv.take i++[g]:=by rw [List.take_add_one,hg];rfl
    have s13:=s1.trans s3
    walk_at "vc"
    refine ⟨by show 1≤sizeLine;decide,fun e1 he1=>?_⟩
    have s4:=qF s13 (o:=.lst [iV g]) he1
    have ee1:upd H3 e1 (.lst [iV g]) e1=some (.lst [iV g]):=qd
    have s34:=qF (L2.Same.refl H3) (o:=.lst [iV g]) he1
    generalize upd H3 e1 (.lst [iV g])=H4 at s4 ee1 s34
    refine .inl ⟨t,e1,_,_,rfl,rfl,s4 _ _ ht,ee1,by rw [List.length_map];exact Nat.le_of_lt (qk (by simp;omega)),fun e2 he2=>?_⟩
    have ea:iVs tr++[iV g]=iVs (tr++[g]):=by show _=List.map iV _;rw [List.map_append];rfl
    rw [ea]
    have s45:=qF (L2.Same.refl H4) (o:=.lst (iVs (tr++[g]))) he2
    have ee2:upd H4 e2 (.lst (iVs (tr++[g]))) e2=some (.lst (iVs (tr++[g]))):=qd
    generalize upd H4 e2 (.lst (iVs (tr++[g])))=H5 at s45 ee2
    walk_at "vc"
    rw [show ((((k + 1:Nat):Int)) - 1)=(k:Int) by omega]
    refine ⟨l,e2,n,ts,TI,tr++[g],rfl,hI.same (s4.trans s45),hT,ee2,by simp,by rw [List.length_append];show tr.length + 1 + k≤60;omega,fun H6 s6=>?_⟩
    have e7:((1 + ((mv.take i).map fun g=>rcI n TI k (tr++[g])).sum:Nat):Int) + ((rcI n TI k (tr++[g]):Nat):Int)=((1 + ((mv.take (i + 1)).map fun g=>rcI n TI k (tr++[g])).sum:Nat):Int):=by
     rw [htk,List.map_append,List.sum_append,List.map_cons,List.map_nil,List.sum_cons,List.sum_nil]
     omega
    walk_at "vc"
    refine ⟨((s3.trans s34).trans s45).trans s6,some (iV g),?_⟩
    rw [← e7]
    rfl
   ·obtain ⟨s3,x3,rfl⟩:=hp'
    have e:(iVs mv).length=mv.length:=List.length_map ..
    rw [e,List.take_length]
    walk_at "vc"
    exact q H3 (s1.trans s3)
end
theorem sc_roads_within:FnScope ["road", "many"] ["road", "many"] (qb je):=⟨rfl,rfl,rfl,by decide +kernel,rfl,by decide +kernel,by decide +kernel⟩
theorem sc_l_moved:FnScope ["_law_road", "_law_names_here", "_law_ties", "_law_trail", "_law_cell", "_law_moves_here", "_law_goal"] ["_law_road", "_law_names_here", "_law_ties", "_law_trail", "_law_cell"] (qb zJ):=⟨rfl,rfl,rfl,by decide +kernel,rfl,by decide +kernel,by decide +kernel⟩
theorem sc_l_web_told:FnScope ["_law_names_here", "_law_ties", "_law_trail", "_law_gone_here"] ["_law_names_here", "_law_ties", "_law_trail"] (qb jx):=⟨rfl,rfl,rfl,by decide +kernel,rfl,by decide +kernel,by decide +kernel⟩
theorem sc_l_counted:FnScope ["_law_road", "_law_ties", "_law_trail", "_law_many", "_law_due", "_law_turn", "_law_found"] ["_law_road", "_law_ties", "_law_trail", "_law_many"] (qb j2):=⟨rfl,rfl,rfl,by decide +kernel,rfl,by decide +kernel,by decide +kernel⟩
theorem sc_l_no_numbers:FnScope ["_law_road", "_law_thing", "e"] ["_law_road", "_law_thing"] (qb jr):=⟨rfl,rfl,rfl,by decide +kernel,rfl,by decide +kernel,by decide +kernel⟩
theorem sc_l_all_told:FnScope ["_law_roads", "_law_names_here", "_law_ties", "_law_trails", "_law_road", "_law_trail"] ["_law_roads", "_law_names_here", "_law_ties", "_law_trails"] (qb jR):=⟨rfl,rfl,rfl,by decide +kernel,rfl,by decide +kernel,by decide +kernel⟩
theorem sc_l_to_the_start:FnScope ["_law_road", "_law_names_here", "_law_ties", "_law_trail"] ["_law_road", "_law_names_here", "_law_ties", "_law_trail"] (qb qY):=⟨rfl,rfl,rfl,by decide +kernel,rfl,by decide +kernel,by decide +kernel⟩
theorem FnOk.upQ {P:Program} {w:World} {K:W.Frag} {mg:Str→Option Value} {base:Heap} {CX:CXT} {k k':Nat} {f:Addr} {fd:FuncData} {ps:List Str} {sp:Sp} (F:FnOk P w K mg base CX k f fd ps sp) (h:k≤k'):FnOk P w K mg base CX k' f fd ps sp:=
 ⟨F.len,fun A outer s H args us vs Q E hr he hb hv hs=>F.run A outer s H args us vs Q E (hr.mono h) he hb hv hs⟩
theorem FnOk.uptoQ {P:Program} {w:World} {K:W.Frag} {mg:Str→Option Value} {base:Heap} {CX:CXT} {k n:Nat} {f:Addr} {fd:FuncData} {ps:List Str} {sp:Nat→Sp} (F:∀ m,m≤n→FnOk P w K mg base CX k f fd ps (sp m)):FnOk P w K mg base CX k f fd ps (fun vs H Q E=>∃ m,m≤n∧sp m vs H Q E):=
 ⟨fun vs H Q E ⟨m,hm,h⟩=>(F m hm).len vs H Q E h,fun A outer s H args us vs Q E hr he hb hv ⟨m,hm,h⟩=>(F m hm).run A outer s H args us vs Q E hr he hb hv h⟩
def qeb (cc:Nat→Addr) (cw:Addr):Sp:=fun vs H Q E=>∃ m,m≤4∧qfo cc cw m vs H Q E
def qfX:Sp:=fun vs H Q E=>∃ m,m≤4∧qfp m vs H Q E
def qfY (cc:Nat→Addr):Sp:=fun vs H Q E=>∃ (x q:Addr) (k:Nat) (v:V),vs=[.ref x,v]∧Th q H k v∧qbn 0 4 v=false∧Rz cc H E (7,v)
def qfZ (cc:Nat→Addr) (cw:Addr):Sp:=fun vs H Q _=>∃ (x b p l t:Addr) (ss:List Str) (ns:List Nat) (ts:List Addr) (TI:List (Nat×Nat)) (tr:List Nat) (m:Nat),vs=[.ref x,.ref l,.ref t,.int (m:Int)]∧m≤4∧RdW cc cw H x b p ss ns TI tr∧IPL H l ts TI∧H t=some (.lst (iVs tr))∧tr.length≤50∧∀ H',L2.Same H H'→Q (.bl true) H'
def qf0 (cc:Nat→Addr):Sp:=fun vs H Q _=>∃ (x q:Addr) (k:Nat) (v:V),vs=[.ref x,v]∧Th q H k v∧qbn 0 4 v=false∧∀ H',L2.Same H H'→Q (.bl true) H'
def qf1:Sp:=fun vs H Q _=>∃ (n l t:Addr) (ss:List Str) (ts:List Addr) (TI:List (Nat×Nat)) (tr:List Nat),vs=[.ref n,.ref l,.ref t]∧H n=some (.lst (ss.map V.str))∧IPL H l ts TI∧TIok ss.length TI∧H t=some (.lst (iVs tr))∧tr.length≤100∧∀ (u u1 u2:Addr) (us:List Addr) (H':Hp),L2.Same H H'→H' u=some (.tup [.ref u1,.ref u2])→H' u1=some (.tup (ss.map V.str))→H' u2=some (.tup (us.map V.ref))→All2 (fun t ab=>H' t=some (.tup [.str ab.1,.str ab.2])) us ((TI.filter fun q=>!decide (q∈gnI tr)).map (nmP ss))→Q (.ref u) H'
def qf2 (cc:Nat→Addr) (cw:Addr):Sp:=fun vs H Q _=>∃ (rl n l tl:Addr) (ss:List Str) (ts:List Addr) (TI:List (Nat×Nat)) (xs us:List Addr),vs=[.ref rl,.ref n,.ref l,.ref tl]∧H rl=some (.lst (xs.map V.ref))∧H tl=some (.lst (us.map V.ref))∧xs.length=us.length∧(∀ (j:Nat) x t,xs[j]?=some x→us[j]?=some t→∃ b p ns tr h,RSt cc cw H n l x b p t ss ns ts TI tr h)∧∀ H',L2.Same H H'→Q (.bl true) H'
def qf3 (cc:Nat→Addr) (cw:Addr):Sp:=fun vs H Q _=>∃ (n l x b p t:Addr) (ss:List Str) (ns:List Nat) (ts:List Addr) (TI:List (Nat×Nat)) (tr:List Nat) (h:Nat),vs=[.ref x,.ref n,.ref l,.ref t]∧RSt cc cw H n l x b p t ss ns ts TI tr h∧p≠t∧n≠p∧n≠t∧(∀ H',Bt2 p t H H'→WebAt cw H' b ss ns∧IPL H' l ts TI)∧∀ (H':Hp),Bt2 p t H H'→Q (.bl true) H'
section
variable {P:Program} {w:World} {K:W.Frag} {mg:Str→Option Value} {base:Heap} {cc:Nat→Addr} {cw:Addr}
theorem ok_rdw {f:Addr} {fd:FuncData} (F:Fun K "roads_within" "roads_within" je f fd) (T:Txt K mg cc cw) (D_is_within:DefOk P w K mg base CX0 2 "is_within" ["thing", "low", "high"] qgx) (D_Road_twin:MethOk P w K mg base CX0 7 (cc 9) "twin" ["self"] (qeq cc cw)) (D_count_from:DefOk P w K mg base CX0 14 "count_from" ["walk", "many"] (qeb cc cw)):FnOk P w K mg base CX0 15 f fd ["road", "many"] (qeb cc cw):=by
 refine F.ok sc_roads_within (fun vs H Q E h=>?_) fun cdv A outer s H vs Q E hr h=>?_
 ·obtain ⟨m,_,x,b,p,ss,ns,TI,tr,rfl,_⟩:=h;rfl
 ·obtain ⟨m,hmm,x,b,p,ss,ns,TI,tr,rfl,W,l60,q⟩:=h
  obtain ⟨dx,hx,hp,hW⟩:=id W.pl
  refine ⟨_,(qe (qO (qZ (qI (qq D_is_within (hmR hr) qx (qa (pv 1) (qa qg (qa (qaD rfl T.g_MOST_MOVES_ON) qc)))))) (qf qaX) qr)
 (qf (qm (qq D_count_from (hmR hr) qx (qa (qo D_Road_twin (hmR hr) (pv 0)) (qa (pv 1) qc)))))),?_⟩
  walk_at "vc"
  refine ⟨x,0,.int m,0,4,rfl,Th.flat rfl (fun z e=>by cases e),?_⟩
  walk_at "vc"
  have e1:qbn 0 4 (.int m)=true:=by
   show (decide ((0:Int)≤(m:Int))&&decide ((m:Int)≤4))=true
   rw [decide_eq_true (by omega),decide_eq_true (by omega)]
   rfl
  rw [e1]
  refine qQ (fun h=>by cases h) fun _=>?_
  walk_at "vc"
  refine ⟨x,dx,_,rfl,hx,qH (by decide +kernel),?_⟩
  walk_at "vc"
  refine ⟨x,b,p,ss,ns,TI,tr,rfl,W,by omega,fun x' p' H1 s1 hx0 hp0 hP'=>?_⟩
  walk_at "vc"
  exact ⟨m,hmm,x',b,p',ss,ns,TI,tr,rfl,⟨W.ok,W.tok,W.wg,hP',W.ne,W.lt,H,s1,hp0,hW⟩,l60,fun H' s'=>q H' (s1.trans s')⟩
theorem ok_rdX {f:Addr} {fd:FuncData} (F:Fun K "roads_within" "roads_within" je f fd) (T:Txt K mg cc cw) (D_NoNumbers:XMakeOk P w K mg base 2 (cc 7) "NoNumbers" ["self", "found"] (spX (cc 7) (qaW 7))) (D_is_within:DefOk P w K mg base CX0 2 "is_within" ["thing", "low", "high"] qgx) (D_Road_twin:MethOk P w K mg base CX0 7 (cc 9) "twin" ["self"] (qeq cc cw)) (D_count_from:DefOk P w K mg base CX0 14 "count_from" ["walk", "many"] (qeb cc cw)):FnOk P w K mg base (CX1 P w) 15 f fd ["road", "many"] (qfY cc):=by
 refine F.ok1 sc_roads_within (fun vs H Q E h=>?_) fun cdv A outer s H vs Q E hr h=>?_
 ·obtain ⟨x,r,k,v,rfl,_⟩:=h;rfl
 ·obtain ⟨x,r,k,v,rfl,hv,hno,hE⟩:=h
  refine ⟨_,(qe (qO (qZ (qI (qq D_is_within (hmR hr) qx (qa (pv 1) (qa qg (qa (qaD rfl T.g_MOST_MOVES_ON) qc)))))) (qf (zx (K:=K) rfl za (qbp D_NoNumbers (hmR hr) (qa (pv 1) qc)))) qr)
 (qf (qm (qq D_count_from (hmR hr) qx (qa (qo D_Road_twin (hmR hr) (pv 0)) (qa (pv 1) qc)))))),?_⟩
  walk_at "vc"
  refine ⟨r,k,v,0,4,rfl,hv,?_⟩
  rw [hno]
  walk_at "vc"
  refine qau ?_
  walk_at "vc"
  exact jp (T.xat 7 (by decide)) hE
theorem ok_ctd {f:Addr} {fd:FuncData} (F:Fun K "_law_counted" "_law_counted" j2 f fd) (T:Txt K mg cc cw) (D_l_count:DefOk P w K mg base CX0 7 "_law_count" ["_law_ties", "_law_trail", "_law_many"] qfX) (D_roads_within:DefOk P w K mg base CX0 15 "roads_within" ["road", "many"] (qeb cc cw)):FnOk P w K mg base CX0 16 f fd ["_law_road", "_law_ties", "_law_trail", "_law_many"] (qfZ cc cw):=by
 refine F.ok sc_l_counted (fun vs H Q E h=>?_) fun cdv A outer s H vs Q E hr h=>?_
 ·obtain ⟨x,b,p,l,t,ss,ns,ts,TI,tr,m,rfl,_⟩:=h;rfl
 ·obtain ⟨x,b,p,l,t,ss,ns,ts,TI,tr,m,rfl,hm,W,hI,ht,l50,q⟩:=h
  have hu:=zZ hr
  refine ⟨_,(qe (qw (i:=4) sc_l_counted.nd rfl (Or.inl rfl) (qq D_l_count (hmR hr) qx (qa (pv 1) (qa (pv 2) (qa (pv 3) qc)))))
 (qe (j9 PassesOwn.never rfl (zA rfl T.b_range (qa qg qc)) (qt (i:=5) sc_l_counted.nd rfl (Or.inl rfl))
 (qe (qw (i:=6) sc_l_counted.nd rfl (Or.inl rfl) (qq D_roads_within (hmR hr) qx (qa (pv 0) (qa (pv 3) qc))))
 (qf (qO (PW.pt (qaU (qZ (qI (qp (zY (K:=K) rfl) rfl T.b_isinstance boot_isinstance (qa (pv 6) (qa (jC (v:=.ty "int") rfl T.b_int boot_int rfl) qc))))) (qaU (qI (qp (zY (K:=K) rfl) rfl T.b_isinstance boot_isinstance (qa (pv 6) (qa (jC (v:=.ty "bool") rfl T.b_bool boot_bool rfl) qc)))) (qap (qu (qaG (K:=K) rfl hu) (pv 6) (pv 4) (qy _)))))) (qf (qm jI)) qr))))
 (qf (qm jI)))),?_⟩
  walk_at "vc"
  refine ⟨m,hm,l,t,ss.length,ts,TI,tr,rfl,hI,W.tok,ht,W.ne,by omega,fun H1 s1=>?_⟩
  walk_at "vc"
  refine ⟨2,rfl,by decide,by decide,zB (lo:=0) (n:=2) (fun i σ J=>L2.Same H J∧∃ y5 y6,σ=[some (.ref x),some (.ref l),some (.ref t),some (.int (m:Int)),some (.int (rcI ss.length TI m tr:Nat)),y5,y6]) ⟨s1,_,_,rfl⟩ (fun i σ J hi hp=>?_) fun σ J hp=>?_⟩
  ·obtain ⟨sJ,y5,y6,rfl⟩:=hp
   walk_at "vc"
   refine ⟨m,hm,x,b,p,ss,ns,TI,tr,rfl,W.same sJ,by omega,fun J2 s2=>?_⟩
   walk_at "vc"
   refine qaP (.inl (.int _)) rfl (j8 K "int" (by simp) "int" (by simp)) ?_
   walk_at "vc"
   refine qQ (fun h=>by cases h) fun _=>?_
   walk_at "vc"
   refine qaP (.inl (.int _)) rfl (j8 K "int" (by simp) "bool" (by simp)) ?_
   walk_at "vc"
   refine qQ (fun h=>by cases h) fun _=>?_
   walk_at "vc"
   refine qfW ?_
   rw [decide_eq_true rfl]
   walk_at "vc"
   refine qQ (fun h=>by cases h) fun _=>?_
   walk_at "vc"
   exact ⟨sJ.trans s2,_,_,rfl⟩
  ·obtain ⟨sJ,y5,y6,rfl⟩:=hp
   walk_at "vc"
   exact q J sJ
theorem ok_nns {f:Addr} {fd:FuncData} (F:Fun K "_law_no_numbers" "_law_no_numbers" jr f fd) (T:Txt K mg cc cw) (D_roads_within:DefOk P w K mg base (CX1 P w) 15 "roads_within" ["road", "many"] (qfY cc)):FnOk P w K mg base CX0 16 f fd ["_law_road", "_law_thing"] (qf0 cc):=by
 refine F.ok sc_l_no_numbers (fun vs H Q E h=>?_) fun cdv A outer s H vs Q E hr h=>?_
 ·obtain ⟨x,r,k,v,rfl,_⟩:=h;rfl
 ·obtain ⟨x,r,k,v,rfl,hv,hno,q⟩:=h
  have hu:=zZ hr
  refine ⟨_,(qe (ps_try rfl rfl rfl qr)
 (qf (qm jI))),?_⟩
  walk_at "vc"
  refine ⟨fun σ c dxo H'=>∃ dy,c=.ref (cc 7)∧dxo=some dy∧L2.Same H H'∧H' dy=some (.xd [(qaW 7,v)])∧σ=[some (.ref x),some v,none],_,fun pn xe za=>(qf (qL (qcB D_roads_within (hmR hr) za (qa (pv 0) (qa (pv 1) qc))))),?_,fun a C dx' σ' H' hE ha'=>?_⟩
  ·walk_at "vc"
   exact ⟨x,r,k,v,rfl,hv,hno,fun dy H' s' hy=>⟨dy,rfl,rfl,s',hy,rfl⟩⟩
  ·obtain ⟨dy,hc,rfl,s1,hy,rfl⟩:=hE
   cases hc
   refine ⟨_,(ph_as (K:=K) rfl sc_l_no_numbers.nd (i:=2) rfl rfl rfl T.m_NoNumbers (qf (qm (qar (jT (zT (K:=K) rfl hu) (qT (K:=K) rfl (pv 2) rfl) (pv 1) (qy _)) (qar (qp (zY (K:=K) rfl) rfl T.b_isinstance boot_isinstance (qa (pv 2) (qa (jC (v:=.ty "ValueError") rfl T.b_ValueError qad rfl) qc))) (qaq (qcN (qp (qcC (K:=K) rfl) rfl T.b_isinstance boot_isinstance (qa (pv 2) (qa (jD (qa (qcv (v:=.ref (cc 5)) rfl T.m_NoMove rfl) (qa (qcv (v:=.ref (cc 6)) rfl T.m_NoBack rfl) qc))) qc))))))))) (ph_no (K:=K) rfl rfl T.m_OnceError (qf (qm jI)) ph_nil)),?_⟩
   refine ⟨true,T.mr7,T.xat 7 (by decide),T.xat 7 (by decide),qau ?_⟩
   walk_at "vc"
   refine .inr ⟨a,cc 7,dy,_,v,rfl,.inr ha',T.xat 7 (by decide),T.na 7 (by decide),hy,rfl,?_⟩
   walk_at "vc"
   refine (hv.same s1).eqZO ?_
   walk_at "vc"
   refine qau ?_
   walk_at "vc"
   refine qaP (.inr ⟨a,cc 7,some dy,rfl,rfl,.inr ha',T.xat 7 (by decide),fun d z=>by cases z;exact ⟨_,hy⟩⟩) rfl (T.kitV 7 (by decide)) ?_
   walk_at "vc"
   refine qau ?_
   walk_at "vc"
   refine ⟨by show 2≤sizeLine;decide,fun m hm=>?_⟩
   have s2:=qF (L2.Same.refl H') (o:=.tup [.ref (cc 5),.ref (cc 6)]) hm
   refine ⟨_,m,_,_,[.ref (cc 5),.ref (cc 6)],false,rfl,.inr ⟨a,cc 7,some dy,rfl,rfl,.inr (s2 _ _ ha'),T.xat 7 (by decide),fun d z=>by cases z;exact ⟨_,s2 _ _ hy⟩⟩,qd,rfl,kit2 (T.kit 7 5 (by decide) (by decide)) (T.kit 7 6 (by decide) (by decide)),?_⟩
   exact ⟨_,rfl,q _ (s1.trans s2)⟩
theorem ok_mvd {f:Addr} {fd:FuncData} (F:Fun K "_law_moved" "_law_moved" zJ f fd) (T:Txt K mg cc cw) (D_l_moves:DefOk P w K mg base CX0 2 "_law_moves" ["_law_ties", "_law_trail"] qeo) (D_Walk_back:MethOk P w K mg base CX0 1 (cc 9) "back" ["self"] (qfS cc cw)) (D_Road_go:MethOk P w K mg base CX0 9 (cc 9) "go" ["self", "place"] (qdA cc cw)):FnOk P w K mg base CX0 11 f fd ["_law_road", "_law_names_here", "_law_ties", "_law_trail", "_law_cell"] (qha cc cw):=by
 refine F.ok sc_l_moved (fun vs H Q E h=>?_) fun cdv A outer s H vs Q E hr h=>?_
 ·obtain ⟨n,l,x,b,p,t,ss,ns,ts,TI,tr,h,c,rfl,_⟩:=h;rfl
 ·obtain ⟨n,l,x,b,p,t,ss,ns,ts,TI,tr,h,c,rfl,R,hpt,hnp,hnt,l90,hWb,q⟩:=h
  have hu:=zZ hr
  have l100:=R.len
  have hmv:=R.mv
  have hne:tr≠[]:=fun e=>by have:=R.last;rw [e] at this;cases this
  obtain ⟨dx,hx,hp,hW⟩:=id R.road.pl
  have stay:∀ H',L2.Same H H'→Q (.bl true) H':=fun H' s'=>q H' tr (.of s') (s' _ _ hp) (s' _ _ R.trl) hne R.all (by omega)
  refine ⟨_,(qe (qw (i:=5) sc_l_moved.nd rfl (Or.inl rfl) (qq D_l_moves (hmR hr) qx (qa (pv 2) (qa (pv 3) qc))))
 (qe (qO (PW.pt (qcM (qu (zT (K:=K) rfl hu) (qB j5 (pv 4) qg) qg (qy _)) (qbD (qu qdr (qp (zC (K:=K) rfl) rfl T.b_len boot_len (qa (pv 3) qc)) qg (qy _))))) (qf (qm (jT (zT (K:=K) rfl hu) (qo D_Walk_back (hmR hr) (pv 0)) (qD (qE (K:=K) rfl hu) (pv 1) (qfb (K:=K) rfl PySem.F.plainAttrs_list PySem.F.slot_list_pop PySem.F.type_list_pop qcF (pv 3)) (fun _ _=>rfl)) (qy _)))) qr)
 (qe (qO (qu (qaG (K:=K) rfl hu) (pv 5) (js qc) (qy _)) (qe (qw (i:=6) sc_l_moved.nd rfl (Or.inl rfl) (qD (qE (K:=K) rfl hu) (pv 5) (qB j5 (qB qbE (pv 4) qg) (qp (zC (K:=K) rfl) rfl T.b_len boot_len (qa (pv 5) qc))) (fun _ _=>rfl)))
 (qe (qL (qdQ (K:=K) rfl PySem.F.plainAttrs_list PySem.F.slot_list_append PySem.F.type_list_append jg (pv 3) (qa (pv 6) qc)))
 (qf (qL (jH D_Road_go (hmR hr) (pv 0) (qa (qD (qE (K:=K) rfl hu) (pv 1) (pv 6) (fun _ _=>rfl)) qc)))))) qr)
 (qf (qm jI))))),?_⟩
  walk_at "vc"
  refine ⟨l,t,ts,ss.length,TI,tr,h,rfl,R.ti,R.tok,R.trl,l100,R.last,fun m H1 s1 hm0 hm=>?_⟩
  have mvlt:∀ k∈mvI ss.length TI tr h,k < ss.length:=fun k hk=>List.mem_range.mp (List.mem_filter.mp hk).1
  generalize mvI ss.length TI tr h=mv at hm mvlt hmv
  have R1:=R.same s1
  have on:(qfy (qgg (qeg (tOp (qfc K true) (qbr 5) (qgj qdB))) (qfy (qe5 (tOp (qf9 K) (qbr 5) (tOp (rI (fun _ j=>0 < j) fun i j=>.int (i % j)) (tOp (rI qgH fun i j=>.int (i / j)) (qbr 4) (tC (.int 5))) (tCB (qb9 K) (j6 (qbr 5) qdB)))) (qbo 6)) (qfy (qef (tBM K "list" qcz (qbr 3) (j6 (qbr 6) qdB))) (qef (qds (cc 9) "go" (qdA cc cw) [] E0 (qbr 0) (j6 (tOp (qf9 K) (qbr 1) (qbr 6)) qdB))))) qe3) (qf4 (tC (.bl true)))) { nx:=fun x H'=>Q .non H',rt:=Q } [some (.ref x),some (.ref n),some (.ref l),some (.ref t),some (.int c),some (.ref m),none] H1:=by
   walk_at "vc"
   refine ⟨by show 0≤sizeLine;decide,fun e he0=>?_⟩
   have s12:=qF (L2.Same.refl H1) (o:=.lst []) he0
   have s2:=s1.trans s12
   have ee:upd H1 e (.lst []) e=some (.lst []):=qd
   generalize upd H1 e (.lst [])=H2 at s12 s2 ee
   have hm2:=s12 _ _ hm
   have R2:=R.same s2
   cases mv with
   | nil =>
    refine .inr (.inl ⟨m,e,true,1,rfl,rfl,by decide,(EqT.lst (n:=0) (e:=fun _=>true) (SqL.of hm2) (SqL.of ee) rfl fun j x y h=>by (simp at h)),?_⟩)
    walk_at "vc"
    refine qQ (fun h=>by cases h) fun _=>?_
    walk_at "vc"
    exact stay H2 s2
   | cons a mv' =>
    refine .inr (.inl ⟨m,e,false,1,rfl,rfl,by decide,EqT.lstL (SqL.of hm2) (SqL.of ee) (by simp),?_⟩)
    walk_at "vc"
    refine qau ?_
    walk_at "vc"
    refine vI ⟨by decide,by decide⟩ ?_
    walk_at "vc"
    refine qaV hm2 ?_
    rw [List.length_map]
    have hpos:(0:Int) < ((a::mv').length:Int):=by simp only [List.length_cons];omega
    refine vI hpos ?_
    have i0:=Int.emod_nonneg (c / 5) (show ((a::mv').length:Int)≠0 by omega)
    have i1:=Int.emod_lt_of_pos (c / 5) hpos
    obtain ⟨j,ej⟩:=Int.eq_ofNat_of_zero_le i0
    have hj:j < (a::mv').length:=by omega
    obtain ⟨g,hg⟩:∃ g,(a::mv')[j]?=some g:=⟨_,List.getElem?_eq_getElem hj⟩
    have hgm:g∈a::mv':=List.mem_of_getElem? hg
    have hgl:=mvlt g hgm
    rw [ej]
    refine .inl (qaC hm2 (v:=iV g) (ju (by rw [List.getElem?_map,hg];rfl)) ?_)
    walk_at "vc"
    refine ⟨.inl ⟨rfl,_,.of R2.trl⟩,?_⟩
    walk_at "vc"
    refine ⟨t,_,_,rfl,rfl,R2.trl,by rw [List.length_map];exact qk (by omega),?_⟩
    have b3:Bt2 p t H (upd H2 t (.lst (iVs tr++[iV g]))):=(Bt2.of s2).put (.inr rfl)
    have ht3:upd H2 t (.lst (iVs tr++[iV g])) t=some (.lst (iVs (tr++[g]))):=by rw [qd];show _=some (HO.lst (List.map iV _));rw [List.map_append];rfl
    have hn3:upd H2 t (.lst (iVs tr++[iV g])) n=some (.lst (ss.map V.str)):=by rw [qi hnt];exact R2.nm
    have hp3:upd H2 t (.lst (iVs tr++[iV g])) p=some (.lst ((tr.map (tn ss)).map V.str)):=by rw [qi hpt];exact s2 _ _ hp
    have hx3:upd H2 t (.lst (iVs tr++[iV g])) x=some (.ins (cc 9) dx (jf "path" (.ref p) (jf "board" (.ref b) []))):=by
     have:x≠t:=fun z=>by have h1:=R2.trl;rw [← z,s2 _ _ hx] at h1;cases h1
     rw [qi this];exact s2 _ _ hx
    generalize upd H2 t (.lst (iVs tr++[iV g]))=H3 at b3 ht3 hn3 hp3 hx3
    have hR3:RoadAt cc cw H3 x b p ss ns (tr.map (tn ss)) (tn ss h):=⟨⟨dx,hx3,hp3,hWb H3 b3⟩,R.road.len,R.road.all,R.road.last⟩
    walk_at "vc"
    refine ⟨x,dx,_,rfl,hx3,qH (by decide +kernel),?_⟩
    walk_at "vc"
    refine qaS hn3 hgl ?_
    walk_at "vc"
    refine ⟨x,b,p,ss,ns,_,_,tn ss g,rfl,hR3,by rw [hmv];exact List.mem_map.mpr ⟨g,hgm,rfl⟩,fun H4 b4 hp4=>?_⟩
    walk_at "vc"
    refine q H4 (tr++[g]) (b3.trans fun c o h1 _ e=>b4 c o h1 e) ?_ (b4 _ _ (Ne.symm hpt) ht3) (by simp) (fun i hi=>?_) (by rw [List.length_append];simp)
    ·rw [hp4];simp
    ·rcases List.mem_append.mp hi with z | z
     ·exact R.all i z
     ·rw [List.mem_singleton.mp z];exact hgl
  walk_at "vc"
  refine vI (by decide) ?_
  refine qco ?_
  walk_at "vc"
  refine qQ (fun h8=>?_) (fun h8=>?_)
  ·walk_at "vc"
   refine qaV R1.trl ?_
   rw [List.length_map]
   walk_at "vc"
   by_cases h1:1 < tr.length
   ·rw [decide_eq_true (show (tr.length:Int) > 1 by omega)]
    refine qau ?_
    walk_at "vc"
    obtain ⟨tr0,z,rfl⟩:∃ tr0 z,tr=tr0++[z]:=⟨tr.dropLast,tr.getLast hne,(List.dropLast_concat_getLast hne).symm⟩
    have h0ne:tr0≠[]:=fun e=>by rw [e] at h1;simp at h1
    have hl0:tr0.length≤100:=by rw [List.length_append] at l90;omega
    refine ⟨x,dx,_,rfl,s1 _ _ hx,qH (by decide +kernel),?_⟩
    walk_at "vc"
    have hpl:=R1.road.pl
    rw [List.map_append] at hpl
    refine ⟨x,b,p,ss,ns,tr0.map (tn ss),tn ss z,rfl,hpl,fun e=>h0ne (List.map_eq_nil_iff.mp e),by rw [List.length_map];exact hl0,?_⟩
    have ht3:upd H1 p (.lst ((tr0.map (tn ss)).map V.str)) t=some (.lst (iVs (tr0++[z]))):=by rw [qi (Ne.symm hpt)];exact R1.trl
    have hn3:upd H1 p (.lst ((tr0.map (tn ss)).map V.str)) n=some (.lst (ss.map V.str)):=by rw [qi hnp];exact R1.nm
    have hp3:upd H1 p (.lst ((tr0.map (tn ss)).map V.str)) p=some (.lst ((tr0.map (tn ss)).map V.str)):=qd
    have b3:Bt2 p t H (upd H1 p (.lst ((tr0.map (tn ss)).map V.str))):=(Bt2.of s1).put (.inl rfl)
    generalize upd H1 p (.lst ((tr0.map (tn ss)).map V.str))=H3 at ht3 hn3 hp3 b3
    walk_at "vc"
    refine ⟨.inl ⟨rfl,_,.of ht3⟩,?_⟩
    have ed:(iVs (tr0++[z])).dropLast=iVs tr0:=by show (List.map iV (tr0++[z])).dropLast=_;rw [List.map_append];simp
    refine ⟨t,iVs (tr0++[z]),iV z,rfl,rfl,ht3,by rw [List.length_map,List.length_append];show (List.map iV (tr0++[z]))[_]?=_;rw [List.getElem?_map];simp,?_⟩
    rw [ed]
    have hn4:upd H3 t (.lst (iVs tr0)) n=some (.lst (ss.map V.str)):=by rw [qi hnt];exact hn3
    have hp4:upd H3 t (.lst (iVs tr0)) p=some (.lst ((tr0.map (tn ss)).map V.str)):=by rw [qi hpt];exact hp3
    have ht4:upd H3 t (.lst (iVs tr0)) t=some (.lst (iVs tr0)):=qd
    have b4:Bt2 p t H (upd H3 t (.lst (iVs tr0))):=b3.put (.inr rfl)
    generalize upd H3 t (.lst (iVs tr0))=H4 at hn4 hp4 ht4 b4
    refine qaS hn4 (R.all z (by simp)) ?_
    refine .inl (.inl (.inl ⟨rfl,rfl,?_⟩))
    rw [if_neg (by decide),qbK,decide_eq_true rfl]
    exact q H4 tr0 b4 hp4 ht4 h0ne (fun i hi=>R.all i (List.mem_append_left _ hi)) (by rw [List.length_append];omega)
   ·rw [decide_eq_false (show ¬ (tr.length:Int) > 1 by omega)]
    refine qQ (fun h=>by cases h) fun _=>?_
    exact on
  ·refine qQ (fun h=>by cases h) fun _=>?_
   exact on
theorem ok_wtd {f:Addr} {fd:FuncData} (F:Fun K "_law_web_told" "_law_web_told" jx f fd) (T:Txt K mg cc cw) (D_l_gone:DefOk P w K mg base CX0 1 "_law_gone" ["_law_trail"] qgc) (D_l_named:DefOk P w K mg base CX0 1 "_law_named" ["_law_names_here", "_law_ties"] qgd):FnOk P w K mg base CX0 2 f fd ["_law_names_here", "_law_ties", "_law_trail"] qf1:=by
 refine F.ok sc_l_web_told (fun vs H Q E h=>?_) fun cdv A outer s H vs Q E hr h=>?_
 ·obtain ⟨n,l,t,ss,ts,TI,tr,rfl,_⟩:=h;rfl
 ·obtain ⟨n,l,t,ss,ts,TI,tr,rfl,hn,hI,hT,ht,l100,q⟩:=h
  have hu:=zZ hr
  have few:=hT.few
  refine ⟨_,(qe (qw (i:=3) sc_l_web_told.nd rfl (Or.inr rfl) (qq D_l_gone (hmR hr) qx (qa (pv 2) qc)))
 (qf (qm (jD (qa (qG (j3 (K:=K) rfl) rfl T.b_tuple boot_tuple (qa (pv 0) qc)) (qa (qG (j3 (K:=K) rfl) rfl T.b_tuple boot_tuple (qa (qq D_l_named (hmR hr) qx (qa (pv 0) (qa (zj (sc:=qb jx) (XN:=["_law_names_here", "_law_ties", "_law_trail", "_law_gone_here"]) ["_law_tie", "_law_gone_here"] 1 [3] rfl rfl rfl (by decide +kernel) rfl (by decide +kernel)
  (j7 (K:=K) rfl (pv 1)) (fun _ _ _ _=>(qt (i:=0) (show (["_law_tie", "_law_gone_here"]:List Str).Nodup by decide +kernel) rfl (Or.inl rfl))) zR
  (fun _ _ _ _=>(zb (qu (qal (K:=K) rfl hu) (pv 0) (pv 1) (by with_unfolding_all rfl))))
  (fun _ _ _ _=>(pv 0))) qc))) qc)) qc)))))),?_⟩
  walk_at "vc"
  refine ⟨t,tr,rfl,ht,l100,fun g gs H1 s1 hg0 hG=>?_⟩
  walk_at "vc"
  refine ⟨n,_,rfl,.inl ⟨.of (s1 _ _ hn),fun u1 hu1=>?_⟩⟩
  have s2:=qF s1 (o:=.tup (ss.map V.str)) hu1
  have s12:=qF (L2.Same.refl H1) (o:=.tup (ss.map V.str)) hu1
  have eu1:upd H1 u1 (.tup (ss.map V.str)) u1=some (.tup (ss.map V.str)):=qd
  generalize upd H1 u1 (.tup (ss.map V.str))=H2 at s2 s12 eu1
  have hI2:=hI.same s2
  have hG2:=hG.same s12
  walk_at "vc"
  refine .inl ⟨⟨_,.of hI2.1⟩,jl (xs:=ts.map V.ref) (fun i ys J=>J=H2∧∃ us:List Addr,ys=us.map V.ref∧All2 (fun t q=>H2 t=some (iT q)) us ((TI.take i).filter fun q=>!decide (q∈gnI tr))) ⟨rfl,[],rfl,.nil⟩ (fun i ys J _ hp'=>by rw [hp'.1];exact .of hI2.1) (fun i y ys J hx hp'=>?_) fun ys J hp'=>?_⟩
  ·obtain ⟨rfl,us,rfl,hA⟩:=hp'
   rw [List.getElem?_map] at hx
   obtain ⟨u,hu2,rfl⟩:=Option.map_eq_some_iff.mp hx
   have hi:i < TI.length:=by rw [← hI.2.len];exact (List.getElem?_eq_some_iff.mp hu2).1
   obtain ⟨q0,hq0⟩:∃ q0,TI[i]?=some q0:=⟨_,List.getElem?_eq_getElem hi⟩
   have hup:=hI2.2.at_ i u q0 hu2 hq0
   walk_at "vc"
   refine qcJ hG2 hup ?_
   walk_at "vc"
   rw [List.take_add_one,hq0,List.filter_append]
   have hlen:us.length≤30:=by
    rw [hA.len]
    have:=List.length_filter_le (fun q=>!decide (q∈gnI tr)) (TI.take i)
    rw [List.length_take] at this
    omega
   refine qQ (fun hc=>?_) (fun hc=>?_)
   ·walk_at "vc"
    refine ⟨by rw [List.length_map];exact qk (by omega),rfl,us++[u],by rw [List.map_append];rfl,?_⟩
    have e:([q0].filter fun q=>!decide (q∈gnI tr))=[q0]:=by rw [List.filter_cons,if_pos hc];rfl
    show All2 _ _ (_++([q0].filter fun q=>!decide (q∈gnI tr)))
    rw [e]
    exact hA.snoc hup
   ·refine ⟨rfl,us,rfl,?_⟩
    have e:([q0].filter fun q=>!decide (q∈gnI tr))=[]:=by rw [List.filter_cons,if_neg hc];rfl
    show All2 _ _ (_++([q0].filter fun q=>!decide (q∈gnI tr)))
    rw [e,List.append_nil]
    exact hA
  ·obtain ⟨rfl,us,rfl,hA⟩:=hp'
   have e:(ts.map V.ref).length=TI.length:=by rw [List.length_map,hI.2.len]
   rw [e,List.take_length] at hA
   have hlf:(TI.filter fun q=>!decide (q∈gnI tr)).length≤30:=Nat.le_trans (List.length_filter_le _ _) few
   have hul:us.length≤30:=by rw [hA.len];exact hlf
   refine ⟨by rw [List.length_map];exact Nat.le_of_lt (qk (by omega)),fun r hr0=>?_⟩
   have sJ:=qF (L2.Same.refl J) (o:=.lst (us.map V.ref)) hr0
   have hLf:IPL (upd J r (.lst (us.map V.ref))) r us (TI.filter fun q=>!decide (q∈gnI tr)):=⟨qd,hA.mono fun t q z=>sJ _ _ z⟩
   generalize upd J r (.lst (us.map V.ref))=H3 at sJ hLf
   walk_at "vc"
   refine ⟨n,r,ss,us,_,rfl,sJ _ _ (s2 _ _ hn),hLf,by omega,(fun q hq=>hT.two q (List.mem_filter.mp hq).1),fun d ds H4 s4 hd0 hD=>?_⟩
   walk_at "vc"
   refine ⟨d,_,rfl,.inl ⟨.of hD.1,fun u2 hu2=>?_⟩⟩
   have s5:=qF (L2.Same.refl H4) (o:=.tup (ds.map V.ref)) hu2
   have eu2:upd H4 u2 (.tup (ds.map V.ref)) u2=some (.tup (ds.map V.ref)):=qd
   generalize upd H4 u2 (.tup (ds.map V.ref))=H5 at s5 eu2
   walk_at "vc"
   refine ⟨by show 2≤sizeLine;decide,fun u hu0=>?_⟩
   have s6:=qF (L2.Same.refl H5) (o:=.tup [.ref u1,.ref u2]) hu0
   exact q u u1 u2 ds _ ((((s2.trans sJ).trans s4).trans s5).trans s6) qd (s6 _ _ (s5 _ _ (s4 _ _ (sJ _ _ eu1)))) (s6 _ _ eu2) (hD.2.mono fun t ab z=>s6 _ _ (s5 _ _ z))
theorem ok_atd {f:Addr} {fd:FuncData} (F:Fun K "_law_all_told" "_law_all_told" jR f fd) (T:Txt K mg cc cw) (D_l_told:DefOk P w K mg base CX0 11 "_law_told" ["_law_road", "_law_names_here", "_law_ties", "_law_trail", "_law_first"] (qep cc cw)):FnOk P w K mg base CX0 12 f fd ["_law_roads", "_law_names_here", "_law_ties", "_law_trails"] (qf2 cc cw):=by
 refine F.ok sc_l_all_told (fun vs H Q E h=>?_) fun cdv A outer s H vs Q E hr h=>?_
 ·obtain ⟨rl,n,l,tl,ss,ts,TI,xs,us,rfl,_⟩:=h;rfl
 ·obtain ⟨rl,n,l,tl,ss,ts,TI,xs,us,rfl,hrl,htl,hlen,hall,q⟩:=h
  refine ⟨_,(qe (j9 PassesOwn.never rfl (qdW (K:=K) rfl rfl T.b_zip (qa (pv 0) (qa (pv 3) qc))) (qax rfl (qS (qt (i:=4) sc_l_all_told.nd rfl (Or.inl rfl)) (qS (qt (i:=5) sc_l_all_told.nd rfl (Or.inl rfl)) zL)))
 (qf (qO (qZ (qI (qq D_l_told (hmR hr) qx (qa (pv 4) (qa (pv 1) (qa (pv 2) (qa (pv 5) (qa (qp (zC (K:=K) rfl) rfl T.b_len boot_len (qa (pv 5) qc)) qc)))))))) (qf (qm jI)) qr)))
 (qf (qm jI))),?_⟩
  walk_at "vc"
  refine qgr ?_
  walk_at "vc"
  refine ⟨rl,tl,_,_,rfl,.of hrl,.of htl,for_zip (xs:=xs.map V.ref) (ys:=us.map V.ref) (by rw [List.length_map,List.length_map,hlen]) (fun i σ J=>L2.Same H J∧∃ y4 y5,σ=[some (.ref rl),some (.ref n),some (.ref l),some (.ref tl),y4,y5]) ⟨L2.Same.refl H,_,_,rfl⟩ (fun i σ J _ hp=>⟨.of (hp.1 _ _ hrl),.of (hp.1 _ _ htl)⟩) (fun i x y t σ J hx hy ht hp=>?_) fun σ J hp=>?_⟩
  ·obtain ⟨sJ,y4,y5,rfl⟩:=hp
   rw [List.getElem?_map] at hx hy
   obtain ⟨x,hx2,rfl⟩:=Option.map_eq_some_iff.mp hx
   obtain ⟨u,hu2,rfl⟩:=Option.map_eq_some_iff.mp hy
   have s2:=qF sJ (o:=.tup [.ref x,.ref u]) ht
   refine ⟨t,_,rfl,.of qd,rfl,_,_,rfl,_,_,rfl,rfl,?_⟩
   generalize upd J t (.tup [.ref x,.ref u])=J2 at s2
   obtain ⟨b,p,ns,tr,h,R⟩:=hall i x u hx2 hu2
   have R2:=R.same s2
   walk_at "vc"
   refine qaV R2.trl ?_
   walk_at "vc"
   refine ⟨n,l,x,b,p,u,ss,ns,ts,TI,tr,h,_,rfl,R2,fun J3 s3=>?_⟩
   walk_at "vc"
   refine qQ (fun h=>by cases h) fun _=>?_
   walk_at "vc"
   exact ⟨s2.trans s3,_,_,rfl⟩
  ·obtain ⟨sJ,y4,y5,rfl⟩:=hp
   walk_at "vc"
   exact q J sJ
theorem ok_tst {f:Addr} {fd:FuncData} (F:Fun K "_law_to_the_start" "_law_to_the_start" qY f fd) (T:Txt K mg cc cw) (D_l_told:DefOk P w K mg base CX0 11 "_law_told" ["_law_road", "_law_names_here", "_law_ties", "_law_trail", "_law_first"] (qep cc cw)) (D_Walk_back:MethOk P w K mg base CX0 1 (cc 9) "back" ["self"] (qfS cc cw)):FnOk P w K mg base CX0 12 f fd ["_law_road", "_law_names_here", "_law_ties", "_law_trail"] (qf3 cc cw):=by
 refine F.ok sc_l_to_the_start (fun vs H Q E h=>?_) fun cdv A outer s H vs Q E hr h=>?_
 ·obtain ⟨n,l,x,b,p,t,ss,ns,ts,TI,tr,h,rfl,_⟩:=h;rfl
 ·obtain ⟨n,l,x,b,p,t,ss,ns,ts,TI,tr,h,rfl,R,hpt,hnp,hnt,hWb,q⟩:=h
  have hu:=zZ hr
  refine ⟨_,(qe (ps_while PassesOwn.never (qu qdr (qp (zC (K:=K) rfl) rfl T.b_len boot_len (qa (pv 3) qc)) qg (qy _))
 (qf (qO (qu (qaG (K:=K) rfl hu) (qo D_Walk_back (hmR hr) (pv 0)) (qD (qE (K:=K) rfl hu) (pv 1) (qfb (K:=K) rfl PySem.F.plainAttrs_list PySem.F.slot_list_pop PySem.F.type_list_pop qcF (pv 3)) (fun _ _=>rfl)) (qy _)) (qf (qm jI)) qr)))
 (qf (qm (qq D_l_told (hmR hr) qx (qa (pv 0) (qa (pv 1) (qa (pv 2) (qa (pv 3) (qa qg qc))))))))),?_⟩
  walk_at "vc"
  refine ⟨fun m σ J=>σ=[some (.ref x),some (.ref n),some (.ref l),some (.ref t)]∧Bt2 p t H J∧∃ tr' h',RSt cc cw J n l x b p t ss ns ts TI tr' h'∧tr'.length≤m,⟨_,rfl,Bt2.of (L2.Same.refl H),tr,h,R,Nat.le_refl _⟩,fun m σ J hW=>?_⟩
  obtain ⟨rfl,bJ,tr',h',RJ,hm⟩:=hW
  have hne:tr'≠[]:=fun e=>by have:=RJ.last;rw [e] at this;cases this
  obtain ⟨dx,hx,hp,hWJ⟩:=id RJ.road.pl
  walk_at "vc"
  refine qaV RJ.trl ?_
  rw [List.length_map]
  walk_at "vc"
  by_cases h1:1 < tr'.length
  ·rw [decide_eq_true (show (tr'.length:Int) > 1 by omega)]
   refine qau ⟨fun σ J2=>σ=[some (.ref x),some (.ref n),some (.ref l),some (.ref t)]∧Bt2 p t H J2∧∃ tr2 h2,RSt cc cw J2 n l x b p t ss ns ts TI tr2 h2∧tr2.length + 1≤m,fun σ' J2 ⟨e,b2,tr2,h2,R2,l2⟩=>⟨tr2.length,by omega,e,b2,tr2,h2,R2,Nat.le_refl _⟩,?_⟩
   walk_at "vc"
   obtain ⟨tr0,z,rfl⟩:∃ tr0 z,tr'=tr0++[z]:=⟨tr'.dropLast,tr'.getLast hne,(List.dropLast_concat_getLast hne).symm⟩
   have h0ne:tr0≠[]:=fun e=>by rw [e] at h1;simp at h1
   have hlJ:=RJ.len
   refine ⟨x,dx,_,rfl,hx,qH (by decide +kernel),?_⟩
   walk_at "vc"
   have hpl:=RJ.road.pl
   rw [List.map_append] at hpl
   refine ⟨x,b,p,ss,ns,tr0.map (tn ss),tn ss z,rfl,hpl,fun e=>h0ne (List.map_eq_nil_iff.mp e),by rw [List.length_map];rw [List.length_append] at hlJ;omega,?_⟩
   have ht3:upd J p (.lst ((tr0.map (tn ss)).map V.str)) t=some (.lst (iVs (tr0++[z]))):=by rw [qi (Ne.symm hpt)];exact RJ.trl
   have hn3:upd J p (.lst ((tr0.map (tn ss)).map V.str)) n=some (.lst (ss.map V.str)):=by rw [qi hnp];exact RJ.nm
   have hp3:upd J p (.lst ((tr0.map (tn ss)).map V.str)) p=some (.lst ((tr0.map (tn ss)).map V.str)):=qd
   have hx3:upd J p (.lst ((tr0.map (tn ss)).map V.str)) x=some (.ins (cc 9) dx (jf "path" (.ref p) (jf "board" (.ref b) []))):=by
    have:x≠p:=fun z=>by rw [z,hp] at hx;cases hx
    rw [qi this];exact hx
   have b3:Bt2 p t H (upd J p (.lst ((tr0.map (tn ss)).map V.str))):=bJ.put (.inl rfl)
   generalize upd J p (.lst ((tr0.map (tn ss)).map V.str))=H3 at ht3 hn3 hp3 hx3 b3
   walk_at "vc"
   refine ⟨.inl ⟨rfl,_,.of ht3⟩,?_⟩
   have ed:(iVs (tr0++[z])).dropLast=iVs tr0:=by show (List.map iV (tr0++[z])).dropLast=_;rw [List.map_append];simp
   refine ⟨t,iVs (tr0++[z]),iV z,rfl,rfl,ht3,by rw [List.length_map,List.length_append];show (List.map iV (tr0++[z]))[_]?=_;rw [List.getElem?_map];simp,?_⟩
   rw [ed]
   have hn4:upd H3 t (.lst (iVs tr0)) n=some (.lst (ss.map V.str)):=by rw [qi hnt];exact hn3
   have hp4:upd H3 t (.lst (iVs tr0)) p=some (.lst ((tr0.map (tn ss)).map V.str)):=by rw [qi hpt];exact hp3
   have ht4:upd H3 t (.lst (iVs tr0)) t=some (.lst (iVs tr0)):=qd
   have hx4:upd H3 t (.lst (iVs tr0)) x=some (.ins (cc 9) dx (jf "path" (.ref p) (jf "board" (.ref b) []))):=by
    have:x≠t:=fun z=>by rw [z,ht3] at hx3;cases hx3
    rw [qi this];exact hx3
   have b4:Bt2 p t H (upd H3 t (.lst (iVs tr0))):=b3.put (.inr rfl)
   generalize upd H3 t (.lst (iVs tr0))=H4 at hn4 hp4 ht4 hx4 b4
   refine qaS hn4 (RJ.all z (by simp)) ?_
   refine qfV ?_
   rw [decide_eq_true rfl]
   walk_at "vc"
   refine qQ (fun h=>by cases h) fun _=>?_
   walk_at "vc"
   have hz0:tr0.getLast?=some (tr0.getLast h0ne):=List.getLast?_eq_some_getLast h0ne
   have lt0:∀ i∈tr0,i < ss.length:=fun i hi=>RJ.all i (List.mem_append_left _ hi)
   refine ⟨rfl,b4,tr0,tr0.getLast h0ne,⟨hn4,R.ok,(hWb H4 b4).2,R.tok,R.wg,⟨⟨dx,hx4,hp4,(hWb H4 b4).1⟩,by rw [List.length_map];rw [List.length_append] at hlJ;omega,fun u hu=>?_,by rw [List.getLast?_map,hz0];rfl⟩,ht4,hz0,lt0⟩,by rw [List.length_append] at hm;exact hm⟩
   obtain ⟨i,hi,rfl⟩:=List.mem_map.mp hu
   exact qbz (lt0 i hi)
  ·rw [decide_eq_false (show ¬ (tr'.length:Int) > 1 by omega)]
   refine qQ (fun h=>by cases h) fun _=>?_
   walk_at "vc"
   exact ⟨n,l,x,b,p,t,ss,ns,ts,TI,tr',h',_,rfl,RJ,fun J2 s2=>q J2 (bJ.trans (Bt2.of s2))⟩
end
theorem sc_Road_web_left:FnScope ["self"] ["self"] (qb jj):=⟨rfl,rfl,rfl,by decide +kernel,rfl,by decide +kernel,by decide +kernel⟩
theorem FnOk.weakQ {P:Program} {w:World} {K:W.Frag} {mg:Str→Option Value} {base:Heap} {CX:CXT} {k:Nat} {f:Addr} {fd:FuncData} {ps:List Str} {sp sp':Sp} (F:FnOk P w K mg base CX k f fd ps sp) (h:∀ vs H Q E,sp' vs H Q E→sp vs H Q E):FnOk P w K mg base CX k f fd ps sp':=
 ⟨fun vs H Q E z=>F.len vs H Q E (h _ _ _ _ z),fun A outer s H args us vs Q E hr he hb hv z=>F.run A outer s H args us vs Q E hr he hb hv (h _ _ _ _ z)⟩
theorem qdn (xs:List V) (a b:Nat):(qbH xs (some (a:Int)) (some (b:Int))).length≤b - a:=by
 unfold qbH
 rw [HT.sIx_nat,HT.sIx_nat,List.length_take]
 omega
theorem qdo {xs:List V} {a b:Option Int} {x:V} (h:x∈qbH xs a b):x∈xs:=List.mem_of_mem_drop (List.mem_of_mem_take h)
def A4 (Pp Tt:Nat→Addr) (wl:Addr) (a:Addr):Prop:=a=wl∨∃ i,i < 3∧(a=Pp i∨a=Tt i)
def WI (cw:Addr) (A:Addr→Prop) (H:Hp) (ss:List Str) (w:Addr):Prop:=∃ (wb u u1 u2:Addr) (us:List Addr) (ns:List Nat),H w=some (.tup [.ref wb,.ref u])∧WebP A cw H wb ss ns∧H u=some (.tup [.ref u1,.ref u2])∧H u1=some (.tup (ss.map V.str))∧H u2=some (.tup (us.map V.ref))∧All2 (fun t ab=>H t=some (.tup [.str ab.1,.str ab.2])) us (qah ss ns ss.length)
theorem WI.keep {cw:Addr} {A:Addr→Prop} {H H':Hp} {ss:List Str} {w:Addr} (h:WI cw A H ss w) (hA:∀ a,A a→∃ xs,H a=some (.lst xs)) (k:∀ c o,¬ A c→H c=some o→H' c=some o):WI cw A H' ss w:=by
 obtain ⟨wb,u,u1,u2,us,ns,e,hW,e0,e1,e2,e3⟩:=h
 have nt:∀ {a:Addr} {xs:List V},H a=some (.tup xs)→H' a=some (.tup xs):=fun {a xs} e=>k _ _ (fun ha=>by obtain ⟨ys,hy⟩:=hA _ ha;rw [hy] at e;cases e) e
 exact ⟨wb,u,u1,u2,us,ns,nt e,hW.keep k,nt e0,nt e1,nt e2,e3.mono fun t ab z=>nt z⟩
structure L3 (cc:Nat→Addr) (cw:Addr) (H0 H:Hp) (b rl tl wl:Addr) (ss:List Str) (m:Nat) (X Pp Tt:Nat→Addr) (TR:Nat→List Nat) (ws:List Addr):Prop where
 s:L2.Same H0 H
 rl_:H rl=some (.lst [.ref (X 0),.ref (X 1),.ref (X 2)])
 tl_:H tl=some (.lst [.ref (Tt 0),.ref (Tt 1),.ref (Tt 2)])
 wl_:H wl=some (.lst (ws.map V.ref))
 r:∀ i,i < 3→RI cc H0 H b (X i) (Pp i) (Tt i) ss (TR i)
 dp:∀ i j,i < 3→j < 3→i≠j→Pp i≠Pp j∧Tt i≠Tt j∧Pp i≠Tt j
 nr:¬ A4 Pp Tt wl rl∧¬ A4 Pp Tt wl tl
 nw:∀ i,i < 3→wl≠Pp i∧wl≠Tt i
 w0:H0 wl=none
 l:∀ i,i < 3→(TR i).length≤m
 wi:∀ w∈ws,WI cw (A4 Pp Tt wl) H ss w
 lw:ws.length≤m
theorem L3.lst {cc:Nat→Addr} {cw:Addr} {H0 H:Hp} {b rl tl wl:Addr} {ss:List Str} {m:Nat} {X Pp Tt:Nat→Addr} {TR:Nat→List Nat} {ws:List Addr} (L:L3 cc cw H0 H b rl tl wl ss m X Pp Tt TR ws):∀ a,A4 Pp Tt wl a→∃ xs,H a=some (.lst xs):=fun a h=>by
 rcases h with rfl | ⟨i,hi,rfl | rfl⟩
 ·exact ⟨_,L.wl_⟩
 ·exact ⟨_,(L.r i hi).pa⟩
 ·exact ⟨_,(L.r i hi).tr_⟩
theorem L3.same {cc:Nat→Addr} {cw:Addr} {H0 H H':Hp} {b rl tl wl:Addr} {ss:List Str} {m:Nat} {X Pp Tt:Nat→Addr} {TR:Nat→List Nat} {ws:List Addr} (L:L3 cc cw H0 H b rl tl wl ss m X Pp Tt TR ws) (s:L2.Same H H'):L3 cc cw H0 H' b rl tl wl ss m X Pp Tt TR ws:=
 ⟨L.s.trans s,s _ _ L.rl_,s _ _ L.tl_,s _ _ L.wl_,fun i hi=>(L.r i hi).same s,L.dp,L.nr,L.nw,L.w0,L.l,fun w hw=>(L.wi w hw).keep L.lst fun c o _ e=>s c o e,L.lw⟩
theorem RI.at_ {cc:Nat→Addr} {H0 H H2:Hp} {b x p t:Addr} {ss:List Str} {tr tr2:List Nat} (R:RI cc H0 H b x p t ss tr) (b2:Bt2 p t H H2) (hp2:H2 p=some (.lst ((tr2.map (tn ss)).map V.str))) (ht2:H2 t=some (.lst (iVs tr2))) (ne2:tr2≠[]) (lt2:∀ i∈tr2,i < ss.length):RI cc H0 H2 b x p t ss tr2:=
 ⟨R.ob.elim fun dx e=>⟨dx,b2 _ _ (fun z=>by have h1:=R.pa;rw [← z,e] at h1;cases h1) (fun z=>by have h1:=R.tr_;rw [← z,e] at h1;cases h1) e⟩,hp2,ht2,R.p0,R.t0,R.pt,ne2,lt2⟩
theorem L3.off {cc:Nat→Addr} {cw:Addr} {H0 H H2:Hp} {b rl tl wl:Addr} {ss:List Str} {m:Nat} {X Pp Tt:Nat→Addr} {TR:Nat→List Nat} {ws:List Addr} (L:L3 cc cw H0 H b rl tl wl ss m X Pp Tt TR ws) {i j:Nat} (hi:i < 3) (hj:j < 3) (hij:i≠j) (b2:Bt2 (Pp i) (Tt i) H H2):RI cc H0 H2 b (X j) (Pp j) (Tt j) ss (TR j):=by
 have R:=L.r i hi
 have R':=L.r j hj
 have d:=L.dp i j hi hj hij
 have d':=L.dp j i hj hi hij.symm
 exact ⟨R'.ob.elim fun dx e=>⟨dx,b2 _ _ (fun z=>by have h1:=R.pa;rw [← z,e] at h1;cases h1) (fun z=>by have h1:=R.tr_;rw [← z,e] at h1;cases h1) e⟩,b2 _ _ d'.1 d'.2.2 R'.pa,b2 _ _ d.2.2.symm d'.2.1 R'.tr_,R'.p0,R'.t0,R'.pt,R'.ne,R'.lt⟩
theorem L3.moved {cc:Nat→Addr} {cw:Addr} {H0 H H2:Hp} {b rl tl wl:Addr} {ss:List Str} {m:Nat} {X Pp Tt:Nat→Addr} {TR:Nat→List Nat} {ws:List Addr} (L:L3 cc cw H0 H b rl tl wl ss m X Pp Tt TR ws) {i:Nat} (hi:i < 3) (b2:Bt2 (Pp i) (Tt i) H H2) {tr2:List Nat} (hp2:H2 (Pp i)=some (.lst ((tr2.map (tn ss)).map V.str))) (ht2:H2 (Tt i)=some (.lst (iVs tr2))) (ne2:tr2≠[]) (lt2:∀ k∈tr2,k < ss.length) (ll:tr2.length≤(TR i).length + 1) :
  L3 cc cw H0 H2 b rl tl wl ss (m + 1) X Pp Tt (fun j=>if j=i then tr2 else TR j) ws:=by
 have R:=L.r i hi
 have k:∀ c o,¬ A4 Pp Tt wl c→H c=some o→H2 c=some o:=fun c o hc e=>b2 c o (fun z=>hc (.inr ⟨i,hi,.inl z⟩)) (fun z=>hc (.inr ⟨i,hi,.inr z⟩)) e
 refine ⟨b2.same L.s R.p0 R.t0,k _ _ L.nr.1 L.rl_,k _ _ L.nr.2 L.tl_,b2 _ _ (L.nw i hi).1 (L.nw i hi).2 L.wl_,fun j hj=>?_,L.dp,L.nr,L.nw,L.w0,fun j hj=>?_,fun w hw=>(L.wi w hw).keep L.lst k,by have:=L.lw;omega⟩
 ·by_cases e:j=i
  ·subst e
   rw [if_pos rfl]
   exact R.at_ b2 hp2 ht2 ne2 lt2
  ·rw [if_neg e]
   exact L.off hi hj (Ne.symm e) b2
 ·have h1:=L.l j hj
  have h2:=L.l i hi
  show (if j=i then tr2 else TR j).length≤m + 1
  split<;>omega
theorem L3.push {cc:Nat→Addr} {cw:Addr} {H0 H:Hp} {b rl tl wl:Addr} {ss:List Str} {m:Nat} {X Pp Tt:Nat→Addr} {TR:Nat→List Nat} {ws:List Addr} (L:L3 cc cw H0 H b rl tl wl ss m X Pp Tt TR ws) {w:Addr} (hw:WI cw (A4 Pp Tt wl) H ss w) (l2:ws.length + 1≤m) :
  L3 cc cw H0 (upd H wl (.lst (ws.map V.ref++[.ref w]))) b rl tl wl ss m X Pp Tt TR (ws++[w]):=by
 have k:∀ c o,c≠wl→H c=some o→upd H wl (.lst (ws.map V.ref++[.ref w])) c=some o:=fun c o hc e=>by rw [qi hc];exact e
 have s2:L2.Same H0 (upd H wl (.lst (ws.map V.ref++[.ref w]))):=fun c o e=>k _ _ (fun z=>by rw [z,L.w0] at e;cases e) (L.s c o e)
 refine ⟨s2,k _ _ (fun z=>L.nr.1 (.inl z)) L.rl_,k _ _ (fun z=>L.nr.2 (.inl z)) L.tl_,by rw [qd,List.map_append];rfl,fun i hi=>?_,L.dp,L.nr,L.nw,L.w0,L.l,fun v hv=>?_,by rw [List.length_append];exact l2⟩
 ·have R:=L.r i hi
  have nw:=L.nw i hi
  exact ⟨R.ob.elim fun dx e=>⟨dx,k _ _ (fun z=>by rw [z,L.wl_] at e;cases e) e⟩,k _ _ nw.1.symm R.pa,k _ _ nw.2.symm R.tr_,R.p0,R.t0,R.pt,R.ne,R.lt⟩
 ·have hv':WI cw (A4 Pp Tt wl) H ss v:=by
   rcases List.mem_append.mp hv with z | z
   ·exact L.wi v z
   ·rw [List.mem_singleton.mp z];exact hw
  exact hv'.keep L.lst fun c o hc e=>k c o (fun z=>hc (.inl z)) e
theorem L3.getX {α:Type} (f:α→V) (X:Nat→α):∀ {i:Nat},i < 3→[f (X 0),f (X 1),f (X 2)][i]?=some (f (X i))
 | 0,_=>rfl
 | 1,_=>rfl
 | 2,_=>rfl
def qer (cc:Nat→Addr) (cw:Addr):Sp:=fun vs H Q _=>∃ (x b p:Addr) (ss:List Str) (ns:List Nat) (tr:List Str) (z:Str) (dps:List (Str×Str)),vs=[.ref x]∧RoadAt cc cw H x b p ss ns tr z∧WG ss ns dps ∧
 ∀ (x':Addr) (ns':List Nat) (H':Hp),L2.Same H H'→H x'=none→WebN H cw H' x' ss ns'→WG ss ns' (dps.filter fun t=>!decide (t∈gnN ss tr))→Q (.ref x') H'
section
variable {P:Program} {w:World} {K:W.Frag} {mg:Str→Option Value} {base:Heap} {cc:Nat→Addr} {cw:Addr}
theorem ok_rwN {f:Addr} {fd:FuncData} (F:Fun K "web_left" "Road.web_left" jj f fd) (T:Txt K mg cc cw) (QD_Web:MakeOk P w K mg base CX0 5 cw "Web" ["self", "names", "ties"] (fun vs H Q _=>qdy cc cw vs H Q E0)) (D_Web_places:MethOk P w K mg base CX0 1 cw "places" ["self"] (qfR cw)) (D_Road_ties_left:MethOk P w K mg base CX0 8 (cc 9) "ties_left" ["self"] (qfk cc cw)):FnOk P w K mg base CX0 9 f fd ["self"] (qer cc cw):=by
 refine F.ok sc_Road_web_left (fun vs H Q E h=>?_) fun cdv A outer s H vs Q E hr h=>?_
 ·obtain ⟨x,b,p,ss,ns,tr,z,dps,rfl,_⟩:=h;rfl
 ·obtain ⟨x,b,p,ss,ns,tr,z,dps,rfl,hP,hG,q⟩:=h
  obtain ⟨dx,hx,hp,hW⟩:=id hP.pl
  obtain ⟨wx,d,ol,n,hb,_,_,_,hw⟩:=id hW
  refine ⟨_,(qf (qm (qaH QD_Web (hmR hr) (qa (qo D_Web_places (hmR hr) (qT (K:=K) rfl (pv 0) rfl)) (qa (qo D_Road_ties_left (hmR hr) (pv 0)) qc))))),?_⟩
  walk_at "vc"
  refine .inl ⟨x,cc 9,dx,_,.ref b,rfl,hx,T.pcl,T.pb,zW,?_⟩
  walk_at "vc"
  refine ⟨b,wx,_,rfl,hb,qag (by decide +kernel),?_⟩
  walk_at "vc"
  refine ⟨b,ss,ns,rfl,hW,fun l hl=>?_⟩
  have s1:=qF (L2.Same.refl H) (o:=.lst (ss.map V.str)) hl
  have el:upd H l (.lst (ss.map V.str)) l=some (.lst (ss.map V.str)):=qd
  generalize upd H l (.lst (ss.map V.str))=H1 at s1 el
  walk_at "vc"
  refine ⟨x,dx,_,rfl,s1 _ _ hx,qH (by decide +kernel),?_⟩
  walk_at "vc"
  refine ⟨x,b,p,ss,ns,tr,rfl,hP.pl.same s1,hP.len,hP.all,fun r us H2 s2 hr0 hul hus hPL=>?_⟩
  rw [hG.due] at hPL
  have hT:=hG.tok.filter fun t=>!decide (t∈gnN ss tr)
  have hr:=ris_filter (hG.ris hw) fun t=>!decide (t∈gnN ss tr)
  generalize dps.filter (fun t=>!decide (t∈gnN ss tr))=dps' at hPL hT hr q
  have s12:=s1.trans s2
  walk_at "vc"
  refine fun x' dx' hx0 hdx0 hne=>?_
  exact web_made (s2 _ _ el) hPL.1 hPL.2 ⟨hw.few,hw.nd,hw.nm⟩ hT (Shuf.self _) hx0 hdx0 (Ne.symm hne) fun ns' H3 s3 hWN hbits=>⟨rfl,q x' ns' H3 (s12.trans s3) (s12.free hx0) (hWN.old s12) (WG.of hWN.ok hT (Shuf.self _) hbits hr)⟩
theorem rwN_wl {vs:List V} {H:Hp} {Q:VK} {E:XK} (h:qfl cc cw vs H Q E):qer cc cw vs H Q E:=by
 obtain ⟨x,b,p,ss,ns,tr,z,dps,e,hP,hG,q⟩:=h
 exact ⟨x,b,p,ss,ns,tr,z,dps,e,hP,hG,fun x' ns' H' s h0 hW=>q x' ns' H' s h0 hW.web⟩
end
theorem sc_law:FnScope ["_law_script", "_law_names_here", "_law_ties", "_law_web_here", "_law_trail", "_law_road", "_law_cell", "_law_roads", "_law_trails", "_law_webs", "_law_at", "_law_many", "_law_thing"] ["_law_script"] (qb qbq):=⟨rfl,rfl,rfl,by decide +kernel,rfl,by decide +kernel,by decide +kernel⟩
theorem qec {cw x wl:Addr} {Pp Tt:Nat→Addr} {H1 H2:Hp} {ss:List Str} {ns:List Nat} (h:WebN H1 cw H2 x ss ns) (hx:H1 x=none) (hP:∀ i,i < 3→H1 (Pp i)≠none∧H1 (Tt i)≠none) (hwl:∀ c o,H2 c=some o→H1 c=none→c≠wl):WebP (A4 Pp Tt wl) cw H2 x ss ns:=by
 obtain ⟨dx,d,ol,n,e1,e2,e3,e4,ok,n1,n2,n3⟩:=h
 have na:∀ c o,H2 c=some o→H1 c=none→¬ A4 Pp Tt wl c:=fun c o e e0 hA=>by
  rcases hA with z | ⟨i,hi,z | z⟩
  ·exact hwl c o e e0 z
  ·exact (hP i hi).1 (z ▸ e0)
  ·exact (hP i hi).2 (z ▸ e0)
 exact ⟨dx,d,ol,n,e1,e2,e3,e4,ok,na _ _ e1 hx,na _ _ e2 n1,na _ _ e3 n2,na _ _ e4 n3⟩
def f3 {α:Type} (a b c:α):Nat→α
 | 0=>a
 | 1=>b
 | _=>c
theorem qge {q:Nat→Prop} (h0:q 0) (h1:q 1) (h2:q 2):∀ i,i < 3→q i
 | 0,_=>h0
 | 1,_=>h1
 | 2,_=>h2
theorem na4 {Pp Tt:Nat→Addr} {wl a:Addr} (h:a≠wl) (k:∀ i,i < 3→a≠Pp i∧a≠Tt i):¬ A4 Pp Tt wl a:=fun hA=>by
 rcases hA with z | ⟨i,hi,z | z⟩
 ·exact h z
 ·exact (k i hi).1 z
 ·exact (k i hi).2 z
theorem dp3 {p0 p1 p2 t0 t1 t2:Addr} (a1:p0≠p1) (a2:p0≠p2) (a3:p1≠p2) (b1:t0≠t1) (b2:t0≠t2) (b3:t1≠t2) (c1:p0≠t1) (c2:p0≠t2) (c3:p1≠t0) (c4:p1≠t2) (c5:p2≠t0) (c6:p2≠t1):∀ i j,i < 3→j < 3→i≠j→f3 p0 p1 p2 i≠f3 p0 p1 p2 j∧f3 t0 t1 t2 i≠f3 t0 t1 t2 j∧f3 p0 p1 p2 i≠f3 t0 t1 t2 j
 | 0,0,_,_,h=>absurd rfl h
 | 0,1,_,_,_=>⟨a1,b1,c1⟩
 | 0,2,_,_,_=>⟨a2,b2,c2⟩
 | 1,0,_,_,_=>⟨a1.symm,b1.symm,c3⟩
 | 1,1,_,_,h=>absurd rfl h
 | 1,2,_,_,_=>⟨a3,b3,c4⟩
 | 2,0,_,_,_=>⟨a2.symm,b2.symm,c5⟩
 | 2,1,_,_,_=>⟨a3.symm,b3.symm,c6⟩
 | 2,2,_,_,h=>absurd rfl h
theorem RI.rdw {K:W.Frag} {cc:Nat→Addr} {cw:Addr} {H0 H:Hp} {a b n l x p t:Addr} {nz:List Int} {ss:List Str} {ns:List Nat} {ts:List Addr} {TI:List (Nat×Nat)} {tr:List Nat} (h:RI cc H0 H b x p t ss tr) (S:Stc K cw H0 a b n l nz ss ns ts TI) (s:L2.Same H0 H):RdW cc cw H x b p ss ns TI tr:=by
 obtain ⟨dx,hx⟩:=h.ob
 exact ⟨S.ok,S.tok,S.wg,⟨dx,hx,h.pa,S.web.same s⟩,h.ne,h.lt,H0,s,h.p0,S.web⟩
theorem qfq {K:W.Frag} {cc:Nat→Addr} {cw:Addr} {H0 H:Hp} {a b n l:Addr} {nz:List Int} {ss:List Str} {ns:List Nat} {ts:List Addr} {TI:List (Nat×Nat)} {X Pp Tt:Nat→Addr} {TR:Nat→List Nat} (r:∀ i,i < 3→RI cc H0 H b (X i) (Pp i) (Tt i) ss (TR i)) (S:Stc K cw H0 a b n l nz ss ns ts TI) (s:L2.Same H0 H) (hl:∀ i,i < 3→(TR i).length≤100) :
  ∀ (j:Nat) x t,[X 0,X 1,X 2][j]?=some x→[Tt 0,Tt 1,Tt 2][j]?=some t→∃ b p ns tr h,RSt cc cw H n l x b p t ss ns ts TI tr h:=by
 have one:∀ i,i < 3→∃ b p ns tr h,RSt cc cw H n l (X i) b p (Tt i) ss ns ts TI tr h:=fun i hi=>by
  obtain ⟨z,h⟩:=(r i hi).rst S s (hl i hi)
  exact ⟨_,_,_,_,_,h⟩
 intro j x t h1 h2
 match j,h1,h2 with
 | 0,h1,h2=>cases h1;cases h2;exact one 0 (by decide)
 | 1,h1,h2=>cases h1;cases h2;exact one 1 (by decide)
 | 2,h1,h2=>cases h1;cases h2;exact one 2 (by decide)
 | j + 3,h1,h2=>simp at h1
section
variable {P:Program} {w:World} {K:W.Frag} {mg:Str→Option Value} {base:Heap} {cc:Nat→Addr} {cw:Addr}
theorem ok_law68 {f:Addr} {fd:FuncData} (F:Fun K "law" "law" qbq f fd) (T:Txt K mg cc cw) (D_l_drawn:DefOk P w K mg base CX0 3 "_law_drawn" ["_law_cell", "_law_apart"] qg8) (D_l_cell_at:DefOk P w K mg base CX0 1 "_law_cell_at" ["_law_script", "_law_k"] (qg6 K)) (D_l_web:DefOk P w K mg base CX0 7 "_law_web" ["_law_names_here", "_law_ties"] (qg9 cc cw))
  (D_Road:MakeOk P w K mg base CX0 5 (cc 9) "Road" ["self", "web", "start"] (qem cc cw)) (D_l_moved:DefOk P w K mg base CX0 11 "_law_moved" ["_law_road", "_law_names_here", "_law_ties", "_law_trail", "_law_cell"] (qha cc cw)) (D_Road_twin:MethOk P w K mg base CX0 7 (cc 9) "twin" ["self"] (qeq cc cw)) (D_l_all_told:DefOk P w K mg base CX0 12 "_law_all_told" ["_law_roads", "_law_names_here", "_law_ties", "_law_trails"] (qf2 cc cw))
  (D_Road_web_left:MethOk P w K mg base CX0 9 (cc 9) "web_left" ["self"] (qer cc cw)) (D_Web_told:MethOk P w K mg base CX0 8 cw "told" ["self"] (qdd cw)) (D_l_web_told:DefOk P w K mg base CX0 2 "_law_web_told" ["_law_names_here", "_law_ties", "_law_trail"] qf1) (D_l_counted:DefOk P w K mg base CX0 16 "_law_counted" ["_law_road", "_law_ties", "_law_trail", "_law_many"] (qfZ cc cw))
  (D_l_no_numbers:DefOk P w K mg base CX0 16 "_law_no_numbers" ["_law_road", "_law_thing"] (qf0 cc)) (D_l_to_the_start:DefOk P w K mg base CX0 12 "_law_to_the_start" ["_law_road", "_law_names_here", "_law_ties", "_law_trail"] (qf3 cc cw)) (D_l_told:DefOk P w K mg base CX0 11 "_law_told" ["_law_road", "_law_names_here", "_law_ties", "_law_trail", "_law_first"] (qep cc cw)):FnOk P w K mg base CX0 17 f fd ["_law_script"] (qek K):=by
 refine F.ok sc_law (fun vs H Q E h=>?_) fun cdv A outer s H vs Q E hr h=>?_
 ·obtain ⟨a,ns,rfl,_⟩:=h;rfl
 ·obtain ⟨a,nz,rfl,hS,hlen,q⟩:=h
  have hu:=zZ hr
  have nq:∀ {H:Hp} {c d:Addr} {o:HO},H c=some o→H d=none→c≠d:=fun e hd z=>by rw [z,hd] at e;cases e
  obtain ⟨TC6,hTC6⟩:∃ t0:TS,t0=fun D σ H'=>(∀ u H',Q u H'→D.rt u H')∧∃ (b n l x p t:Addr) (ss:List Str) (ns:List Nat) (ts:List Addr) (TI:List (Nat×Nat)) (tr:List Nat) (y6:Option V) (H0:Hp),σ=[some (.ref a),some (.ref n),some (.ref l),some (.ref b),some (.ref t),some (.ref x),y6,none,none,none,none,none,none]∧Stc K cw H0 a b n l nz ss ns ts TI∧L2.Same H0 H'∧RI cc H0 H' b x p t ss tr∧tr.length≤9:=⟨_,rfl⟩
  obtain ⟨TC11,hTC11⟩:∃ t0:TS,t0=fun D σ H'=>(∀ u H',Q u H'→D.rt u H')∧∃ (b n l rl tl wl:Addr) (ss:List Str) (ns:List Nat) (ts:List Addr) (TI:List (Nat×Nat)) (X Pp Tt:Nat→Addr) (TR:Nat→List Nat) (ws:List Addr) (y4 y5 y6:Option V) (H0:Hp),σ=[some (.ref a),some (.ref n),some (.ref l),some (.ref b),y4,y5,y6,some (.ref rl),some (.ref tl),some (.ref wl),none,none,none]∧Stc K cw H0 a b n l nz ss ns ts TI∧L3 cc cw H0 H' b rl tl wl ss 9 X Pp Tt TR ws:=⟨_,rfl⟩
  obtain ⟨TC12,hTC12⟩:∃ t0:TS,t0=fun D σ H'=>(∀ u H',Q u H'→D.rt u H')∧∃ (b n l rl tl wl:Addr) (ss:List Str) (ns:List Nat) (ts:List Addr) (TI:List (Nat×Nat)) (X Pp Tt:Nat→Addr) (TR:Nat→List Nat) (ws:List Addr) (y4 y5 y6 y10:Option V) (H0:Hp),σ=[some (.ref a),some (.ref n),some (.ref l),some (.ref b),y4,y5,y6,some (.ref rl),some (.ref tl),some (.ref wl),y10,none,none]∧Stc K cw H0 a b n l nz ss ns ts TI∧L3 cc cw H0 H' b rl tl wl ss 39 X Pp Tt TR ws:=⟨_,rfl⟩
  obtain ⟨TC14,hTC14⟩:∃ t0:TS,t0=fun D σ H'=>(∀ u H',Q u H'→D.rt u H')∧∃ (b n l rl tl wl:Addr) (ss:List Str) (ns:List Nat) (ts:List Addr) (TI:List (Nat×Nat)) (X Pp Tt:Nat→Addr) (TR:Nat→List Nat) (ws:List Addr) (y4 y5 y6 y10:Option V) (m:Nat) (H0:Hp),σ=[some (.ref a),some (.ref n),some (.ref l),some (.ref b),y4,y5,y6,some (.ref rl),some (.ref tl),some (.ref wl),y10,some (.int (m:Int)),none]∧m≤4∧Stc K cw H0 a b n l nz ss ns ts TI∧L3 cc cw H0 H' b rl tl wl ss 39 X Pp Tt TR ws:=⟨_,rfl⟩
  obtain ⟨TC15,hTC15⟩:∃ t0:TS,t0=fun D σ H'=>(∀ u H',Q u H'→D.rt u H')∧∃ (b n l rl tl wl:Addr) (ss:List Str) (ns:List Nat) (ts:List Addr) (TI:List (Nat×Nat)) (X Pp Tt:Nat→Addr) (TR:Nat→List Nat) (ws:List Addr) (y4 y5 y6 y10 y11:Option V) (H0:Hp),σ=[some (.ref a),some (.ref n),some (.ref l),some (.ref b),y4,y5,y6,some (.ref rl),some (.ref tl),some (.ref wl),y10,y11,none]∧Stc K cw H0 a b n l nz ss ns ts TI∧L3 cc cw H0 H' b rl tl wl ss 39 X Pp Tt TR ws:=⟨_,rfl⟩
  obtain ⟨TC16,hTC16⟩:∃ t0:TS,t0=fun D σ H'=>(∀ u H',Q u H'→D.rt u H')∧∃ (b n l rl tl wl:Addr) (ss:List Str) (ns:List Nat) (ts:List Addr) (TI:List (Nat×Nat)) (X Pp Tt:Nat→Addr) (TR:Nat→List Nat) (ws:List Addr) (y4 y5 y6 y10 y11 y12:Option V) (H0:Hp),σ=[some (.ref a),some (.ref n),some (.ref l),some (.ref b),y4,y5,y6,some (.ref rl),some (.ref tl),some (.ref wl),y10,y11,y12]∧Stc K cw H0 a b n l nz ss ns ts TI∧L3 cc cw H0 H' b rl tl wl ss 39 X Pp Tt TR ws:=⟨_,rfl⟩
  refine ⟨_,(qe (qbU (qq D_l_drawn (hmR hr) qx (qa (qq D_l_cell_at (hmR hr) qx (qa (pv 0) (qa qg qc))) (qa jI qc))) (qax rfl (qS (qt (i:=1) sc_law.nd rfl (Or.inl rfl)) (qS (qt (i:=2) sc_law.nd rfl (Or.inl rfl)) zL))))
 (qe (qO (qu (zT (K:=K) rfl hu) (pv 1) (js qc) (qy _)) (qf (qm jI)) qr)
 (qe (qw (i:=3) sc_law.nd rfl (Or.inl rfl) (qq D_l_web (hmR hr) qx (qa (pv 1) (qa (pv 2) qc))))
 (qe (qw (i:=4) sc_law.nd rfl (Or.inl rfl) (js (qa (qB j5 (qq D_l_cell_at (hmR hr) qx (qa (pv 0) (qa qg qc))) (qp (zC (K:=K) rfl) rfl T.b_len boot_len (qa (pv 1) qc))) qc)))
 (qe (qw (i:=5) sc_law.nd rfl (Or.inl rfl) (qaH D_Road (hmR hr) (qa (pv 3) (qa (qD (qE (K:=K) rfl hu) (pv 1) (qD (qE (K:=K) rfl hu) (pv 4) qg (fun _ _=>rfl)) (fun _ _=>rfl)) qc))))
 (qe (j9 PassesOwn.never rfl (j7 (K:=K) rfl (qak (qfu (K:=K) rfl) (pv 0) (zN qg) (zN qg))) (qt (i:=6) sc_law.nd rfl (Or.inl rfl))
 (qf (qO (qZ (qI (qq D_l_moved (hmR hr) qx (qa (pv 5) (qa (pv 1) (qa (pv 2) (qa (pv 4) (qa (pv 6) qc)))))))) (qf (qm jI)) qr)))
 (zV TC6 (qe (qw (i:=7) sc_law.nd rfl (Or.inl rfl) (js (qa (pv 5) (qa (qo D_Road_twin (hmR hr) (pv 5)) qc))))
 (qe (qL (qdQ (K:=K) rfl PySem.F.plainAttrs_list PySem.F.slot_list_append PySem.F.type_list_append jg (pv 7) (qa (qo D_Road_twin (hmR hr) (qD (qE (K:=K) rfl hu) (pv 7) qg (fun _ _=>rfl))) qc)))
 (qe (qw (i:=8) sc_law.nd rfl (Or.inl rfl) (js (qa (pv 4) (qa (qG (qav (K:=K) rfl rfl) rfl T.b_list boot_list (qa (pv 4) qc)) (qa (qG (qav (K:=K) rfl rfl) rfl T.b_list boot_list (qa (pv 4) qc)) qc)))))
 (qe (qO (qZ (qI (qq D_l_all_told (hmR hr) qx (qa (pv 7) (qa (pv 1) (qa (pv 2) (qa (pv 8) qc))))))) (qf (qm jI)) qr)
 (qe (qw (i:=9) sc_law.nd rfl (Or.inl rfl) (js (qa (jD (qa (qo D_Road_web_left (hmR hr) (pv 5)) (qa (qo D_Web_told (hmR hr) (qo D_Road_web_left (hmR hr) (pv 5))) qc))) qc)))
 (zV TC11 (qe (j9 PassesOwn.never rfl (j7 (K:=K) rfl (qak (qfu (K:=K) rfl) (pv 0) (zN qg) (zN qg))) (qt (i:=6) sc_law.nd rfl (Or.inl rfl))
 (qe (qw (i:=10) sc_law.nd rfl (Or.inl rfl) (qB j5 (pv 6) qg))
 (qe (qO (qZ (qI (qq D_l_moved (hmR hr) qx (qa (qD (qE (K:=K) rfl hu) (pv 7) (pv 10) (fun _ _=>rfl)) (qa (pv 1) (qa (pv 2) (qa (qD (qE (K:=K) rfl hu) (pv 8) (pv 10) (fun _ _=>rfl)) (qa (qB qbE (pv 6) qg) qc)))))))) (qf (qm jI)) qr)
 (qe (qO (qZ (qI (qq D_l_all_told (hmR hr) qx (qa (pv 7) (qa (pv 1) (qa (pv 2) (qa (pv 8) qc))))))) (qf (qm jI)) qr)
 (qf (qL (qdQ (K:=K) rfl PySem.F.plainAttrs_list PySem.F.slot_list_append PySem.F.type_list_append jg (pv 9) (qa (jD (qa (qo D_Road_web_left (hmR hr) (qD (qE (K:=K) rfl hu) (pv 7) (pv 10) (fun _ _=>rfl))) (qa (qq D_l_web_told (hmR hr) qx (qa (pv 1) (qa (pv 2) (qa (qD (qE (K:=K) rfl hu) (pv 8) (pv 10) (fun _ _=>rfl)) qc)))) qc))) qc))))))))
 (zV TC12 (qe (qw (i:=11) sc_law.nd rfl (Or.inl rfl) (qB j5 (qB qbE (qq D_l_cell_at (hmR hr) qx (qa (pv 0) (qa qg qc))) qg) qg))
 (qe (qO (qu qdr (qp (zC (K:=K) rfl) rfl T.b_len boot_len (qa (pv 2) qc)) qg (qy _)) (qf (qw (i:=11) sc_law.nd rfl (Or.inl rfl) (qp (qbY rfl) rfl T.b_min boot_min (qa (pv 11) (qa qg qc))))) qr)
 (zV TC14 (qe (j9 PassesOwn.never rfl (zA rfl T.b_range (qa qg qc)) (qt (i:=10) sc_law.nd rfl (Or.inl rfl))
 (qf (qO (qZ (qI (qq D_l_counted (hmR hr) qx (qa (qD (qE (K:=K) rfl hu) (pv 7) (pv 10) (fun _ _=>rfl)) (qa (pv 2) (qa (qD (qE (K:=K) rfl hu) (pv 8) (pv 10) (fun _ _=>rfl)) (qa (qD (qE (K:=K) rfl hu) (js (qa (pv 11) (qa qg (qa qg qc)))) (pv 10) (fun _ _=>rfl)) qc))))))) (qf (qm jI)) qr)))
 (zV TC15 (qe (j9 PassesOwn.never rfl (j7 (K:=K) rfl (js (qa (qdD qbX qg) (qa qg (qa (qB qes qg qg) (qa jI (qa jI (qa qcL (qa zq (qa (js (qa qg qc)) (qa (jD (qa qg qc)) qc))))))))))) (qt (i:=12) sc_law.nd rfl (Or.inl rfl))
 (qf (qO (qZ (qI (qq D_l_no_numbers (hmR hr) qx (qa (qD (qE (K:=K) rfl hu) (pv 7) qg (fun _ _=>rfl)) (qa (pv 12) qc))))) (qf (qm jI)) qr)))
 (zV TC16 (qe (qO (PW.pt (qaU (qZ (qI (qq D_l_all_told (hmR hr) qx (qa (pv 7) (qa (pv 1) (qa (pv 2) (qa (pv 8) qc))))))) (qap (qZ (qI (qq D_l_to_the_start (hmR hr) qx (qa (qD (qE (K:=K) rfl hu) (pv 7) qg (fun _ _=>rfl)) (qa (pv 1) (qa (pv 2) (qa (qD (qE (K:=K) rfl hu) (pv 8) qg (fun _ _=>rfl)) qc)))))))))) (qf (qm jI)) qr)
 (qe (qO (PW.pt (qaU (qu (qaG (K:=K) rfl hu) (zj (sc:=qb qbq) (XN:=["_law_script", "_law_names_here", "_law_ties", "_law_web_here", "_law_trail", "_law_road", "_law_cell", "_law_roads", "_law_trails", "_law_webs", "_law_at", "_law_many", "_law_thing"]) ["_law_one", "_law_due"] 2 [] rfl rfl rfl (by decide +kernel) rfl (by decide +kernel)
  (qcf (K:=K) rfl (pv 9)) (fun _ _ _ _=>(qax (n:=2) rfl (qS (qt (i:=0) (show (["_law_one", "_law_due"]:List Str).Nodup by decide +kernel) rfl (Or.inl rfl)) (qS (qt (i:=1) (show (["_law_one", "_law_due"]:List Str).Nodup by decide +kernel) rfl (Or.inl rfl)) zL)))) qbf
  (fun _ _ _ _=>(zb (qu (qaG (K:=K) rfl hu) (qo D_Web_told (hmR hr) (pv 0)) (pv 1) (qy _))))
  (fun _ _ _ _=>(pv 0))) (js qc) (qy _)) (qap (qu (qaG (K:=K) rfl hu) (qo D_Web_told (hmR hr) (pv 3)) (qq D_l_web_told (hmR hr) qx (qa (pv 1) (qa (pv 2) (qa (js (qa qg qc)) qc)))) (qy _))))) (qf (qm jI)) qr)
 (qf (qm (qq D_l_told (hmR hr) qx (qa (qD (qE (K:=K) rfl hu) (pv 7) qg (fun _ _=>rfl)) (qa (pv 1) (qa (pv 2) (qa (qD (qE (K:=K) rfl hu) (pv 8) qg (fun _ _=>rfl)) (qa qg qc)))))))))) ?cut16)) ?cut15)) ?cut14))) ?cut12)) ?cut11)))))) ?cut6))))))),?_⟩
  case cut16 =>
   intro D σ H1 h1
   rw [hTC16] at h1
   obtain ⟨hD,b,n,l,rl,tl,wl,ss,ns,ts,TI,X,Pp,Tt,TR,ws,y4,y5,y6,y10,y11,y12,H0,rfl,S,L⟩:=h1
   walk_at "vc"
   refine ⟨rl,n,l,tl,ss,ts,TI,[X 0,X 1,X 2],[Tt 0,Tt 1,Tt 2],rfl,L.rl_,L.tl_,rfl,qfq L.r S L.s (fun i hi=>by have:=L.l i hi;omega),fun H2 s2=>?_⟩
   have L:=L.same s2
   walk_at "vc"
   refine qQ (fun h=>by cases h) fun _=>?_
   walk_at "vc"
   refine .inl (qaC L.rl_ rfl ?_)
   walk_at "vc"
   refine .inl (qaC L.tl_ rfl ?_)
   walk_at "vc"
   have R:=L.r 1 (by decide)
   obtain ⟨z,RS⟩:=R.rst S L.s (by have:=L.l 1 (by decide);omega)
   refine ⟨n,l,X 1,b,Pp 1,Tt 1,ss,ns,ts,TI,TR 1,z,rfl,RS,R.pt,nq S.nm R.p0,nq S.nm R.t0,fun H' b'=>⟨S.web.same (b'.same L.s R.p0 R.t0),S.ti.same (b'.same L.s R.p0 R.t0)⟩,fun H3 b3=>?_⟩
   have s3:=b3.same L.s R.p0 R.t0
   have k:∀ c o,¬ A4 Pp Tt wl c→H2 c=some o→H3 c=some o:=fun c o hc e=>b3 c o (fun z=>hc (.inr ⟨1,by decide,.inl z⟩)) (fun z=>hc (.inr ⟨1,by decide,.inr z⟩)) e
   have hrl:=k _ _ L.nr.1 L.rl_
   have htl:=k _ _ L.nr.2 L.tl_
   have hwl:=b3 _ _ (L.nw 1 (by decide)).1 (L.nw 1 (by decide)).2 L.wl_
   have R0:=L.off (i:=1) (j:=0) (by decide) (by decide) (by decide) b3
   have hwi:∀ w∈ws,WI cw (A4 Pp Tt wl) H3 ss w:=fun w hw=>(L.wi w hw).keep L.lst k
   have l0:=L.l 0 (by decide)
   have lw:=L.lw
   clear L RS R b3 k
   walk_at "vc"
   refine qQ (fun h=>by cases h) fun _=>?_
   walk_at "vc"
   refine qdV ?_
   walk_at "vc"
   refine ⟨wl,_,rfl,.of hwl,jl (xs:=ws.map V.ref) (fun i ys J=>L2.Same H3 J∧ys=[]) ⟨L2.Same.refl H3,rfl⟩ (fun i ys J _ hp'=>.of (hp'.1 _ _ hwl)) (fun i x ys J hx hp'=>?_) fun ys J hp'=>?_⟩
   ·obtain ⟨sJ,rfl⟩:=hp'
    rw [List.getElem?_map] at hx
    obtain ⟨w,hw,rfl⟩:=Option.map_eq_some_iff.mp hx
    obtain ⟨wb,u,u1,u2,us,ns',e,hW,e0,e1,e2,e3⟩:=hwi w (List.mem_of_getElem? hw)
    have hW':=hW.web.same sJ
    obtain ⟨wx,d,ol,nn,hb,_⟩:=id hW'
    refine ⟨w,_,rfl,.of (sJ _ _ e),rfl,_,_,rfl,_,_,rfl,rfl,?_⟩
    walk_at "vc"
    refine ⟨wb,wx,_,rfl,hb,qag (by decide +kernel),?_⟩
    walk_at "vc"
    refine ⟨wb,ss,ns',rfl,hW',fun t0 t1 t2 ll tts J2 s2 ht0 ht1 ht2 hA=>?_⟩
    have sJ2:=sJ.trans s2
    have z:=qbQ (K:=K) ht0 ht1 ht2 (hA.mono fun t ab z=>z.2.2) (sJ2 _ _ e0) (sJ2 _ _ e1) (sJ2 _ _ e2) (e3.mono fun t ab z=>sJ2 _ _ z)
    walk_at "vc"
    refine .inr (.inl ⟨t0,u,true,3,rfl,rfl,by decide,z,?_⟩)
    walk_at "vc"
    refine qQ (fun h=>by cases h) fun _=>?_
    exact ⟨sJ2,rfl⟩
   ·obtain ⟨sJ,rfl⟩:=hp'
    refine ⟨by show 0≤sizeLine;decide,fun r hr0=>?_⟩
    have s4:=qF sJ (o:=.lst []) hr0
    have er:upd J r (.lst []) r=some (.lst []):=qd
    generalize upd J r (.lst [])=H4 at s4 er
    walk_at "vc"
    refine ⟨by show 0≤sizeLine;decide,fun e he0=>?_⟩
    have s45:=qF (L2.Same.refl H4) (o:=.lst []) he0
    have ee:upd H4 e (.lst []) e=some (.lst []):=qd
    generalize upd H4 e (.lst [])=H5 at s45 ee
    refine .inr (.inl ⟨r,e,true,1,rfl,rfl,by decide,(EqT.lst (n:=0) (e:=fun _=>true) (SqL.of (s45 _ _ er)) (SqL.of ee) rfl fun j x y h=>by (simp at h)),?_⟩)
    have s5:=s3.trans (s4.trans s45)
    have s35:=s4.trans s45
    have S5:=S.same s5
    obtain ⟨wx,d,ol,nn,hb,_⟩:=id S5.web
    walk_at "vc"
    refine qQ (fun h=>by cases h) fun _=>?_
    walk_at "vc"
    refine ⟨b,wx,_,rfl,hb,qag (by decide +kernel),?_⟩
    walk_at "vc"
    refine ⟨b,ss,ns,rfl,S5.web,fun t0 t1 t2 ll tts H6 s6 ht0 ht1 ht2 hA=>?_⟩
    walk_at "vc"
    refine ⟨by show 1≤sizeLine;decide,fun g hg0=>?_⟩
    have s67:=qF (L2.Same.refl H6) (o:=.lst (iVs [0])) hg0
    have eg:upd H6 g (.lst (iVs [0])) g=some (.lst (iVs [0])):=qd
    have eu0:upd H6 g (.lst [V.int 0])=upd H6 g (.lst (iVs [0])):=rfl
    rw [eu0]
    generalize upd H6 g (.lst (iVs [0]))=H7 at s67 eg
    have S7:=S5.same (s6.trans s67)
    walk_at "vc"
    refine ⟨n,l,g,ss,ts,TI,[0],rfl,S7.nm,S7.ti,S7.tok,eg,by decide,fun u u1 u2 us H8 s8 hu0 hu1 hu2 hA2=>?_⟩
    have ef:(TI.filter fun q=>!decide (q∈gnI [0]))=TI:=List.filter_eq_self.mpr fun q _=>by have:gnI [0]=[]:=rfl;rw [this];simp
    rw [ef] at hA2
    rw [S.wg.due] at hA
    have s68:=s67.trans s8
    have z2:=qbQ (K:=K) (s68 _ _ ht0) (s68 _ _ ht1) (s68 _ _ ht2) (hA.mono fun t ab z=>s68 _ _ z.2.2) hu0 hu1 hu2 hA2
    refine .inr (.inl ⟨t0,u,true,3,rfl,rfl,by decide,z2,?_⟩)
    have s38:=s35.trans (s6.trans s68)
    walk_at "vc"
    refine qQ (fun h=>by cases h) fun _=>?_
    walk_at "vc"
    refine .inl (qaC (s38 _ _ hrl) rfl ?_)
    walk_at "vc"
    refine .inl (qaC (s38 _ _ htl) rfl ?_)
    walk_at "vc"
    obtain ⟨z0,RS0⟩:=(R0.same s38).rst S (s3.trans s38) (by omega)
    exact ⟨n,l,X 0,b,Pp 0,Tt 0,ss,ns,ts,TI,TR 0,z0,_,rfl,RS0,fun H9 s9=>hD _ _ (q H9)⟩
  case cut15 =>
   intro D σ H1 h1
   rw [hTC15] at h1
   obtain ⟨hD,b,n,l,rl,tl,wl,ss,ns,ts,TI,X,Pp,Tt,TR,ws,y4,y5,y6,y10,y11,H0,rfl,S,L⟩:=h1
   obtain ⟨wx,dd,ol',nn,hb,_⟩:=id (S.web.same L.s)
   walk_at "vc"
   refine vU ?_
   walk_at "vc"
   refine vI ⟨by decide,by decide,by decide⟩ ?_
   walk_at "vc"
   refine ⟨by show 1≤sizeLine;decide,fun g1 hg1=>?_⟩
   have s1:=qF (L2.Same.refl H1) (o:=.lst [.int 2]) hg1
   have eg1:upd H1 g1 (.lst [.int 2]) g1=some (.lst [.int 2]):=qd
   generalize upd H1 g1 (.lst [.int 2])=H2 at s1 eg1 ⊢
   walk_at "vc"
   refine ⟨by show 1≤sizeLine;decide,fun g2 hg2=>?_⟩
   have s12:=qF (L2.Same.refl H2) (o:=.tup [.int 2]) hg2
   have eg2:upd H2 g2 (.tup [.int 2]) g2=some (.tup [.int 2]):=qd
   have s2:=s1.trans s12
   replace eg1:=s12 _ _ eg1
   generalize upd H2 g2 (.tup [.int 2])=H3 at s2 eg1 eg2 ⊢
   clear s12
   walk_at "vc"
   refine ⟨by show 9≤sizeLine;decide,fun th hth=>?_⟩
   obtain ⟨L0,hL0⟩:∃ L0,L0=[V.int (-1),.int 5,.int (10 ^ (30:Int).toNat),.bl true,.bl false,.non,.str "2",.ref g1,.ref g2]:=⟨_,rfl⟩
   rw [← hL0]
   have hrr:∀ {H':Hp} {c:Addr} {xs:List V},L2.Same H1 H'→(H' c=some (.lst xs)∨H' c=some (.tup xs))→c≠b:=fun s' h e=>by
    have hr':=s' _ _ hb
    rw [e,hr'] at h
    rcases h with h | h<;>cases h
   have hB:∀ v∈L0,Th b H3 2 v∧qbn 0 4 v=false:=fun v hv=>by
    rw [hL0] at hv
    simp only [List.mem_cons,List.not_mem_nil,or_false] at hv
    have fl:∀ i:Int,Th b H3 2 (.int i):=fun i=>Th.flat rfl (fun z e=>by cases e)
    rcases hv with rfl | rfl | rfl | rfl | rfl | rfl | rfl | rfl | rfl
    ·exact ⟨fl _,by decide⟩
    ·exact ⟨fl _,by decide⟩
    ·exact ⟨fl _,by decide +kernel⟩
    ·exact ⟨Th.flat rfl (fun z e=>by cases e),rfl⟩
    ·exact ⟨Th.flat rfl (fun z e=>by cases e),rfl⟩
    ·exact ⟨Th.flat rfl (fun z e=>by cases e),rfl⟩
    ·exact ⟨Th.str (by decide),rfl⟩
    ·exact ⟨Th.lst eg1 (hrr s2 (.inl eg1)) (fun x hx=>by rw [List.mem_singleton.mp hx];exact Th.flat rfl (fun z e=>by cases e)) (by show 1≤1000;decide),rfl⟩
    ·exact ⟨Th.tup eg2 (hrr s2 (.inr eg2)) (fun x hx=>by rw [List.mem_singleton.mp hx];exact Th.flat rfl (fun z e=>by cases e)) (by show 1≤1000;decide),rfl⟩
   clear hL0
   have s34:=qF (L2.Same.refl H3) (o:=.lst L0) hth
   have eth:upd H3 th (.lst L0) th=some (.lst L0):=qd
   have s4:=s2.trans s34
   generalize upd H3 th (.lst L0)=H4 at s34 eth s4 ⊢
   refine .inl ⟨⟨_,SqL.of eth⟩,zr (K:=K) (fun i σ H'=>L2.Same H4 H'∧∃ y12,σ=[some (.ref a),some (.ref n),some (.ref l),some (.ref b),y4,y5,y6,some (.ref rl),some (.ref tl),some (.ref wl),y10,y11,y12]) ⟨L2.Same.refl H4,none,rfl⟩ (fun i σ H' _ hp=>SqL.of (hp.1 _ _ eth)) (fun i y σ G hy hp=>?_) fun σ G hp=>?_⟩
   ·obtain ⟨sG,y12,rfl⟩:=hp
    obtain ⟨h1,h2⟩:=hB y (List.mem_of_getElem? hy)
    replace h1:=(h1.same s34).same sG
    walk_at "vc"
    refine .inl (qaC (sG _ _ (s4 _ _ L.rl_)) rfl ?_)
    walk_at "vc"
    refine ⟨X 0,b,2,y,rfl,h1,h2,fun G2 sG2=>?_⟩
    walk_at "vc"
    refine qQ (fun h=>by cases h) fun _=>?_
    walk_at "vc"
    exact ⟨sG.trans sG2,_,rfl⟩
   ·obtain ⟨sG,y12,rfl⟩:=hp
    rw [hTC16]
    exact ⟨hD,b,n,l,rl,tl,wl,ss,ns,ts,TI,X,Pp,Tt,TR,ws,y4,y5,y6,y10,y11,y12,H0,rfl,S,L.same (s4.trans sG)⟩
  case cut14 =>
   intro D σ H1 h1
   rw [hTC14] at h1
   obtain ⟨hD,b,n,l,rl,tl,wl,ss,ns,ts,TI,X,Pp,Tt,TR,ws,y4,y5,y6,y10,m,H0,rfl,hm,S,L⟩:=h1
   walk_at "vc"
   refine ⟨3,rfl,by decide,by decide,zB (lo:=0) (n:=3) (fun i σ J=>L2.Same H1 J∧∃ y10,σ=[some (.ref a),some (.ref n),some (.ref l),some (.ref b),y4,y5,y6,some (.ref rl),some (.ref tl),some (.ref wl),y10,some (.int (m:Int)),none]) ⟨L2.Same.refl H1,_,rfl⟩ (fun i σ J hi hp=>?_) fun σ J hp=>?_⟩
   ·obtain ⟨sJ,y10,rfl⟩:=hp
    have LJ:=L.same sJ
    have ei:(0:Int) + (i:Int)=(i:Int):=by omega
    rw [ei]
    walk_at "vc"
    refine .inl (qaC LJ.rl_ (ju (L3.getX V.ref X hi)) ?_)
    walk_at "vc"
    refine .inl (qaC LJ.tl_ (ju (L3.getX V.ref Tt hi)) ?_)
    walk_at "vc"
    refine ⟨by show 3≤sizeLine;decide,fun e he0=>?_⟩
    have s2:=qF (L2.Same.refl J) (o:=.lst [.int (m:Int),.int 2,.int 1]) he0
    have ee:upd J e (.lst [.int (m:Int),.int 2,.int 1]) e=some (.lst [.int (m:Int),.int 2,.int 1]):=qd
    generalize upd J e (.lst [.int (m:Int),.int 2,.int 1])=J2 at s2 ee
    walk_at "vc"
    refine .inl (qaC ee (ju (L3.getX (fun k:Nat=>.int (k:Int)) (f3 m 2 1) hi)) ?_)
    walk_at "vc"
    have L2':=LJ.same s2
    have R:=L2'.r i hi
    have hm3:f3 m 2 1 i≤4:=qge (q:=fun i=>f3 m 2 1 i≤4) hm (show 2≤4 by decide) (show 1≤4 by decide) i hi
    refine ⟨X i,b,Pp i,l,Tt i,ss,ns,ts,TI,TR i,f3 m 2 1 i,rfl,hm3,R.rdw S L2'.s,S.ti.same L2'.s,R.tr_,by have:=L2'.l i hi;omega,fun J3 s3=>?_⟩
    walk_at "vc"
    refine qQ (fun h=>by cases h) fun _=>?_
    walk_at "vc"
    exact ⟨(sJ.trans s2).trans s3,_,rfl⟩
   ·obtain ⟨sJ,y10,rfl⟩:=hp
    rw [hTC15]
    exact ⟨hD,b,n,l,rl,tl,wl,ss,ns,ts,TI,X,Pp,Tt,TR,ws,y4,y5,y6,y10,_,H0,rfl,S,L.same sJ⟩
  case cut12 =>
   intro D σ H1 h1
   rw [hTC12] at h1
   obtain ⟨hD,b,n,l,rl,tl,wl,ss,ns,ts,TI,X,Pp,Tt,TR,ws,y4,y5,y6,y10,H0,rfl,S,L⟩:=h1
   have S1:=S.same L.s
   walk_at "vc"
   refine ⟨a,nz,1,rfl,S1.sc,by decide,fun c=>?_⟩
   walk_at "vc"
   refine vI ⟨by decide,by decide⟩ ?_
   walk_at "vc"
   refine vI (by decide) ?_
   walk_at "vc"
   obtain ⟨m,em,hm⟩:∃ m:Nat,c / 14 % 5=(m:Int)∧m≤4:=⟨(c / 14 % 5).toNat,by omega,by omega⟩
   rw [em]
   refine qaV S1.ti.1 ?_
   walk_at "vc"
   refine qQ (fun h=>?_) (fun h=>?_)
   ·walk_at "vc"
    refine ⟨_,_,rfl,?_⟩
    walk_at "vc"
    rw [hTC14]
    obtain ⟨m',em',hm'⟩:∃ m':Nat,(if (3:Int) < (m:Int) then (3:Int) else (m:Int))=(m':Int)∧m'≤4:=by
     split
     ·exact ⟨3,rfl,by decide⟩
     ·exact ⟨m,rfl,hm⟩
    rw [em']
    exact ⟨hD,b,n,l,rl,tl,wl,ss,ns,ts,TI,X,Pp,Tt,TR,ws,y4,y5,y6,y10,m',H0,rfl,hm',S,L⟩
   ·walk_at "vc"
    rw [hTC14]
    exact ⟨hD,b,n,l,rl,tl,wl,ss,ns,ts,TI,X,Pp,Tt,TR,ws,y4,y5,y6,y10,m,H0,rfl,hm,S,L⟩
  case cut11 =>
   intro D σ H1 h1
   rw [hTC11] at h1
   obtain ⟨hD,b,n,l,rl,tl,wl,ss,ns,ts,TI,X,Pp,Tt,TR,ws,y4,y5,y6,H0,rfl,S,L⟩:=h1
   have S1:=S.same L.s
   walk_at "vc"
   refine .inl ⟨a,_,rfl,S1.sc,fun g hg0=>?_⟩
   have xf:(qbH (nz.map V.int) (some (10:Int)) (some (40:Int))).length≤30:=qdn _ 10 40
   have xm:∀ v∈qbH (nz.map V.int) (some (10:Int)) (some (40:Int)),∃ c:Int,v=.int c:=fun v hv=>by obtain ⟨c,_,e⟩:=List.mem_map.mp (qdo hv);exact ⟨c,e.symm⟩
   generalize qbH (nz.map V.int) (some (10:Int)) (some (40:Int))=xs at xf xm
   have s12:=qF (L2.Same.refl H1) (o:=.lst xs) hg0
   have eg:upd H1 g (.lst xs) g=some (.lst xs):=qd
   have ga:¬ A4 Pp Tt wl g:=fun hA=>by obtain ⟨ys,hy⟩:=L.lst g hA;rw [hg0] at hy;cases hy
   generalize upd H1 g (.lst xs)=H2 at s12 eg
   refine .inl ⟨⟨_,.of eg⟩,zr (xs:=xs) (fun i σ J=>J g=some (.lst xs)∧∃ TR ws y6 y10,σ=[some (.ref a),some (.ref n),some (.ref l),some (.ref b),y4,y5,y6,some (.ref rl),some (.ref tl),some (.ref wl),y10,none,none]∧L3 cc cw H0 J b rl tl wl ss (9 + i) X Pp Tt TR ws) ⟨eg,TR,ws,_,_,rfl,L.same s12⟩ (fun i σ J _ hp=>.of hp.1) (fun i v σ J hx hp=>?_) fun σ J hp=>?_⟩
   ·clear L S1 TR ws
    obtain ⟨egJ,TR,ws,y6,y10,rfl,L⟩:=hp
    obtain ⟨c,rfl⟩:=xm v (List.mem_of_getElem? hx)
    have hi:i < xs.length:=(List.getElem?_eq_some_iff.mp hx).1
    walk_at "vc"
    refine vI (by decide) ?_
    walk_at "vc"
    obtain ⟨k,ek,hk⟩:∃ k:Nat,c % 3=(k:Int)∧k < 3:=⟨(c % 3).toNat,by omega,by omega⟩
    rw [ek]
    refine .inl (qaC L.rl_ (ju (L3.getX V.ref X hk)) ?_)
    walk_at "vc"
    refine .inl (qaC L.tl_ (ju (L3.getX V.ref Tt hk)) ?_)
    walk_at "vc"
    refine vI ⟨by decide,by decide⟩ ?_
    walk_at "vc"
    have R:=L.r k hk
    have lk:=L.l k hk
    obtain ⟨z,RS⟩:=R.rst S L.s (by omega)
    refine ⟨n,l,X k,b,Pp k,Tt k,ss,ns,ts,TI,TR k,z,_,rfl,RS,R.pt,nq S.nm R.p0,nq S.nm R.t0,by omega,fun H' b'=>S.web.same (b'.same L.s R.p0 R.t0),fun J2 tr2 b2 hp2 ht2 ne2 lt2 ll2=>?_⟩
    have L2':=L.moved hk b2 hp2 ht2 ne2 lt2 ll2
    have eg2:J2 g=some (.lst xs):=b2 _ _ (fun z=>ga (.inr ⟨k,hk,.inl z⟩)) (fun z=>ga (.inr ⟨k,hk,.inr z⟩)) egJ
    have lws:=L.lw
    have etr:(if k=k then tr2 else TR k)=tr2:=if_pos rfl
    generalize hTR2:(fun j=>if j=k then tr2 else TR j)=TR2 at L2'
    have etr2:TR2 k=tr2:=by rw [← hTR2];exact etr
    clear hTR2 etr L R RS lk b2 egJ
    walk_at "vc"
    refine qQ (fun h=>by cases h) fun _=>?_
    walk_at "vc"
    refine ⟨rl,n,l,tl,ss,ts,TI,[X 0,X 1,X 2],[Tt 0,Tt 1,Tt 2],rfl,L2'.rl_,L2'.tl_,rfl,qfq L2'.r S L2'.s (fun i hi=>by have:=L2'.l i hi;omega),fun J3 s3=>?_⟩
    have L:=L2'.same s3
    have eg3:=s3 _ _ eg2
    walk_at "vc"
    refine qQ (fun h=>by cases h) fun _=>?_
    walk_at "vc"
    refine ⟨.inl ⟨rfl,_,.of L.wl_⟩,?_⟩
    walk_at "vc"
    refine .inl (qaC L.rl_ (ju (L3.getX V.ref X hk)) ?_)
    have R:=L.r k hk
    obtain ⟨dx,hX⟩:=R.ob
    obtain ⟨z,RS⟩:=R.rst S L.s (by have:=L.l k hk;omega)
    walk_at "vc"
    refine ⟨X k,dx,_,rfl,hX,qH (by decide +kernel),?_⟩
    walk_at "vc"
    refine ⟨X k,b,Pp k,ss,ns,_,_,_,rfl,RS.road,RS.wg,fun wb ns1 J4 s4 hwb0 hWN hG1=>?_⟩
    rw [qcI S.ok.nd S.tok R.lt] at hG1
    walk_at "vc"
    have RS4:=RS.same s4
    refine .inl (qaC (s4 _ _ L.tl_) (ju (L3.getX V.ref Tt hk)) ?_)
    walk_at "vc"
    refine ⟨n,l,Tt k,ss,ts,TI,TR2 k,rfl,RS4.nm,RS4.ti,RS4.tok,RS4.trl,RS4.len,fun u u1 u2 us J5 s5 hu0 hu1 hu2 hA=>?_⟩
    rw [← hG1.due] at hA
    walk_at "vc"
    refine ⟨by show 2≤sizeLine;decide,fun w hw0=>?_⟩
    have s56:=qF (L2.Same.refl J5) (o:=.tup [.ref wb,.ref u]) hw0
    have ew:upd J5 w (.tup [.ref wb,.ref u]) w=some (.tup [.ref wb,.ref u]):=qd
    generalize upd J5 w (.tup [.ref wb,.ref u])=J6 at s56 ew
    have s46:=s5.trans s56
    have s36:=s4.trans s46
    have hWP:WebP (A4 Pp Tt wl) cw J6 wb ss ns1:=qec (hWN.same s46) hwb0 (fun i hi=>⟨(fun e=>by rw [(L.r i hi).pa] at e;cases e),(fun e=>by rw [(L.r i hi).tr_] at e;cases e)⟩) (fun c o _ e0 z=>by rw [z,L.wl_] at e0;cases e0)
    have hwi:WI cw (A4 Pp Tt wl) J6 ss w:=⟨wb,u,u1,u2,us,ns1,ew,hWP,s56 _ _ hu0,s56 _ _ hu1,s56 _ _ hu2,hA.mono fun t ab z=>s56 _ _ z⟩
    have L6:=L.same s36
    walk_at "vc"
    refine ⟨wl,_,_,rfl,rfl,L6.wl_,by rw [List.length_map];exact qk (by omega),?_⟩
    have gw:g≠wl:=fun z=>ga (.inl z)
    walk_at "vc"
    exact ⟨by rw [qi gw];exact s36 _ _ eg3,TR2,ws++[w],_,_,rfl,L6.push hwi (by omega)⟩
   ·obtain ⟨_,TR,ws,y6,y10,rfl,L⟩:=hp
    rw [hTC12]
    refine ⟨hD,b,n,l,rl,tl,wl,ss,ns,ts,TI,X,Pp,Tt,TR,ws,y4,y5,y6,y10,H0,rfl,S,?_⟩
    exact ⟨L.s,L.rl_,L.tl_,L.wl_,L.r,L.dp,L.nr,L.nw,L.w0,fun i hi=>by have:=L.l i hi;omega,L.wi,by have:=L.lw;omega⟩
  case cut6 =>
   intro D σ H1 h1
   rw [hTC6] at h1
   obtain ⟨hD,b,n,l,x,p,t,ss,ns,ts,TI,tr,y6,H0,rfl,S,s1,R,l9⟩:=h1
   obtain ⟨dx,hx⟩:=R.ob
   walk_at "vc"
   refine ⟨x,dx,_,rfl,hx,qH (by decide +kernel),?_⟩
   walk_at "vc"
   refine ⟨x,b,p,ss,ns,TI,tr,rfl,R.rdw S s1,by omega,fun x1 p1 H2 s12 hx10 hp10 hP1=>?_⟩
   obtain ⟨dx1,hx1,hp1,_⟩:=hP1
   walk_at "vc"
   refine ⟨by show 2≤sizeLine;decide,fun rl hrl0=>?_⟩
   have s23:=qF (L2.Same.refl H2) (o:=.lst [.ref x,.ref x1]) hrl0
   have erl:upd H2 rl (.lst [.ref x,.ref x1]) rl=some (.lst [.ref x,.ref x1]):=qd
   have rx:=nq (s12 _ _ hx) hrl0
   have rp:=nq (s12 _ _ R.pa) hrl0
   have rt:=nq (s12 _ _ R.tr_) hrl0
   have rx1:=nq hx1 hrl0
   have rp1:=nq hp1 hrl0
   have rl0:H0 rl=none:=(s1.trans s12).free hrl0
   generalize upd H2 rl (.lst [.ref x,.ref x1])=H3 at s23 erl
   have s13:=s12.trans s23
   have s3:=s1.trans s13
   have W1:RdW cc cw H3 x1 b p1 ss ns TI tr:=⟨S.ok,S.tok,S.wg,⟨dx1,s23 _ _ hx1,s23 _ _ hp1,S.web.same s3⟩,R.ne,R.lt,H0,s3,s1.free hp10,S.web⟩
   walk_at "vc"
   refine ⟨.inl ⟨rfl,_,.of erl⟩,?_⟩
   walk_at "vc"
   refine .inl (qaC erl rfl ?_)
   walk_at "vc"
   refine ⟨x1,dx1,_,rfl,s23 _ _ hx1,qH (by decide +kernel),?_⟩
   walk_at "vc"
   refine ⟨x1,b,p1,ss,ns,TI,tr,rfl,W1,by omega,fun x2 p2 H4 s34 hx20 hp20 hP2=>?_⟩
   obtain ⟨dx2,hx2,hp2,_⟩:=hP2
   walk_at "vc"
   have erl4:=s34 _ _ erl
   refine ⟨rl,_,_,rfl,rfl,erl4,by show 2 < sizeLine;decide,?_⟩
   have rp2:p2≠rl:=(nq erl hp20).symm
   have rx2:x2≠rl:=fun z=>by rw [z,erl4] at hx2;cases hx2
   have s14:=s13.trans s34
   have k5:∀ c o,c≠rl→H4 c=some o→upd H4 rl (.lst ([.ref x,.ref x1]++[.ref x2])) c=some o:=fun c o hc e=>by rw [qi hc];exact e
   have erl5:upd H4 rl (.lst ([.ref x,.ref x1]++[.ref x2])) rl=some (.lst [.ref x,.ref x1,.ref x2]):=qd
   generalize upd H4 rl (.lst ([.ref x,.ref x1]++[.ref x2]))=H5 at k5 erl5
   have s5:L2.Same H0 H5:=fun c o e=>k5 _ _ (fun z=>by rw [z,rl0] at e;cases e) ((s1.trans s14) c o e)
   have hx5:=k5 _ _ rx (s14 _ _ hx)
   have hp5:=k5 _ _ rp (s14 _ _ R.pa)
   have ht5:=k5 _ _ rt (s14 _ _ R.tr_)
   have hx15:=k5 _ _ rx1 (s34 _ _ (s23 _ _ hx1))
   have hp15:=k5 _ _ rp1 (s34 _ _ (s23 _ _ hp1))
   have hx25:=k5 _ _ rx2 hx2
   have hp25:=k5 _ _ rp2 hp2
   have np1:=nq R.pa hp10
   have np2:=nq (s13 _ _ R.pa) hp20
   have np12:=nq (s23 _ _ hp1) hp20
   have tp1:=nq R.tr_ hp10
   have tp2:=nq (s13 _ _ R.tr_) hp20
   have hp10':=s1.free hp10
   have hp20':=s3.free hp20
   clear k5 hx2 hp2 erl4 s34 W1 s13 s3 erl s23 hp1 hx1 s12 s14
   walk_at "vc"
   refine .inl ⟨t,_,rfl,.inl (.of ht5),fun t1 ht10=>?_⟩
   have s56:=qF (L2.Same.refl H5) (o:=.lst (iVs tr)) ht10
   have et1:upd H5 t1 (.lst (iVs tr)) t1=some (.lst (iVs tr)):=qd
   generalize upd H5 t1 (.lst (iVs tr))=H6 at s56 et1
   walk_at "vc"
   refine .inl ⟨t,_,rfl,.inl (.of (s56 _ _ ht5)),fun t2 ht20=>?_⟩
   have s67:=qF (L2.Same.refl H6) (o:=.lst (iVs tr)) ht20
   have et2:upd H6 t2 (.lst (iVs tr)) t2=some (.lst (iVs tr)):=qd
   generalize upd H6 t2 (.lst (iVs tr))=H7 at s67 et2
   walk_at "vc"
   refine ⟨by show 3≤sizeLine;decide,fun tl htl0=>?_⟩
   have s78:=qF (L2.Same.refl H7) (o:=.lst [.ref t,.ref t1,.ref t2]) htl0
   have etl:upd H7 tl (.lst [.ref t,.ref t1,.ref t2]) tl=some (.lst [.ref t,.ref t1,.ref t2]):=qd
   generalize upd H7 tl (.lst [.ref t,.ref t1,.ref t2])=H8 at s78 etl
   have s57:=s56.trans s67
   have s58:=s57.trans s78
   have s8:=s5.trans s58
   have R0:RI cc H0 H8 b x p t ss tr:=⟨⟨dx,s58 _ _ hx5⟩,s58 _ _ hp5,s58 _ _ ht5,R.p0,R.t0,R.pt,R.ne,R.lt⟩
   have R1:RI cc H0 H8 b x1 p1 t1 ss tr:=⟨⟨dx1,s58 _ _ hx15⟩,s58 _ _ hp15,s78 _ _ (s67 _ _ et1),hp10',s5.free ht10,nq hp15 ht10,R.ne,R.lt⟩
   have R2:RI cc H0 H8 b x2 p2 t2 ss tr:=⟨⟨dx2,s58 _ _ hx25⟩,s58 _ _ hp25,s78 _ _ et2,hp20',(s5.trans s56).free ht20,nq (s56 _ _ hp25) ht20,R.ne,R.lt⟩
   have r8:∀ i,i < 3→RI cc H0 H8 b (f3 x x1 x2 i) (f3 p p1 p2 i) (f3 t t1 t2 i) ss tr:=qge (q:=fun i=>RI cc H0 H8 b (f3 x x1 x2 i) (f3 p p1 p2 i) (f3 t t1 t2 i) ss tr) R0 R1 R2
   have dp:=dp3 np1 np2 np12 (nq ht5 ht10) (nq (s56 _ _ ht5) ht20) (nq et1 ht20) (nq hp5 ht10) (nq (s56 _ _ hp5) ht20) tp1.symm (nq (s56 _ _ hp15) ht20) tp2.symm (nq hp25 ht10)
   have nrl:∀ i,i < 3→rl≠f3 p p1 p2 i∧rl≠f3 t t1 t2 i:=qge (q:=fun i=>rl≠f3 p p1 p2 i∧rl≠f3 t t1 t2 i) ⟨rp.symm,rt.symm⟩ ⟨rp1.symm,nq erl5 ht10⟩ ⟨rp2.symm,nq (s56 _ _ erl5) ht20⟩
   have ntl:∀ i,i < 3→tl≠f3 p p1 p2 i∧tl≠f3 t t1 t2 i:=qge (q:=fun i=>tl≠f3 p p1 p2 i∧tl≠f3 t t1 t2 i) ⟨(nq (s57 _ _ hp5) htl0).symm,(nq (s57 _ _ ht5) htl0).symm⟩ ⟨(nq (s57 _ _ hp15) htl0).symm,(nq (s67 _ _ et1) htl0).symm⟩ ⟨(nq (s57 _ _ hp25) htl0).symm,(nq et2 htl0).symm⟩
   have erl8:=s58 _ _ erl5
   have hx8:=s58 _ _ hx5
   walk_at "vc"
   refine ⟨rl,n,l,tl,ss,ts,TI,[x,x1,x2],[t,t1,t2],rfl,erl8,etl,rfl,qfq (X:=f3 x x1 x2) (Pp:=f3 p p1 p2) (Tt:=f3 t t1 t2) (TR:=fun _=>tr) r8 S s8 (fun _ _=>by omega),fun H9 s89=>?_⟩
   walk_at "vc"
   refine qQ (fun h=>by cases h) fun _=>?_
   walk_at "vc"
   obtain ⟨z,RS⟩:=(R0.same s89).rst S (s8.trans s89) (by omega)
   refine ⟨x,dx,_,rfl,s89 _ _ hx8,qH (by decide +kernel),?_⟩
   walk_at "vc"
   refine ⟨x,b,p,ss,ns,_,_,_,rfl,RS.road,RS.wg,fun wb ns1 H10 s10 hwb0 hWN hG1=>?_⟩
   walk_at "vc"
   refine ⟨x,dx,_,rfl,s10 _ _ (s89 _ _ hx8),qH (by decide +kernel),?_⟩
   walk_at "vc"
   refine ⟨x,b,p,ss,ns,_,_,_,rfl,(RS.same s10).road,RS.wg,fun wb2 ns2 H11 s11 hwb20 hWN2 hG2=>?_⟩
   obtain ⟨wx,d,ol,nn,hb,_⟩:=id hWN2.web
   walk_at "vc"
   refine ⟨wb2,wx,_,rfl,hb,qag (by decide +kernel),?_⟩
   walk_at "vc"
   refine ⟨wb2,ss,ns2,rfl,hWN2.web,fun u u1 u2 ll us H12 s112 hu0 hu1 hu2 hA=>?_⟩
   rw [hG2.due,← hG1.due] at hA
   walk_at "vc"
   refine ⟨by show 2≤sizeLine;decide,fun w hw0=>?_⟩
   have s123:=qF (L2.Same.refl H12) (o:=.tup [.ref wb,.ref u]) hw0
   have ew:upd H12 w (.tup [.ref wb,.ref u]) w=some (.tup [.ref wb,.ref u]):=qd
   generalize upd H12 w (.tup [.ref wb,.ref u])=H13 at s123 ew
   walk_at "vc"
   refine ⟨by show 1≤sizeLine;decide,fun wl hwl0=>?_⟩
   have s134:=qF (L2.Same.refl H13) (o:=.lst [.ref w]) hwl0
   have ewl:upd H13 wl (.lst [.ref w]) wl=some (.lst [.ref w]):=qd
   generalize upd H13 wl (.lst [.ref w])=H14 at s134 ewl
   have s103:=(s11.trans s112).trans s123
   have s813:=(s89.trans s10).trans s103
   have s814:=s813.trans s134
   have hWP:WebP (A4 (f3 p p1 p2) (f3 t t1 t2) wl) cw H13 wb ss ns1:=qec (hWN.same s103) hwb0 (fun i hi=>⟨(fun e=>by rw [s89 _ _ (r8 i hi).pa] at e;cases e),(fun e=>by rw [s89 _ _ (r8 i hi).tr_] at e;cases e)⟩) (fun c o e _ z=>by rw [z,hwl0] at e;cases e)
   walk_at "vc"
   rw [hTC11]
   refine ⟨hD,b,n,l,rl,tl,wl,ss,ns,ts,TI,f3 x x1 x2,f3 p p1 p2,f3 t t1 t2,fun _=>tr,[w],_,_,y6,H0,rfl,S,⟨s8.trans s814,s814 _ _ erl8,s814 _ _ etl,ewl,fun i hi=>(r8 i hi).same s814,dp,⟨na4 (nq (s813 _ _ erl8) hwl0) nrl,na4 (nq (s813 _ _ etl) hwl0) ntl⟩,fun i hi=>⟨(nq (s813 _ _ (r8 i hi).pa) hwl0).symm,(nq (s813 _ _ (r8 i hi).tr_) hwl0).symm⟩,(s8.trans s813).free hwl0,fun _ _=>l9,fun v hv=>?_,by show 1≤9;decide⟩⟩
   rw [List.mem_singleton.mp hv]
   have s124:=s123.trans s134
   exact ⟨wb,u,u1,u2,us,ns1,s134 _ _ ew,hWP.keep fun c o _ e=>s134 c o e,s124 _ _ hu0,s124 _ _ hu1,s124 _ _ hu2,hA.mono fun t ab z=>s124 _ _ z.2.2⟩
  walk_at "vc"
  refine vAsgT ?_
  walk_at "vc"
  refine ⟨a,nz,0,rfl,hS,by decide,fun c=>?_⟩
  walk_at "vc"
  refine ⟨c,rfl,fun t n l ss ts TI H1 s1 ht hn0 hn hO hl0 hI hT=>?_⟩
  refine ⟨t,_,rfl,.of ht,rfl,_,_,rfl,_,_,rfl,rfl,?_⟩
  walk_at "vc"
  refine ⟨by show 0≤sizeLine;decide,fun e he0=>?_⟩
  have s12:=qF (L2.Same.refl H1) (o:=.lst []) he0
  refine .inl (.inl (.inr (.inl ⟨n,e,_,1,rfl,rfl,by decide,qdi (s12 _ _ hn) qd,?_⟩)))
  rw [if_neg (by decide)]
  walk_at "vc"
  refine qQ (fun h=>?_) (fun h=>?_)
  ·walk_at "vc"
   exact q _
  have hne:ss≠[]:=fun e=>h (decide_eq_true e)
  have hpos:(0:Int) < (ss.length:Int):=by have:0 < ss.length:=List.length_pos_iff.mpr hne;omega
  generalize upd H1 e (.lst [])=H2 at s12
  walk_at "vc"
  refine ⟨n,l,ss,ts,TI,rfl,s12 _ _ hn,hI.same s12,hO,hT,fun b ns H3 s3 hb0 hW hG=>?_⟩
  have S:Stc K cw H3 a b n l nz ss ns ts TI:=⟨qdm hS ((s1.trans s12).trans s3),s3 _ _ (s12 _ _ hn),hO,(hI.same s12).same s3,hT,hG,hW⟩
  clear hW hG hb0 s3 s12 hI hn ht hn0 hl0
  walk_at "vc"
  refine ⟨a,nz,1,rfl,S.sc,by decide,fun c2=>?_⟩
  walk_at "vc"
  refine qaV S.nm ?_
  rw [List.length_map]
  refine vI hpos ?_
  walk_at "vc"
  obtain ⟨k0,e0,hk0⟩:∃ k0:Nat,c2 % (ss.length:Int)=(k0:Int)∧k0 < ss.length:=by
   have h1:=Int.emod_nonneg c2 (show (ss.length:Int)≠0 by omega)
   have h2:=Int.emod_lt_of_pos c2 hpos
   exact ⟨(c2 % (ss.length:Int)).toNat,by omega,by omega⟩
  rw [e0]
  refine ⟨by show 1≤sizeLine;decide,fun t ht0=>?_⟩
  have s34:=qF (L2.Same.refl H3) (o:=.lst (iVs [k0])) ht0
  have et:upd H3 t (.lst (iVs [k0])) t=some (.lst (iVs [k0])):=qd
  have eu0:upd H3 t (.lst [V.int (k0:Int)])=upd H3 t (.lst (iVs [k0])):=rfl
  rw [eu0]
  generalize upd H3 t (.lst (iVs [k0]))=H4 at s34 et
  have S4:=S.same s34
  walk_at "vc"
  refine .inl (qaC et (v:=iV k0) rfl ?_)
  walk_at "vc"
  refine qaS S4.nm hk0 ?_
  walk_at "vc"
  intro x dx hx0 hdx0 hdx
  have sG:L2.Same H4 (upd (upd H4 dx (.own x)) x (.ins (cc 9) dx [])):=qF (qF (L2.Same.refl H4) hdx0) (by rw [qi hdx.symm];exact hx0)
  have ex:upd (upd H4 dx (.own x)) x (.ins (cc 9) dx []) x=some (.ins (cc 9) dx []):=qd
  generalize upd (upd H4 dx (.own x)) x (.ins (cc 9) dx [])=G at sG ex
  refine ⟨x,dx,b,tn ss k0,ss,ns,rfl,ex,S4.web.same sG,qbz hk0,fun p H5 b5 hp0 hPl=>⟨rfl,?_⟩⟩
  have s5:L2.Same H4 H5:=fun c o e=>b5 c o (fun z=>by rw [z,hx0] at e;cases e) (sG c o e)
  have R:RI cc H3 H5 b x p t ss [k0]:=by
   obtain ⟨dx2,hx2,hp2,_⟩:=hPl
   have hp4:H4 p=none:=sG.free hp0
   exact ⟨⟨dx2,hx2⟩,hp2,s5 _ _ et,s34.free hp4,ht0,(nq et hp4).symm,by simp,fun i hi=>by rw [List.mem_singleton.mp hi];exact hk0⟩
  have s35:=s34.trans s5
  clear hPl b5 sG ex S4 s34 s5 et hp0
  have S5:=S.same s35
  walk_at "vc"
  refine .inl ⟨a,_,rfl,S5.sc,fun g hg0=>?_⟩
  have xf:(qbH (nz.map V.int) (some (2:Int)) (some (10:Int))).length≤8:=qdn _ 2 10
  have xm:∀ v∈qbH (nz.map V.int) (some (2:Int)) (some (10:Int)),∃ c:Int,v=.int c:=fun v hv=>by obtain ⟨c,_,e⟩:=List.mem_map.mp (qdo hv);exact ⟨c,e.symm⟩
  generalize qbH (nz.map V.int) (some (2:Int)) (some (10:Int))=xs at xf xm
  have s56:=qF (L2.Same.refl H5) (o:=.lst xs) hg0
  have eg:upd H5 g (.lst xs) g=some (.lst xs):=qd
  have gp:=(nq R.pa hg0).symm
  have gt:=(nq R.tr_ hg0).symm
  generalize upd H5 g (.lst xs)=H6 at s56 eg
  refine .inl ⟨⟨_,.of eg⟩,zr (xs:=xs) (fun i σ J=>J g=some (.lst xs)∧L2.Same H3 J∧∃ tr y6,σ=[some (.ref a),some (.ref n),some (.ref l),some (.ref b),some (.ref t),some (.ref x),y6,none,none,none,none,none,none]∧RI cc H3 J b x p t ss tr∧tr.length≤i + 1) ⟨eg,s35.trans s56,[k0],_,rfl,R.same s56,Nat.le_refl _⟩ (fun i σ J _ hp=>.of hp.1) (fun i v σ J hx hp=>?_) fun σ J hp=>?_⟩
  ·obtain ⟨egJ,sJ,tr,y6,rfl,RJ,lt⟩:=hp
   obtain ⟨c,rfl⟩:=xm v (List.mem_of_getElem? hx)
   have hi:i < xs.length:=(List.getElem?_eq_some_iff.mp hx).1
   obtain ⟨z,RS⟩:=RJ.rst S sJ (by omega)
   walk_at "vc"
   refine ⟨n,l,x,b,p,t,ss,ns,ts,TI,tr,z,_,rfl,RS,R.pt,nq S.nm R.p0,nq S.nm R.t0,by omega,fun H' b'=>S.web.same (b'.same sJ R.p0 R.t0),fun J2 tr2 b2 hp2 ht2 ne2 lt2 ll2=>?_⟩
   walk_at "vc"
   refine qQ (fun h=>by cases h) fun _=>?_
   walk_at "vc"
   exact ⟨b2 _ _ gp gt egJ,b2.same sJ R.p0 R.t0,tr2,_,rfl,RJ.at_ b2 hp2 ht2 ne2 lt2,by omega⟩
  ·obtain ⟨_,sJ,tr,y6,rfl,RJ,lt⟩:=hp
   rw [hTC6]
   exact ⟨fun _ _ z=>z,b,n,l,x,p,t,ss,ns,ts,TI,tr,y6,H3,rfl,S,sJ,RJ,by omega⟩
end
theorem qdp {P:Program} {w:World} {K:W.Frag} {mg:Str→Option Value} {base:Heap} {CX:CXT} {k:Nat} {f:Addr} {fd:FuncData} {ps:List Str}:FnOk P w K mg base CX k f fd ps (fun _ _ _ _=>False):=⟨fun _ _ _ _ h=>h.elim,by intros;contradiction⟩
theorem all_mk {l:W.OpenLaw} {w:World} {K:W.Frag} {h:Heap} {mg:Str→Option Value} {fa Cw Cp C0 C1 C2 C3 C4 C5 C6 C7 C8:Addr} {ty0 ty1 ty2 tym:Tok} (X:K.In h) (G:h.Ns mainGlobals mg) (hfa:mg "law"=some (.ref fa))
  (C0_:W.nsIn K mainGlobals "NoName"=some (some (.ref C0)))
  (C1_:W.nsIn K mainGlobals "Twice"=some (some (.ref C1)))
  (C2_:W.nsIn K mainGlobals "NoPlace"=some (some (.ref C2)))
  (C3_:W.nsIn K mainGlobals "NoTie"=some (some (.ref C3)))
  (C4_:W.nsIn K mainGlobals "TooMany"=some (some (.ref C4)))
  (C5_:W.nsIn K mainGlobals "NoMove"=some (some (.ref C5)))
  (C6_:W.nsIn K mainGlobals "NoBack"=some (some (.ref C6)))
  (C7_:W.nsIn K mainGlobals "NoNumbers"=some (some (.ref C7)))
  (C8_:W.nsIn K mainGlobals "OnceError"=some (some (.ref C8)))
  (Cw_:W.nsIn K mainGlobals "Web"=some (some (.ref Cw)))
  (Cp_:W.nsIn K mainGlobals "Road"=some (some (.ref Cp)))
  (h_is_whole:FG K "is_whole" zi)
  (h_is_within:FG K "is_within" jZ)
  (h_is_name:FG K "is_name" zk)
  (h_count_from:FG K "count_from" jQ)
  (h_has_bit:FG K "has_bit" zD)
  (h_is_place:FG K "is_place" zc)
  (h_are_two_places:FG K "are_two_places" qW)
  (h_numbers_of:FG K "numbers_of" jL)
  (h_near_of:FG K "near_of" zE)
  (h_roads_within:FG K "roads_within" je)
  (h_l_cell_at:FG K "_law_cell_at" j0)
  (h_l_box:FG K "_law_box" qaR)
  (h_l_take:FG K "_law_take" qam)
  (h_l_names:FG K "_law_names" qR)
  (h_l_drawn:FG K "_law_drawn" zn)
  (h_l_web:FG K "_law_web" qai)
  (h_l_gone:FG K "_law_gone" zX)
  (h_l_moves:FG K "_law_moves" zo)
  (h_l_named:FG K "_law_named" zp)
  (h_l_texts:FG K "_law_texts" zH)
  (h_l_places_told:FG K "_law_places_told" qJ)
  (h_l_ties_told:FG K "_law_ties_told" jk)
  (h_l_told:FG K "_law_told" qan)
  (h_l_moved:FG K "_law_moved" zJ)
  (h_l_web_told:FG K "_law_web_told" jx)
  (h_l_count:FG K "_law_count" zI)
  (h_l_counted:FG K "_law_counted" j2)
  (h_l_no_numbers:FG K "_law_no_numbers" jr)
  (h_l_all_told:FG K "_law_all_told" jR)
  (h_l_to_the_start:FG K "_law_to_the_start" qY)
  (h_law:FG K "law" qbq)
  (h_i0:FM K C0 "__init__" "NoName.__init__" jy)
  (h_i1:FM K C1 "__init__" "Twice.__init__" jJ)
  (h_i2:FM K C2 "__init__" "NoPlace.__init__" jm)
  (h_i3:FM K C3 "__init__" "NoTie.__init__" jK)
  (h_i4:FM K C4 "__init__" "TooMany.__init__" jo)
  (h_i5:FM K C5 "__init__" "NoMove.__init__" jz)
  (h_i6:FM K C6 "__init__" "NoBack.__init__" jA)
  (h_i7:FM K C7 "__init__" "NoNumbers.__init__" qV)
  (h_i8:FC K C8 "__init__" "OnceError.__init__" qU)
  (h_iw:FM K Cw "__init__" "Web.__init__" zd)
  (h_m_places:FM K Cw "places" "Web.places" jM)
  (h_m_ties:FM K Cw "ties" "Web.ties" ze)
  (h_m_has_place:FM K Cw "has_place" "Web.has_place" jh)
  (h_m_number_of:FM K Cw "number_of" "Web.number_of" ji)
  (h_m_beside:FM K Cw "beside" "Web.beside" jN)
  (h_m_bits_beside:FM K Cw "bits_beside" "Web.bits_beside" qP)
  (h_m_told:FM K Cw "told" "Web.told" zf)
  (h_m_names_in:FM K Cw "names_in" "Web.names_in" jd)
  (h_Cp___init__:FM K Cp "__init__" "Walk.__init__" jV)
  (h_Cp_web:FM K Cp "web" "Walk.web" zh)
  (h_Cp_stands_at:FM K Cp "stands_at" "Walk.stands_at" qX)
  (h_Cp_gone:FM K Cp "gone" "Walk.gone" jW)
  (h_Cp_hand:FM K Cp "hand" "Walk.hand" jX)
  (h_Cp_ended:FM K Cp "ended" "Walk.ended" jO)
  (h_Cp_loser:FM K Cp "loser" "Walk.loser" jP)
  (h_Cp_move_to:FM K Cp "move_to" "Walk.move_to" jq)
  (h_Cp_back:FM K Cp "back" "Walk.back" jY)
  (h_Cp_moves:FM K Cp "moves" "Road.moves" jw)
  (h_Cp_ties_gone:FM K Cp "ties_gone" "Road.ties_gone" qM)
  (h_Cp_ties_left:FM K Cp "ties_left" "Road.ties_left" qN)
  (h_Cp_tie_between:FM K Cp "tie_between" "Road.tie_between" qK)
  (h_Cp_go:FM K Cp "go" "Road.go" zG)
  (h_Cp_web_left:FM K Cp "web_left" "Road.web_left" jj)
  (h_Cp_twin:FM K Cp "twin" "Road.twin" j1)
  (X0:XL K C0 (.ref C8::qaI))
  (q0:XQ K C0)
  (X1:XL K C1 (.ref C8::qaI))
  (q1:XQ K C1)
  (X2:XL K C2 (.ref C8::qaI))
  (q2:XQ K C2)
  (X3:XL K C3 (.ref C8::qaI))
  (q3:XQ K C3)
  (X4:XL K C4 (.ref C8::qaI))
  (q4:XQ K C4)
  (X5:XL K C5 (.ref C8::qaI))
  (q5:XQ K C5)
  (X6:XL K C6 (.ref C8::qaI))
  (q6:XQ K C6)
  (X7:XL K C7 (.ref C8::qaI))
  (q7:XQ K C7)
  (X8:XL K C8 qaI)
  (q8:XQ K C8)
  (y0:W.findIn K (.ref C0) "found"=some none)
  (y1:W.findIn K (.ref C1) "name"=some none)
  (y2:W.findIn K (.ref C2) "found"=some none)
  (y3:W.findIn K (.ref C3) "found"=some none)
  (y4:W.findIn K (.ref C4) "many"=some none)
  (y5:W.findIn K (.ref C5) "found"=some none)
  (y6:W.findIn K (.ref C6) "found"=some none)
  (y7:W.findIn K (.ref C7) "found"=some none)
  (mo0:W.mroIn K C0 (.ref C8)=some true)
  (mo1:W.mroIn K C1 (.ref C8)=some true)
  (mo2:W.mroIn K C2 (.ref C8)=some true)
  (mo3:W.mroIn K C3 (.ref C8)=some true)
  (mo4:W.mroIn K C4 (.ref C8)=some true)
  (mo5:W.mroIn K C5 (.ref C8)=some true)
  (mo6:W.mroIn K C6 (.ref C8)=some true)
  (mo7:W.mroIn K C7 (.ref C8)=some true)
  (nd:([C0,C1,C2,C3,C4,C5,C6,C7]++[C8]).Nodup)
  (r1:W.readsIn K C8 (.type "type")=true)
  (r3:W.specialIn K (.ref C8) "__getattribute__"=some (some (.builtin "type.__getattribute__")))
  (v1:W.findIn K (.type "type") "__getattribute__"=some (some (.builtin "type.__getattribute__")))
  (v3:W.subIn K (.type "type") (.type "type")=some true)
  (v4:W.findCls K (.type "ValueError") (.type "type") "__init__"=some (.val (.builtin "ValueError.__init__")))
  (w1:W.plainGet K Cw Str.empty=true)
  (w2:W.hasDictIn K Cw=true)
  (w3:W.plainOver K Cw=true)
  (w4:W.findIn K (.ref Cw) "__setattr__"=some (some (.builtin "object.__setattr__")))
  (w5:W.makesIn K Cw=true)
  (w6:W.keepIn K (.ref Cw)=true)
  (w7:W.findIn K (.ref Cw) "numbers"=some none)
  (w8:W.findIn K (.ref Cw) "order"=some none)
  (w9:W.findIn K (.ref Cw) "near"=some none)
  (w16:W.specialIn K (.builtin "object.__class__") "__get__"=some (some (.builtin "getset_descriptor.__get__")))
  (w17:W.takesIn K (.builtin "object.__class__")=some true)
  (pw1:W.plainGet K Cp Str.empty=true)
  (pw2:W.hasDictIn K Cp=true)
  (pw3:W.plainOver K Cp=true)
  (pw4:W.findIn K (.ref Cp) "__setattr__"=some (some (.builtin "object.__setattr__")))
  (pw5:W.makesIn K Cp=true)
  (pw6:W.keepIn K (.ref Cp)=true)
  (pw7:W.findIn K (.ref Cp) "board"=some none)
  (pw8:W.findIn K (.ref Cp) "path"=some none)
  (zz0:W.nsIn K mainGlobals "zip"=some none)
  (zz1:W.nsIn K mainGlobals "sorted"=some none)
  (mr2:W.mroIn K C2 (.ref C2)=some true)
  (mr5:W.mroIn K C5 (.ref C5)=some true)
  (mr6:W.mroIn K C6 (.ref C6)=some true)
  (mr7:W.mroIn K C7 (.ref C7)=some true)
  (gm:W.nsIn K mainGlobals "MOST_MOVES_ON"=some (some (.int 4 tym)))
  (z0:W.nsIn K mainGlobals "len"=some none)
  (z1:W.nsIn K mainGlobals "int"=some none)
  (z2:W.nsIn K mainGlobals "enumerate"=some none)
  (z3:W.nsIn K mainGlobals "all"=some none)
  (z4:W.nsIn K mainGlobals "max"=some none)
  (z5:W.nsIn K mainGlobals "min"=some none)
  (z6:W.nsIn K mainGlobals "isinstance"=some none)
  (z7:W.nsIn K mainGlobals "bool"=some none)
  (z8:W.nsIn K mainGlobals "str"=some none)
  (z9:W.nsIn K mainGlobals "range"=some none)
  (z10:W.nsIn K mainGlobals "list"=some none)
  (z11:W.nsIn K mainGlobals "tuple"=some none)
  (z12:W.nsIn K mainGlobals "ValueError"=some none)
  (u0:W.nsIn K mainGlobals "LONGEST_NAME"=some (some (.int 6 ty0)))
  (u1:W.nsIn K mainGlobals "MOST_PLACES"=some (some (.int 14 ty1)))
  (u2:W.nsIn K mainGlobals "MOST_TIES"=some (some (.int 30 ty2))) :
  ∃ fd:FuncData,(∀ (s:Shared) (v:Value),BindsTo s fd ⟨[v],[]⟩ [("_law_script",v)])∧∀ base:Heap,K.In base→base.Ns mainGlobals mg→FnOk l.prog w K mg base CX0 17 fa fd ["_law_script"] (qek K):=by
 obtain ⟨f_is_whole,e_is_whole,a_is_whole,F_Qaf⟩:=h_is_whole
 obtain ⟨f_is_within,e_is_within,a_is_within,F_Qag⟩:=h_is_within
 obtain ⟨f_is_name,e_is_name,a_is_name,F_Qad⟩:=h_is_name
 obtain ⟨f_count_from,e_count_from,a_count_from,F_Qab⟩:=h_count_from
 obtain ⟨f_has_bit,e_has_bit,a_has_bit,F_Qac⟩:=h_has_bit
 obtain ⟨f_is_place,e_is_place,a_is_place,F_Qae⟩:=h_is_place
 obtain ⟨f_are_two_places,e_are_two_places,a_are_two_places,F_Qaa⟩:=h_are_two_places
 obtain ⟨f_numbers_of,e_numbers_of,a_numbers_of,F_Qbd⟩:=h_numbers_of
 obtain ⟨f_near_of,e_near_of,a_near_of,F_Qbc⟩:=h_near_of
 obtain ⟨f_roads_within,e_roads_within,a_roads_within,F_Qbe⟩:=h_roads_within
 obtain ⟨f_l_cell_at,e_l_cell_at,a_l_cell_at,F_Qaj⟩:=h_l_cell_at
 obtain ⟨f_l_box,e_l_box,a_l_box,F_Qai⟩:=h_l_box
 obtain ⟨f_l_take,e_l_take,a_l_take,F_Qau⟩:=h_l_take
 obtain ⟨f_l_names,e_l_names,a_l_names,F_Qar⟩:=h_l_names
 obtain ⟨f_l_drawn,e_l_drawn,a_l_drawn,F_Qam⟩:=h_l_drawn
 obtain ⟨f_l_web,e_l_web,a_l_web,F_Qaz⟩:=h_l_web
 obtain ⟨f_l_gone,e_l_gone,a_l_gone,F_Qan⟩:=h_l_gone
 obtain ⟨f_l_moves,e_l_moves,a_l_moves,F_Qap⟩:=h_l_moves
 obtain ⟨f_l_named,e_l_named,a_l_named,F_Qaq⟩:=h_l_named
 obtain ⟨f_l_texts,e_l_texts,a_l_texts,F_Qav⟩:=h_l_texts
 obtain ⟨f_l_places_told,e_l_places_told,a_l_places_told,F_Qat⟩:=h_l_places_told
 obtain ⟨f_l_ties_told,e_l_ties_told,a_l_ties_told,F_Qaw⟩:=h_l_ties_told
 obtain ⟨f_l_told,e_l_told,a_l_told,F_Qay⟩:=h_l_told
 obtain ⟨f_l_moved,e_l_moved,a_l_moved,F_Qao⟩:=h_l_moved
 obtain ⟨f_l_web_told,e_l_web_told,a_l_web_told,F_Qba⟩:=h_l_web_told
 obtain ⟨f_l_count,e_l_count,a_l_count,F_Qak⟩:=h_l_count
 obtain ⟨f_l_counted,e_l_counted,a_l_counted,F_Qal⟩:=h_l_counted
 obtain ⟨f_l_no_numbers,e_l_no_numbers,a_l_no_numbers,F_Qas⟩:=h_l_no_numbers
 obtain ⟨f_l_all_told,e_l_all_told,a_l_all_told,F_Qah⟩:=h_l_all_told
 obtain ⟨f_l_to_the_start,e_l_to_the_start,a_l_to_the_start,F_Qax⟩:=h_l_to_the_start
 obtain ⟨f_law,e_law,a_law,F_Qbb⟩:=h_law
 obtain ⟨f_i0,e_i0,a_i0,n_i0,F_i0⟩:=h_i0
 obtain ⟨f_i1,e_i1,a_i1,n_i1,F_i1⟩:=h_i1
 obtain ⟨f_i2,e_i2,a_i2,n_i2,F_i2⟩:=h_i2
 obtain ⟨f_i3,e_i3,a_i3,n_i3,F_i3⟩:=h_i3
 obtain ⟨f_i4,e_i4,a_i4,n_i4,F_i4⟩:=h_i4
 obtain ⟨f_i5,e_i5,a_i5,n_i5,F_i5⟩:=h_i5
 obtain ⟨f_i6,e_i6,a_i6,n_i6,F_i6⟩:=h_i6
 obtain ⟨f_i7,e_i7,a_i7,n_i7,F_i7⟩:=h_i7
 obtain ⟨f_i8,e_i8,a_i8,F_i8⟩:=h_i8
 obtain ⟨f_iw,e_iw,a_iw,n_iw,F_iw⟩:=h_iw
 obtain ⟨f_m_places,e_m_places,a_Qbk,n_Qbk,F_Qbk⟩:=h_m_places
 obtain ⟨f_m_ties,e_m_ties,a_Qbl,n_Qbl,F_Qbl⟩:=h_m_ties
 obtain ⟨f_m_has_place,e_m_has_place,a_Qbh,n_Qbh,F_Qbh⟩:=h_m_has_place
 obtain ⟨f_m_number_of,e_m_number_of,a_Qbj,n_Qbj,F_Qbj⟩:=h_m_number_of
 obtain ⟨f_m_beside,e_m_beside,a_Qbf,n_Qbf,F_Qbf⟩:=h_m_beside
 obtain ⟨f_m_bits_beside,e_m_bits_beside,a_Qbg,n_Qbg,F_Qbg⟩:=h_m_bits_beside
 obtain ⟨f_m_told,e_m_told,a_Qbm,n_Qbm,F_Qbm⟩:=h_m_told
 obtain ⟨f_m_names_in,e_m_names_in,a_Qbi,n_Qbi,F_Qbi⟩:=h_m_names_in
 obtain ⟨f_Cp___init__,e_Cp___init__,a_Cp___init__,n_Cp___init__,F_Cp___init__⟩:=h_Cp___init__
 obtain ⟨f_Cp_web,e_Cp_web,a_Cp_web,n_Cp_web,F_Cp_web⟩:=h_Cp_web
 obtain ⟨f_Cp_stands_at,e_Cp_stands_at,a_Cp_stands_at,n_Cp_stands_at,F_Cp_stands_at⟩:=h_Cp_stands_at
 obtain ⟨f_Cp_gone,e_Cp_gone,a_Cp_gone,n_Cp_gone,F_Cp_gone⟩:=h_Cp_gone
 obtain ⟨f_Cp_hand,e_Cp_hand,a_Cp_hand,n_Cp_hand,F_Cp_hand⟩:=h_Cp_hand
 obtain ⟨f_Cp_ended,e_Cp_ended,a_Cp_ended,n_Cp_ended,F_Cp_ended⟩:=h_Cp_ended
 obtain ⟨f_Cp_loser,e_Cp_loser,a_Cp_loser,n_Cp_loser,F_Cp_loser⟩:=h_Cp_loser
 obtain ⟨f_Cp_move_to,e_Cp_move_to,a_Cp_move_to,n_Cp_move_to,F_Cp_move_to⟩:=h_Cp_move_to
 obtain ⟨f_Cp_back,e_Cp_back,a_Cp_back,n_Cp_back,F_Cp_back⟩:=h_Cp_back
 obtain ⟨f_Cp_moves,e_Cp_moves,a_Cp_moves,n_Cp_moves,F_Cp_moves⟩:=h_Cp_moves
 obtain ⟨f_Cp_ties_gone,e_Cp_ties_gone,a_Cp_ties_gone,n_Cp_ties_gone,F_Cp_ties_gone⟩:=h_Cp_ties_gone
 obtain ⟨f_Cp_ties_left,e_Cp_ties_left,a_Cp_ties_left,n_Cp_ties_left,F_Cp_ties_left⟩:=h_Cp_ties_left
 obtain ⟨f_Cp_tie_between,e_Cp_tie_between,a_Cp_tie_between,n_Cp_tie_between,F_Cp_tie_between⟩:=h_Cp_tie_between
 obtain ⟨f_Cp_go,e_Cp_go,a_Cp_go,n_Cp_go,F_Cp_go⟩:=h_Cp_go
 obtain ⟨f_Cp_web_left,e_Cp_web_left,a_Cp_web_left,n_Cp_web_left,F_Cp_web_left⟩:=h_Cp_web_left
 obtain ⟨f_Cp_twin,e_Cp_twin,a_Cp_twin,n_Cp_twin,F_Cp_twin⟩:=h_Cp_twin
 have e:=hfa.symm.trans (W.mg_of X G a_law)
 cases e
 have Y0:XAt K C0:=qbL X0 qae q0 w16 w17
 have Y1:XAt K C1:=qbL X1 qae q1 w16 w17
 have Y2:XAt K C2:=qbL X2 qae q2 w16 w17
 have Y3:XAt K C3:=qbL X3 qae q3 w16 w17
 have Y4:XAt K C4:=qbL X4 qae q4 w16 w17
 have Y5:XAt K C5:=qbL X5 qae q5 w16 w17
 have Y6:XAt K C6:=qbL X6 qae q6 w16 w17
 have Y7:XAt K C7:=qbL X7 qae q7 w16 w17
 have Y8:XAt K C8:=qbL X8 qdU q8 w16 w17
 obtain ⟨kt1,kt2,kt3,kt4⟩:=kits nd (fun i hi=>match i,hi with | 0,_=>X0 | 1,_=>X1 | 2,_=>X2 | 3,_=>X3 | 4,_=>X4 | 5,_=>X5 | 6,_=>X6 | 7,_=>X7 | n + 8,h=>absurd h (by simp only [List.length_cons,List.length_nil];omega)) X8
 have wcl:Cls K Cw:=⟨w1,w2,w3,w4⟩
 have pcl:Cls K Cp:=⟨pw1,pw2,pw3,pw4⟩
 have cce:∀ i,i < 9→([C0,C1,C2,C3,C4,C5,C6,C7,C8]:List Addr).getD i Cp=([C0,C1,C2,C3,C4,C5,C6,C7]:List Addr).getD i C8:=fun i hi=>match i,hi with | 0,_=>rfl | 1,_=>rfl | 2,_=>rfl | 3,_=>rfl | 4,_=>rfl | 5,_=>rfl | 6,_=>rfl | 7,_=>rfl | 8,_=>rfl | n + 9,h=>absurd h (by omega)
 have T:Txt K mg (fun i=>([C0,C1,C2,C3,C4,C5,C6,C7,C8]:List Addr).getD i Cp) Cw:=⟨W.mg_none_of X G z0,
  W.mg_none_of X G z1,
  W.mg_none_of X G z2,
  W.mg_none_of X G z3,
  W.mg_none_of X G z4,
  W.mg_none_of X G z5,
  W.mg_none_of X G z6,
  W.mg_none_of X G z7,
  W.mg_none_of X G z8,
  W.mg_none_of X G z9,
  W.mg_none_of X G z10,
  W.mg_none_of X G z11,
  W.mg_none_of X G z12,
  ⟨ty0,W.mg_of X G u0⟩,
  ⟨ty1,W.mg_of X G u1⟩,
  ⟨ty2,W.mg_of X G u2⟩,
  W.mg_of X G C0_,
  W.mg_of X G C1_,
  W.mg_of X G C2_,
  W.mg_of X G C3_,
  W.mg_of X G C4_,
  W.mg_of X G C5_,
  W.mg_of X G C6_,
  W.mg_of X G C7_,
  W.mg_of X G C8_,
  ⟨v1,v3,v4⟩,
  fun i hi=>match i,hi with | 0,_=>Y0 | 1,_=>Y1 | 2,_=>Y2 | 3,_=>Y3 | 4,_=>Y4 | 5,_=>Y5 | 6,_=>Y6 | 7,_=>Y7 | 8,_=>Y8 | n + 9,h=>absurd h (by omega),
  fun i hi=>match i,hi with | 0,_=>y0 | 1,_=>y1 | 2,_=>y2 | 3,_=>y3 | 4,_=>y4 | 5,_=>y5 | 6,_=>y6 | 7,_=>y7 | n + 8,h=>absurd h (by omega),
  (fun i j hi hj=>by rw [cce i (by omega),cce j (by omega)];exact kt1 i j hi hj),
  (fun i hi=>by rw [cce i (by omega)];exact kt3 i hi),
  fun i hi=>match i,hi with | 0,_=>mo0 | 1,_=>mo1 | 2,_=>mo2 | 3,_=>mo3 | 4,_=>mo4 | 5,_=>mo5 | 6,_=>mo6 | 7,_=>mo7 | n + 8,h=>absurd h (by omega),
  wcl,
  w7,
  w8,
  w9,
  W.mg_of X G Cw_,
  W.mg_of X G Cp_,
  pcl,
  pw7,
  pw8,
  W.mg_none_of X G zz0,
  W.mg_none_of X G zz1,
  mr2,
  mr5,
  mr6,
  mr7,
  ⟨tym,W.mg_of X G gm⟩⟩
 obtain ⟨oc,od,kV,doc,pm,an,cd,ct,sl,rfl,lk,hc⟩:=F_Qbb.ex
 refine ⟨W.fnOf "law" "law" (qj qbq) (qh qbq) (qb qbq) .none kV doc pm an cd ct,fun s v=>.of_eq rfl,fun base _ _=>?_⟩
 have d_once:CMethOk l.prog w K mg base CX0 1 C8 "OnceError" "__init__" ["self", "text"] (qas K):=fc_mk X G C8_ r1 a_i8 r3 F_i8 (ok_once F_i8 T)
 have d0:XMakeOk l.prog w K mg base 2 C0 "NoName" ["self", "found"] (spX C0 (qaW 0)):=qce X G C0_ Y0 q0 a_i0 n_i0 F_i0 (ok_NoName F_i0 T d_once)
 have d1:XMakeOk l.prog w K mg base 2 C1 "Twice" ["self", "name"] (spX C1 (qaW 1)):=qce X G C1_ Y1 q1 a_i1 n_i1 F_i1 (ok_Twice F_i1 T d_once)
 have d2:XMakeOk l.prog w K mg base 2 C2 "NoPlace" ["self", "found"] (spX C2 (qaW 2)):=qce X G C2_ Y2 q2 a_i2 n_i2 F_i2 (ok_NoPlace F_i2 T d_once)
 have d3:XMakeOk l.prog w K mg base 2 C3 "NoTie" ["self", "found"] (spX C3 (qaW 3)):=qce X G C3_ Y3 q3 a_i3 n_i3 F_i3 (ok_NoTie F_i3 T d_once)
 have d4:XMakeOk l.prog w K mg base 2 C4 "TooMany" ["self", "many"] (spX C4 (qaW 4)):=qce X G C4_ Y4 q4 a_i4 n_i4 F_i4 (ok_TooMany F_i4 T d_once)
 have d5:XMakeOk l.prog w K mg base 2 C5 "NoMove" ["self", "found"] (spX C5 (qaW 5)):=qce X G C5_ Y5 q5 a_i5 n_i5 F_i5 (ok_NoMove F_i5 T d_once)
 have d6:XMakeOk l.prog w K mg base 2 C6 "NoBack" ["self"] (qg0 C6):=qce X G C6_ Y6 q6 a_i6 n_i6 F_i6 (ok_NoBack F_i6 T d_once)
 have d7:XMakeOk l.prog w K mg base 2 C7 "NoNumbers" ["self", "found"] (spX C7 (qaW 7)):=qce X G C7_ Y7 q7 a_i7 n_i7 F_i7 (ok_NoNumbers F_i7 T d_once)
 have fg:=@fg_mk l.prog w K mg base h
 have fm:=@fm_mk l.prog w K mg base
 have fw:=@fw_mk l.prog w K mg base h
 have d_name:=fg X G a_is_name F_Qad (ok_name F_Qad T)
 have d_wh:=fg X G a_is_whole F_Qaf (ok_wh F_Qaf T)
 have d_inn:=fg X G a_is_within F_Qag (ok_in F_Qag d_wh)
 have d_place:=fg X G a_is_place F_Qae (ok_place F_Qae d_name)
 have d_two:=fg X G a_are_two_places F_Qaa (ok_two F_Qaa T d_place)
 have d_bit:=fg X G a_has_bit F_Qac (ok_bit F_Qac)
 have d_nums:=fg X G a_numbers_of F_Qbd (ok_nums F_Qbd T d_name d0 d1 d4)
 have d_near:=fg X G a_near_of F_Qbc (ok_near F_Qbc T d_two d_bit d3 d4)
 have o_web:=ok_web F_iw T d_nums d_near
 have q_web:MakeOk l.prog w K mg base CX0 5 Cw "Web" ["self", "names", "ties"] (fun vs H Q _=>qdy (fun i=>([C0,C1,C2,C3,C4,C5,C6,C7,C8]:List Addr).getD i Cp) Cw vs H Q E0):=fw X G Cw_ w5 w6 a_iw n_iw F_iw o_web.quiet
 have m_has:=fm wcl a_Qbh n_Qbh F_Qbh (ok_has F_Qbh T d_place)
 have o_num:=ok_num F_Qbj T m_has d2
 have m_num:=fm wcl a_Qbj n_Qbj F_Qbj o_num
 have q_num:=fm wcl a_Qbj n_Qbj F_Qbj o_num.quiet
 have o_bb:=ok_bb F_Qbg T m_num
 have m_bb:=fm wcl a_Qbg n_Qbg F_Qbg o_bb
 have m_nin:=fm wcl a_Qbi n_Qbi F_Qbi (ok_nin F_Qbi T d_bit)
 have o_bs:=ok_bs F_Qbf T m_bb m_nin
 have q_bs:=fm wcl a_Qbf n_Qbf F_Qbf o_bs.quiet
 have m_pls:=fm wcl a_Qbk n_Qbk F_Qbk (ok_pls F_Qbk T)
 have m_ts:=fm wcl a_Qbl n_Qbl F_Qbl (ok_ts F_Qbl T q_bs)
 have m_told:=fm wcl a_Qbm n_Qbm F_Qbm (ok_told F_Qbm T m_ts)
 have m_road:MakeOk l.prog w K mg base CX0 5 Cp "Road" ["self", "web", "start"] (qem (fun i=>([C0,C1,C2,C3,C4,C5,C6,C7,C8]:List Addr).getD i Cp) Cw):=fw X G Cp_ pw5 pw6 a_Cp___init__ n_Cp___init__ F_Cp___init__ (ok_wkI F_Cp___init__ T m_has)
 have p_web:=fm pcl a_Cp_web n_Cp_web F_Cp_web (ok_pw F_Cp_web T)
 have p_std:=fm pcl a_Cp_stands_at n_Cp_stands_at F_Cp_stands_at (ok_ps F_Cp_stands_at T)
 have p_gone:=fm pcl a_Cp_gone n_Cp_gone F_Cp_gone (ok_pgn F_Cp_gone T)
 have p_hand:=fm pcl a_Cp_hand n_Cp_hand F_Cp_hand (ok_ph F_Cp_hand T)
 have p_tb:=fm pcl a_Cp_tie_between n_Cp_tie_between F_Cp_tie_between (ok_tb F_Cp_tie_between T q_num)
 have p_tg:=fm pcl a_Cp_ties_gone n_Cp_ties_gone F_Cp_ties_gone (ok_tg F_Cp_ties_gone T p_tb)
 have p_tlf:=fm pcl a_Cp_ties_left n_Cp_ties_left F_Cp_ties_left (ok_tlf F_Cp_ties_left T p_tg m_ts)
 have p_mv:=fm pcl a_Cp_moves n_Cp_moves F_Cp_moves (ok_rm F_Cp_moves T p_std p_tg q_bs p_tb)
 have p_mvt:=fm pcl a_Cp_move_to n_Cp_move_to F_Cp_move_to (ok_rmvt F_Cp_move_to T p_mv)
 have p_go:=fm pcl a_Cp_go n_Cp_go F_Cp_go (ok_rgo F_Cp_go T p_mvt)
 have o_bk:=ok_pbk (P:=l.prog) (w:=w) (base:=base) F_Cp_back T
 have p_bkN:MethOk l.prog w K mg base CX0 1 Cp "back" ["self"] (qfS (fun i=>([C0,C1,C2,C3,C4,C5,C6,C7,C8]:List Addr).getD i Cp) Cw):=fm pcl a_Cp_back n_Cp_back F_Cp_back o_bk
 have p_end:=fm pcl a_Cp_ended n_Cp_ended F_Cp_ended (ok_rend F_Cp_ended T p_mv)
 have p_los:=fm pcl a_Cp_loser n_Cp_loser F_Cp_loser (ok_rlos F_Cp_loser T p_end p_hand)
 have o_wlN:=ok_rwN (P:=l.prog) (w:=w) (base:=base) F_Cp_web_left T q_web m_pls p_tlf
 have p_wlN:MethOk l.prog w K mg base CX0 9 Cp "web_left" ["self"] (qer (fun i=>([C0,C1,C2,C3,C4,C5,C6,C7,C8]:List Addr).getD i Cp) Cw):=fm pcl a_Cp_web_left n_Cp_web_left F_Cp_web_left o_wlN
 have p_wl:MethOk l.prog w K mg base CX0 9 Cp "web_left" ["self"] (qfl (fun i=>([C0,C1,C2,C3,C4,C5,C6,C7,C8]:List Addr).getD i Cp) Cw):=fm pcl a_Cp_web_left n_Cp_web_left F_Cp_web_left (FnOk.weakQ o_wlN fun _ _ _ _ z=>rwN_wl z)
 have d_ca:=fg X G a_l_cell_at F_Qaj (ok_ca7 F_Qaj T)
 have d_bx:=fg X G a_l_box F_Qai (ok_bx F_Qai T)
 have d_tk:=fg X G a_l_take F_Qau (ok_tk F_Qau)
 have d_nm:=fg X G a_l_names F_Qar (ok_nm7 F_Qar T d_tk)
 have d_dr:=fg X G a_l_drawn F_Qam (ok_dr F_Qam T d_bx d_tk d_nm)
 have d_wb:=fg X G a_l_web F_Qaz (ok_wb F_Qaz T q_web)
 have d_gn:=fg X G a_l_gone F_Qan (ok_gn F_Qan T)
 have d_mv:=fg X G a_l_moves F_Qap (ok_mvI F_Qap T d_gn)
 have d_nd:=fg X G a_l_named F_Qaq (ok_nd F_Qaq)
 have d_tx:=fg X G a_l_texts F_Qav (ok_tx F_Qav T)
 have d_pt:=fg X G a_l_places_told F_Qat (ok_pt F_Qat T d_mv d_tx d_nd p_mv p_gone p_std p_web m_told p_hand p_end p_los)
 have d_tt:=fg X G a_l_ties_told F_Qaw (ok_tt F_Qaw T d_gn d_tx d_nd p_tg p_tlf p_wl m_told)
 have d_tl:=fg X G a_l_told F_Qay (ok_tl F_Qay T d_tt d_pt) (fun _ _ _ _ _ _ us hl=>(match us,hl with | [_,_,_,_,_],_=>rfl))
 have p_tw:=fm pcl a_Cp_twin n_Cp_twin F_Cp_twin (ok_rtw F_Cp_twin T m_road)
 have d_cno:DefOk l.prog w K mg base CX0 9 "count_from" ["walk", "many"] (fun _ _ _ _=>False):=fg X G a_count_from F_Qab (qdp)
 have o_cf0:=qcs (P:=l.prog) (w:=w) (mg:=mg) (base:=base) (cc:=(fun i=>([C0,C1,C2,C3,C4,C5,C6,C7,C8]:List Addr).getD i Cp)) (cw:=Cw) F_Qab 0 (by decide) _ (fun h=>absurd h (by decide)) p_mv p_mvt p_bkN d_cno
 have d_cf0:=fg X G a_count_from F_Qab (o_cf0)
 have o_cf1:=qcs (P:=l.prog) (w:=w) (mg:=mg) (base:=base) (cc:=(fun i=>([C0,C1,C2,C3,C4,C5,C6,C7,C8]:List Addr).getD i Cp)) (cw:=Cw) F_Qab 1 (by decide) _ (fun _=>rfl) p_mv p_mvt p_bkN d_cf0
 have d_cf1:=fg X G a_count_from F_Qab (o_cf1)
 have o_cf2:=qcs (P:=l.prog) (w:=w) (mg:=mg) (base:=base) (cc:=(fun i=>([C0,C1,C2,C3,C4,C5,C6,C7,C8]:List Addr).getD i Cp)) (cw:=Cw) F_Qab 2 (by decide) _ (fun _=>rfl) p_mv p_mvt p_bkN d_cf1
 have d_cf2:=fg X G a_count_from F_Qab (o_cf2)
 have o_cf3:=qcs (P:=l.prog) (w:=w) (mg:=mg) (base:=base) (cc:=(fun i=>([C0,C1,C2,C3,C4,C5,C6,C7,C8]:List Addr).getD i Cp)) (cw:=Cw) F_Qab 3 (by decide) _ (fun _=>rfl) p_mv p_mvt p_bkN d_cf2
 have d_cf3:=fg X G a_count_from F_Qab (o_cf3)
 have o_cf4:=qcs (P:=l.prog) (w:=w) (mg:=mg) (base:=base) (cc:=(fun i=>([C0,C1,C2,C3,C4,C5,C6,C7,C8]:List Addr).getD i Cp)) (cw:=Cw) F_Qab 4 (by decide) _ (fun _=>rfl) p_mv p_mvt p_bkN d_cf3
 have d_cfA:DefOk l.prog w K mg base CX0 14 "count_from" ["walk", "many"] (qeb (fun i=>([C0,C1,C2,C3,C4,C5,C6,C7,C8]:List Addr).getD i Cp) Cw):=fg X G a_count_from F_Qab (FnOk.uptoQ (n:=4) (fun m hm=>match m,hm with | 0,_=>FnOk.upQ o_cf0 (by decide) | 1,_=>FnOk.upQ o_cf1 (by decide) | 2,_=>FnOk.upQ o_cf2 (by decide) | 3,_=>FnOk.upQ o_cf3 (by decide) | 4,_=>FnOk.upQ o_cf4 (by decide) | m + 5,h=>absurd h (by omega)))
 have d_rdw:=fg X G a_roads_within F_Qbe (ok_rdw F_Qbe T d_inn p_tw d_cfA)
 have d_rdX:=fg X G a_roads_within F_Qbe (ok_rdX F_Qbe T d7 d_inn p_tw d_cfA)
 have d_lno:DefOk l.prog w K mg base CX0 2 "_law_count" ["_law_ties", "_law_trail", "_law_many"] (fun _ _ _ _=>False):=fg X G a_l_count F_Qak (qdp)
 have o_lc0:=qct (P:=l.prog) (w:=w) (mg:=mg) (base:=base) F_Qak 0 (by decide) _ (fun h=>absurd h (by decide)) d_mv d_lno
 have d_lc0:=fg X G a_l_count F_Qak (o_lc0)
 have o_lc1:=qct (P:=l.prog) (w:=w) (mg:=mg) (base:=base) F_Qak 1 (by decide) _ (fun _=>rfl) d_mv d_lc0
 have d_lc1:=fg X G a_l_count F_Qak (o_lc1)
 have o_lc2:=qct (P:=l.prog) (w:=w) (mg:=mg) (base:=base) F_Qak 2 (by decide) _ (fun _=>rfl) d_mv d_lc1
 have d_lc2:=fg X G a_l_count F_Qak (o_lc2)
 have o_lc3:=qct (P:=l.prog) (w:=w) (mg:=mg) (base:=base) F_Qak 3 (by decide) _ (fun _=>rfl) d_mv d_lc2
 have d_lc3:=fg X G a_l_count F_Qak (o_lc3)
 have o_lc4:=qct (P:=l.prog) (w:=w) (mg:=mg) (base:=base) F_Qak 4 (by decide) _ (fun _=>rfl) d_mv d_lc3
 have d_lcA:DefOk l.prog w K mg base CX0 7 "_law_count" ["_law_ties", "_law_trail", "_law_many"] qfX:=fg X G a_l_count F_Qak (FnOk.uptoQ (n:=4) (fun m hm=>match m,hm with | 0,_=>FnOk.upQ o_lc0 (by decide) | 1,_=>FnOk.upQ o_lc1 (by decide) | 2,_=>FnOk.upQ o_lc2 (by decide) | 3,_=>FnOk.upQ o_lc3 (by decide) | 4,_=>FnOk.upQ o_lc4 (by decide) | m + 5,h=>absurd h (by omega)))
 have d_ctd:=fg X G a_l_counted F_Qal (ok_ctd F_Qal T d_lcA d_rdw)
 have d_nns:=fg X G a_l_no_numbers F_Qas (ok_nns F_Qas T d_rdX)
 have d_mvd:=fg X G a_l_moved F_Qao (ok_mvd F_Qao T d_mv p_bkN p_go) (fun _ _ _ _ _ _ us hl=>(match us,hl with | [_,_,_,_,_],_=>rfl))
 have d_wtd:=fg X G a_l_web_told F_Qba (ok_wtd F_Qba T d_gn d_nd)
 have d_atd:=fg X G a_l_all_told F_Qah (ok_atd F_Qah T d_tl)
 have d_tst:=fg X G a_l_to_the_start F_Qax (ok_tst F_Qax T d_tl p_bkN)
 exact ok_law68 F_Qbb T d_dr d_ca d_wb m_road d_mvd p_tw d_atd p_wlN m_told d_wtd d_ctd d_nns d_tst d_tl
theorem walk {l:PySem.W.OpenLaw} {q:Program} {loose:List Str} {XP:(Str→Option Value)→Heap→Prop} {YP:World→Heap→Prop} {d:DefRec} {K:Params→PySem.W.Frag} (hn:l.most=some 63) (hdf:d.params.defaults=[])
  (hY:∀ (w:World) (h:Heap),YP w h→(K w.params).In h)
  (F:∀ (w:World) (mg:Str→Option Value) (fa:Addr) (h:Heap),(K w.params).In h→h.Ns mainGlobals mg→mg d.name=some (.ref fa) →
   ∃ fd:FuncData,(∀ (s:Shared) (u:Value),BindsTo s fd ⟨[u],[]⟩ [("_law_script",u)])∧∀ base:Heap,(K w.params).In base→base.Ns mainGlobals mg→FnOk l.prog w (K w.params) mg base CX0 17 fa fd ["_law_script"] (qek (K w.params))) :
  PySem.W.WalkO q loose XP YP l.row.toRowW d [] (fun f vs=>PySem.call f vs):=
 L2.walk_of (n:=63) (k:=17) (x:="_law_script") (CX:=fun _=>CX0) (sp:=fun w=>qek (K w.params)) hn (by decide) hdf ⟨rfl,by decide,by decide,rfl⟩ hY F (fun _ _ a ns hl _ hS=>⟨a,ns,rfl,hS,hl,fun _=>rfl⟩) fun _ _ _ _ _ z=>z
end K68
set_option maxRecDepth 100000 in
set_option maxHeartbeats 0 in
theorem PySem.Challenge.cw_onceroad_k68_twins_and_roads_ahead_holds : PySem.Challenge.rw_onceroad_k68_twins_and_roads_ahead.Holds := by
  w_on; o_law
  refine PySem.W.holds_open (q := K68.Q) (loose := []) (Xt := K68.Xt) (XP := PySem.W.XL K68.Q []) (Yf := PySem.W.Hook.obs K68.Hk) (Ya := PySem.W.Hook.val K68.Hk) (YP := PySem.W.Hook.says (PySem.W.kHook K68.Kf K68.ks K68.ks_eq)) (N := K68.NN) K68.hl (PySem.W.Hook.of K68.Hk) (PySem.W.Hook.keeps K68.Hk) (fun s e => PySem.W.xl_of s (Bool.and_eq_true_iff.mp e).1) PySem.W.XL.keeps (by rfl) (by rfl) (by rfl) (fun s e => PySem.W.recFacts_of (Bool.and_eq_true_iff.mp e).2) (by rfl) (by first | assumption | decide +kernel) (by decide +kernel) ⟨rfl, rfl, rfl, rfl, rfl, by decide +kernel⟩ ?hw ?hc
  (case hw => w_witness2)
  k_fill
  refine K68.walk (l := PySem.Challenge.rw_onceroad_k68_twins_and_roads_ahead) rfl rfl (fun w h Y => PySem.W.kIn_of Y) ?F
  case F =>
    intro w mg fa h KX G hmg
    refine' K68.all_mk KX G hmg ?_ ?_ ?_ ?_ ?_ ?_ ?_ ?_ ?_ ?_ ?_ ?_ ?_ ?_ ?_ ?_ ?_ ?_ ?_ ?_ ?_ ?_ ?_ ?_ ?_ ?_ ?_ ?_ ?_ ?_ ?_ ?_ ?_ ?_ ?_ ?_ ?_ ?_ ?_ ?_ ?_ ?_ ?_ ?_ ?_ ?_ ?_ ?_ ?_ ?_ ?_ ?_ ?_ ?_ ?_ ?_ ?_ ?_ ?_ ?_ ?_ ?_ ?_ ?_ ?_ ?_ ?_ ?_ ?_ ?_ ?_ ?_ ?_ ?_ ?_ ?_ ?_ ?_ ?_ ?_ ?_ ?_ ?_ ?_ ?_ ?_ ?_ ?_ ?_ ?_ ?_ ?_ ?_ ?_ ?_ ?_ ?_ ?_ ?_ ?_ ?_ ?_ ?_ ?_ ?_ ?_ ?_ ?_ ?_ ?_ ?_ ?_ ?_ ?_ ?_ ?_ ?_ ?_ ?_ ?_ ?_ ?_ ?_ ?_ ?_ ?_ ?_ ?_ ?_ ?_ ?_ ?_ ?_ ?_ ?_ ?_ ?_ ?_ ?_ ?_ ?_ ?_ ?_ ?_ ?_ ?_ ?_ ?_ ?_ ?_ ?_ ?_ ?_ ?_ ?_ ?_ ?_ ?_
    any_goals first | k_is | decide
    any_goals first | k_is | decide | exact ⟨_, _, by k_is, L2.fun_mk (by k_is) (by k_is) (by k_is)⟩ | exact ⟨_, _, by k_is, by k_is, L2.fun_mk (by k_is) (by k_is) (by k_is)⟩ | exact ⟨_, _, _, _, _, _, _, _, _, _, _, _, _, _, _, by k_is⟩ | exact ⟨by k_is, by k_is, by k_is, by k_is, by k_is, by k_is, by k_is, by k_is⟩ | fail
