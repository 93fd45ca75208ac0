import PyProof.Rows.All
import Wide.All
import OpenK.AllK
import Wide.FinOn
import PyProof.EqAt
import PyProof.EqKinds
import PyProof.TupleCall
import Lean
import PySem.Challenge.RW_onceroad_k14_plays_written_and_read
set_option Elab.async false
set_option linter.all false
set_option maxRecDepth 100000
namespace L2
open PySem PySem.Spec PyProof.Rows
def qT (s:Stmt) (j:Nat):Stmt:=match s with
 | .ClassDef _ _ _ body _ _ _ _ _ _ _=>body.getD j (.Pass ⟨0,0,0,0⟩)
 | _=>.Pass ⟨0,0,0,0⟩
def qj (s:Stmt):Arguments:=match s with
 | .FunctionDef _ a _ _ _ _ _ _ _ _=>a
 | _=>{ posonlyargs:=[],args:=[],vararg:=none,kwonlyargs:=[],kw_defaults:=[],kwarg:=none,defaults:=[] }
def qi (s:Stmt):List Stmt:=match s with
 | .FunctionDef _ _ b _ _ _ _ _ _ _=>b
 | _=>[]
def qd (s:Stmt):Scope:=match s with
 | .FunctionDef _ _ _ _ _ _ sc _ _ _=>sc
 | _=>{ kind:=.function,names:=[],isGenerator:=false,isCoroutine:=false }
end L2
namespace K14
open PySem L2 PyProof.Rows
def top (i:Nat):Stmt:=PySem.Challenge.pw_onceroad_k14_plays_written_and_read.main.body.getD i (.Pass ⟨0,0,0,0⟩)
abbrev je:Stmt:=qT (top 2) 0
abbrev jw:Stmt:=qT (top 3) 0
abbrev jK:Stmt:=qT (top 4) 0
abbrev jn:Stmt:=qT (top 5) 0
abbrev jL:Stmt:=qT (top 6) 0
abbrev jo:Stmt:=qT (top 7) 0
abbrev jx:Stmt:=qT (top 8) 0
abbrev jy:Stmt:=qT (top 9) 0
abbrev jz:Stmt:=qT (top 10) 0
abbrev jR:Stmt:=top 13
abbrev zq:Stmt:=top 30
abbrev jX:Stmt:=top 31
abbrev jf:Stmt:=top 32
abbrev jM:Stmt:=top 33
abbrev zk:Stmt:=qT (top 29) 0
abbrev zI:Stmt:=top 34
abbrev qZ:Stmt:=qT (top 29) 4
abbrev q9:Stmt:=qT (top 29) 6
abbrev js:Stmt:=qT (top 29) 7
abbrev qL:Stmt:=qT (top 29) 8
abbrev qM:Stmt:=qT (top 29) 12
abbrev qae:Stmt:=top 36
abbrev jY:Stmt:=top 37
abbrev zt:Stmt:=top 38
abbrev zy:Stmt:=top 39
abbrev qaf:Stmt:=top 40
abbrev jG:Stmt:=qT (top 15) 0
abbrev qU:Stmt:=qT (top 15) 2
abbrev jZ:Stmt:=qT (top 15) 3
abbrev j0:Stmt:=qT (top 15) 5
abbrev qX:Stmt:=qT (top 15) 8
abbrev jH:Stmt:=qT (top 15) 9
abbrev jt:Stmt:=qT (top 17) 1
abbrev qF:Stmt:=qT (top 17) 2
abbrev zc:Stmt:=qT (top 17) 3
abbrev j1:Stmt:=qT (top 17) 6
abbrev zA:Stmt:=top 18
abbrev zu:Stmt:=top 41
abbrev j2:Stmt:=top 20
abbrev j3:Stmt:=top 24
abbrev qR:Stmt:=top 21
abbrev zm:Stmt:=top 22
abbrev j4:Stmt:=top 25
abbrev qaX:Stmt:=top 42
abbrev jB:Stmt:=top 44
abbrev zn:Stmt:=top 43
abbrev qag:Stmt:=top 47
abbrev zP:Stmt:=top 45
abbrev qah:Stmt:=top 46
abbrev j5:Stmt:=top 48
abbrev jp:Stmt:=top 49
abbrev zJ:Stmt:=top 50
abbrev qbV:Stmt:=top 51
end K14
namespace Hd
open PySem PySem.W PySem.Calls PyProof.Rows
def qgN (tb:String→Option Builtin) (p:Program) (w:World) (n₀:Nat) (ann:Option Value):Nat→SharedT→Thread→Option SharedT
 | 0,_,_=>none
 | n + 1,s,t=>match through t with
  | true=>some s
  | false=>match stepOk n₀ ann t with
   | false=>none
   | true=>match stepT (denote tb) p w s t with
    | some (s',t')=>qgN tb p w n₀ ann n s' t'
    | none=>none
theorem qfC {tb:String→Option Builtin} {p:Program} {w:World} {n₀:Nat} {ann:Option Value}:∀ {n:Nat} {s s':SharedT} {t:Thread},qgN tb p w n₀ ann n s t=some s'→topRun tb p w n₀ ann n s.abs t=some s'.abs
 | 0,_,_,_,h=>by cases h
 | n + 1,s,s',t,h=>by
  unfold qgN at h
  unfold topRun
  cases he:through t with
  | true=>rw [he] at h;cases h;rfl
  | false =>
   rw [he] at h
   cases hk:stepOk n₀ ann t with
   | false=>rw [hk] at h;cases h
   | true =>
    rw [hk] at h
    cases hs:stepT (denote tb) p w s t with
    | none=>rw [hs] at h;cases h
    | some r=>obtain ⟨s₂,t₂⟩:=r;rw [hs] at h;rw [stepT_spec hs];exact qfC h
def qc5:List Obj→Nat→BT→BT
 | [],_,t=>t
 | o::r,n,t=>qc5 r (n + 1) (t.ins n o)
noncomputable def qfT (P:Params) (os:OsState):SharedT:=⟨qc5 (boot_heap P).objs.toList 0 .nil,(boot_heap P).objs.size,(boot_heap P).life,Array.mk [],boot_drawn,boot_toks,os⟩
theorem boot_abs (P:Params):absHeap (qc5 (boot_heap P).objs.toList 0 .nil) (boot_heap P).objs.size (boot_heap P).life=boot_heap P:=by kernel_rfl
noncomputable def lookT (p q:Program) (Xt:Shared→Bool) {α:Type} (Yf:Shared→α) (N:Nat) (w:World) (os:OsState):=match (boot_heap w.params).isNs mainGlobals&&(Array.mk []:Array GenState).size==0 with
 | true=>(qgN treeTable p w (boot_heap w.params).objs.size ((boot_heap w.params).nsMap mainGlobals "__annotations__") N (qfT w.params os) (topStub p)).bind fun s=>match staticsOk (importedModules p.main.body) (boot_heap w.params) s.abs.heap&&namesBound p s.abs.heap&&gensDone s.abs&&laidKept (boot_heap w.params) s.abs.heap with
   | true=>some (openSeen q [] (importedModules p.main.body) Xt true s.abs,Yf s.abs)
   | false=>none
 | false=>none
theorem left_of {p q:Program} {Xt:Shared→Bool} {α:Type} {Yf:Shared→α} {Ya:World→α} {N:Nat} (e:opening p=plainProg p.main.scope.names) (hN:Nat.ble 600 N=true) (f:∀ s,fenceModules? p s=some s)
  (h:∀ w os,lookT p q Xt Yf N w os=some (openGood q [],Ya w)):LeftO p q [] Xt Yf Ya N:=fun w=>by
 obtain ⟨⟨h0,gs,d,k,os⟩,e1,e2⟩:=Option.map_eq_some_iff.mp (boot_open e hN f w)
 obtain ⟨rfl,rfl,rfl,rfl⟩:h0=boot_heap w.params∧gs=Array.mk []∧d=boot_drawn∧k=boot_toks:=by simpa using e2
 have hh:=h w os
 unfold lookT at hh
 unfold openEnds
 rw [e1]
 show (topFrom treeTable p w N _).map _=_
 unfold topFrom
 dsimp only
 split at hh
 ·rename_i z
  rw [z]
  obtain ⟨s,hs,q2⟩:=Option.bind_eq_some_iff.mp hh
  have r:=qfC hs
  have ba:(qfT w.params os).abs=⟨boot_heap w.params,Array.mk [],boot_drawn,boot_toks,os⟩:=by
   unfold qfT SharedT.abs
   dsimp only
   rw [boot_abs]
  rw [ba] at r
  dsimp only
  rw [r]
  split at q2
  ·rename_i z2
   show ((match staticsOk (importedModules p.main.body) (boot_heap w.params) s.abs.heap&&namesBound p s.abs.heap&&gensDone s.abs&&laidKept (boot_heap w.params) s.abs.heap with | true=>some s.abs | false=>none):Option Shared).map _=_
   rw [z2]
   exact q2
  ·cases q2
 ·cases hh
end Hd
namespace K14
open PySem L2 PyProof.Rows PySem.W
abbrev NN:Nat:=20000
noncomputable def Q:Program:=view PySem.Challenge.pw_onceroad_k14_plays_written_and_read [0,2,3,4,5,6,7,8,9,10,12,13,15,17,18,20,21,22,24,25,27,28,29,30,31,32,33,34,36,37,38,39,40,41,42,43,44,45,46,47,48,49,50,51]
def en (P:Params) (k:Str) (t:Tok) (v:Value):DictEntry:=⟨PyData.keyHash P k,.str k t,v⟩
noncomputable def Kf (P:Params):Frag:=
 (nat_lit 2,(⟨.none,none,.dict #[] 0,#[]⟩:Obj)) ::
 (nat_lit 3,(⟨(.type "dict"),none,.dict #[en P "__name__" 165 (.str "law_onceroad_k14_plays_written_and_read" 862),en P "__doc__" 166 .none,en P "__package__" 167 .none,en P "__loader__" 168 (.builtin "__main__.__loader__#opaque"),en P "__spec__" 169 .none,en P "__annotations__" 170 (.ref 6),en P "__builtins__" 171 (.ref 4),en P "__file__" 173 (.str "/claim/cut.py" 172),en P "__cached__" 174 .none,en P "_wall" 193 (.ref 21),en P "OnceError" 221 (.ref 38),en P "NoName" 246 (.ref 58),en P "Twice" 271 (.ref 77),en P "NoPlace" 296 (.ref 96),en P "NoTie" 321 (.ref 115),en P "TooMany" 346 (.ref 134),en P "NoText" 371 (.ref 153),en P "NoMove" 396 (.ref 172),en P "NoBack" 419 (.ref 191),en P "LONGEST_NAME" 423 (.int 6 422),en P "is_name" 429 (.ref 198),en P "Walk" 526 (.ref 278),en P "Play" 593 (.ref 339),en P "played" 603 (.ref 348),en P "show_walk" 612 (.ref 355),en P "words_from_start" 621 (.ref 362),en P "go_along" 631 (.ref 369),en P "show_play" 640 (.ref 376),en P "read_play" 650 (.ref 383),en P "MOST_PLACES" 654 (.int 14 653),en P "MOST_TIES" 656 (.int 30 655),en P "Web" 815 (.ref 510),en P "has_bit" 823 (.ref 521),en P "is_place" 831 (.ref 528),en P "are_two_places" 840 (.ref 535),en P "numbers_of" 849 (.ref 542),en P "near_of" 861 (.ref 549),en P "_law_cell" 871 (.ref 556),en P "_law_numbers" 884 (.ref 563),en P "_law_names" 890 (.ref 568),en P "_law_ties" 896 (.ref 573),en P "_law_tied" 905 (.ref 580),en P "_law_moves" 911 (.ref 585),en P "_law_row" 923 (.ref 592),en P "_law_spoilt" 936 (.ref 599),en P "_law_first_bad" 947 (.ref 606),en P "_law_made" 957 (.ref 613),en P "_law_read" 967 (.ref 620),en P "_law_told" 978 (.ref 627),en P "_law_goes_on" 990 (.ref 634),en P "_law_both_go_on" 1005 (.ref 641),en P "_law_right" 1021 (.ref 648),en P "law" 1035 (.ref 655)] 53,#[]⟩:Obj)) ::
 (nat_lit 34,(⟨(.type "code"),none,.fields #[(.str "__init__" 208),(.str "OnceError.__init__" 209),(.str "/claim/cut.py" 210),(.int 7 0),(.int 2 0),(.int 0 0),(.int 0 0),(.int 3 0),(.ref 29),(.bool true),(.int 181 0),(.ref 30),.none,(.ref 31),(.ref 32),(.ref 33),(.int 213 0),(.int 7 0),(.str "/claim/cut.py" 214)],#[]⟩:Obj)) ::
 (nat_lit 35,(⟨(.type "function"),none,.func (fnOf "__init__" "OnceError.__init__" (qj je) (qi je) (qd je) .none .none .none (.str "onceroad.errors" 194) none (.ref 34) .none),#[]⟩:Obj)) ::
 (nat_lit 37,(⟨(.type "dict"),none,.dict #[en P "__module__" 203 (.str "onceroad.errors" 194),en P "__firstlineno__" 207 (.int 5 206),en P "__init__" 215 (.ref 35),en P "__static_attributes__" 216 (.ref 36),en P "__weakref__" 218 (.ref 39),en P "__doc__" 219 .none] 3,#[]⟩:Obj)) ::
 (nat_lit 38,(⟨(.type "type"),none,.cls { name:="OnceError",bases:=[(.type "ValueError")],mro:=[(.ref 38),(.type "ValueError"),(.type "Exception"),(.type "BaseException"),(.type "object")],ns:=37,qualname:="OnceError",hasDict:=true,slotNames:=[],subclasses:=[(.ref 58),(.ref 77),(.ref 96),(.ref 115),(.ref 134),(.ref 153),(.ref 172),(.ref 191)],abstract:=false,collection:=none,hasDel:=false },#[(some (.ref 22)),none,(some (.str "OnceError" 196)),(some (.str "OnceError" 204)),(some (.builtin "ValueError.__new__")),(some (.bool true))]⟩:Obj)) ::
 (nat_lit 54,(⟨(.type "code"),none,.fields #[(.str "__init__" 234),(.str "NoName.__init__" 235),(.str "/claim/cut.py" 236),(.int 11 0),(.int 2 0),(.int 0 0),(.int 0 0),(.int 3 0),(.ref 49),(.bool true),(.int 181 0),(.ref 50),.none,(.ref 51),(.ref 52),(.ref 53),(.int 239 0),(.int 11 0),(.str "/claim/cut.py" 240)],#[]⟩:Obj)) ::
 (nat_lit 55,(⟨(.type "function"),none,.func (fnOf "__init__" "NoName.__init__" (qj jw) (qi jw) (qd jw) .none .none .none (.str "onceroad.errors" 194) none (.ref 54) .none),#[]⟩:Obj)) ::
 (nat_lit 57,(⟨(.type "dict"),none,.dict #[en P "__module__" 229 (.str "onceroad.errors" 194),en P "__firstlineno__" 233 (.int 9 232),en P "__init__" 241 (.ref 55),en P "__static_attributes__" 243 (.ref 56),en P "__doc__" 244 .none] 2,#[]⟩:Obj)) ::
 (nat_lit 58,(⟨(.type "type"),none,.cls { name:="NoName",bases:=[(.ref 38)],mro:=[(.ref 58),(.ref 38),(.type "ValueError"),(.type "Exception"),(.type "BaseException"),(.type "object")],ns:=57,qualname:="NoName",hasDict:=true,slotNames:=[],subclasses:=[],abstract:=false,collection:=none,hasDel:=false },#[(some (.ref 42)),none,(some (.str "NoName" 222)),(some (.str "NoName" 230)),(some (.builtin "ValueError.__new__")),(some (.bool true))]⟩:Obj)) ::
 (nat_lit 73,(⟨(.type "code"),none,.fields #[(.str "__init__" 259),(.str "Twice.__init__" 260),(.str "/claim/cut.py" 261),(.int 16 0),(.int 2 0),(.int 0 0),(.int 0 0),(.int 3 0),(.ref 68),(.bool true),(.int 181 0),(.ref 69),.none,(.ref 70),(.ref 71),(.ref 72),(.int 264 0),(.int 16 0),(.str "/claim/cut.py" 265)],#[]⟩:Obj)) ::
 (nat_lit 74,(⟨(.type "function"),none,.func (fnOf "__init__" "Twice.__init__" (qj jK) (qi jK) (qd jK) .none .none .none (.str "onceroad.errors" 194) none (.ref 73) .none),#[]⟩:Obj)) ::
 (nat_lit 76,(⟨(.type "dict"),none,.dict #[en P "__module__" 254 (.str "onceroad.errors" 194),en P "__firstlineno__" 258 (.int 14 257),en P "__init__" 266 (.ref 74),en P "__static_attributes__" 268 (.ref 75),en P "__doc__" 269 .none] 2,#[]⟩:Obj)) ::
 (nat_lit 77,(⟨(.type "type"),none,.cls { name:="Twice",bases:=[(.ref 38)],mro:=[(.ref 77),(.ref 38),(.type "ValueError"),(.type "Exception"),(.type "BaseException"),(.type "object")],ns:=76,qualname:="Twice",hasDict:=true,slotNames:=[],subclasses:=[],abstract:=false,collection:=none,hasDel:=false },#[(some (.ref 61)),none,(some (.str "Twice" 247)),(some (.str "Twice" 255)),(some (.builtin "ValueError.__new__")),(some (.bool true))]⟩:Obj)) ::
 (nat_lit 92,(⟨(.type "code"),none,.fields #[(.str "__init__" 284),(.str "NoPlace.__init__" 285),(.str "/claim/cut.py" 286),(.int 21 0),(.int 2 0),(.int 0 0),(.int 0 0),(.int 3 0),(.ref 87),(.bool true),(.int 181 0),(.ref 88),.none,(.ref 89),(.ref 90),(.ref 91),(.int 289 0),(.int 21 0),(.str "/claim/cut.py" 290)],#[]⟩:Obj)) ::
 (nat_lit 93,(⟨(.type "function"),none,.func (fnOf "__init__" "NoPlace.__init__" (qj jn) (qi jn) (qd jn) .none .none .none (.str "onceroad.errors" 194) none (.ref 92) .none),#[]⟩:Obj)) ::
 (nat_lit 95,(⟨(.type "dict"),none,.dict #[en P "__module__" 279 (.str "onceroad.errors" 194),en P "__firstlineno__" 283 (.int 19 282),en P "__init__" 291 (.ref 93),en P "__static_attributes__" 293 (.ref 94),en P "__doc__" 294 .none] 2,#[]⟩:Obj)) ::
 (nat_lit 96,(⟨(.type "type"),none,.cls { name:="NoPlace",bases:=[(.ref 38)],mro:=[(.ref 96),(.ref 38),(.type "ValueError"),(.type "Exception"),(.type "BaseException"),(.type "object")],ns:=95,qualname:="NoPlace",hasDict:=true,slotNames:=[],subclasses:=[],abstract:=false,collection:=none,hasDel:=false },#[(some (.ref 80)),none,(some (.str "NoPlace" 272)),(some (.str "NoPlace" 280)),(some (.builtin "ValueError.__new__")),(some (.bool true))]⟩:Obj)) ::
 (nat_lit 111,(⟨(.type "code"),none,.fields #[(.str "__init__" 309),(.str "NoTie.__init__" 310),(.str "/claim/cut.py" 311),(.int 26 0),(.int 2 0),(.int 0 0),(.int 0 0),(.int 3 0),(.ref 106),(.bool true),(.int 181 0),(.ref 107),.none,(.ref 108),(.ref 109),(.ref 110),(.int 314 0),(.int 26 0),(.str "/claim/cut.py" 315)],#[]⟩:Obj)) ::
 (nat_lit 112,(⟨(.type "function"),none,.func (fnOf "__init__" "NoTie.__init__" (qj jL) (qi jL) (qd jL) .none .none .none (.str "onceroad.errors" 194) none (.ref 111) .none),#[]⟩:Obj)) ::
 (nat_lit 114,(⟨(.type "dict"),none,.dict #[en P "__module__" 304 (.str "onceroad.errors" 194),en P "__firstlineno__" 308 (.int 24 307),en P "__init__" 316 (.ref 112),en P "__static_attributes__" 318 (.ref 113),en P "__doc__" 319 .none] 2,#[]⟩:Obj)) ::
 (nat_lit 115,(⟨(.type "type"),none,.cls { name:="NoTie",bases:=[(.ref 38)],mro:=[(.ref 115),(.ref 38),(.type "ValueError"),(.type "Exception"),(.type "BaseException"),(.type "object")],ns:=114,qualname:="NoTie",hasDict:=true,slotNames:=[],subclasses:=[],abstract:=false,collection:=none,hasDel:=false },#[(some (.ref 99)),none,(some (.str "NoTie" 297)),(some (.str "NoTie" 305)),(some (.builtin "ValueError.__new__")),(some (.bool true))]⟩:Obj)) ::
 (nat_lit 130,(⟨(.type "code"),none,.fields #[(.str "__init__" 334),(.str "TooMany.__init__" 335),(.str "/claim/cut.py" 336),(.int 31 0),(.int 2 0),(.int 0 0),(.int 0 0),(.int 3 0),(.ref 125),(.bool true),(.int 181 0),(.ref 126),.none,(.ref 127),(.ref 128),(.ref 129),(.int 339 0),(.int 31 0),(.str "/claim/cut.py" 340)],#[]⟩:Obj)) ::
 (nat_lit 131,(⟨(.type "function"),none,.func (fnOf "__init__" "TooMany.__init__" (qj jo) (qi jo) (qd jo) .none .none .none (.str "onceroad.errors" 194) none (.ref 130) .none),#[]⟩:Obj)) ::
 (nat_lit 133,(⟨(.type "dict"),none,.dict #[en P "__module__" 329 (.str "onceroad.errors" 194),en P "__firstlineno__" 333 (.int 29 332),en P "__init__" 341 (.ref 131),en P "__static_attributes__" 343 (.ref 132),en P "__doc__" 344 .none] 2,#[]⟩:Obj)) ::
 (nat_lit 134,(⟨(.type "type"),none,.cls { name:="TooMany",bases:=[(.ref 38)],mro:=[(.ref 134),(.ref 38),(.type "ValueError"),(.type "Exception"),(.type "BaseException"),(.type "object")],ns:=133,qualname:="TooMany",hasDict:=true,slotNames:=[],subclasses:=[],abstract:=false,collection:=none,hasDel:=false },#[(some (.ref 118)),none,(some (.str "TooMany" 322)),(some (.str "TooMany" 330)),(some (.builtin "ValueError.__new__")),(some (.bool true))]⟩:Obj)) ::
 (nat_lit 149,(⟨(.type "code"),none,.fields #[(.str "__init__" 359),(.str "NoText.__init__" 360),(.str "/claim/cut.py" 361),(.int 36 0),(.int 2 0),(.int 0 0),(.int 0 0),(.int 3 0),(.ref 144),(.bool true),(.int 181 0),(.ref 145),.none,(.ref 146),(.ref 147),(.ref 148),(.int 364 0),(.int 36 0),(.str "/claim/cut.py" 365)],#[]⟩:Obj)) ::
 (nat_lit 150,(⟨(.type "function"),none,.func (fnOf "__init__" "NoText.__init__" (qj jx) (qi jx) (qd jx) .none .none .none (.str "onceroad.errors" 194) none (.ref 149) .none),#[]⟩:Obj)) ::
 (nat_lit 152,(⟨(.type "dict"),none,.dict #[en P "__module__" 354 (.str "onceroad.errors" 194),en P "__firstlineno__" 358 (.int 34 357),en P "__init__" 366 (.ref 150),en P "__static_attributes__" 368 (.ref 151),en P "__doc__" 369 .none] 2,#[]⟩:Obj)) ::
 (nat_lit 153,(⟨(.type "type"),none,.cls { name:="NoText",bases:=[(.ref 38)],mro:=[(.ref 153),(.ref 38),(.type "ValueError"),(.type "Exception"),(.type "BaseException"),(.type "object")],ns:=152,qualname:="NoText",hasDict:=true,slotNames:=[],subclasses:=[],abstract:=false,collection:=none,hasDel:=false },#[(some (.ref 137)),none,(some (.str "NoText" 347)),(some (.str "NoText" 355)),(some (.builtin "ValueError.__new__")),(some (.bool true))]⟩:Obj)) ::
 (nat_lit 168,(⟨(.type "code"),none,.fields #[(.str "__init__" 384),(.str "NoMove.__init__" 385),(.str "/claim/cut.py" 386),(.int 41 0),(.int 2 0),(.int 0 0),(.int 0 0),(.int 3 0),(.ref 163),(.bool true),(.int 181 0),(.ref 164),.none,(.ref 165),(.ref 166),(.ref 167),(.int 389 0),(.int 41 0),(.str "/claim/cut.py" 390)],#[]⟩:Obj)) ::
 (nat_lit 169,(⟨(.type "function"),none,.func (fnOf "__init__" "NoMove.__init__" (qj jy) (qi jy) (qd jy) .none .none .none (.str "onceroad.errors" 194) none (.ref 168) .none),#[]⟩:Obj)) ::
 (nat_lit 171,(⟨(.type "dict"),none,.dict #[en P "__module__" 379 (.str "onceroad.errors" 194),en P "__firstlineno__" 383 (.int 39 382),en P "__init__" 391 (.ref 169),en P "__static_attributes__" 393 (.ref 170),en P "__doc__" 394 .none] 2,#[]⟩:Obj)) ::
 (nat_lit 172,(⟨(.type "type"),none,.cls { name:="NoMove",bases:=[(.ref 38)],mro:=[(.ref 172),(.ref 38),(.type "ValueError"),(.type "Exception"),(.type "BaseException"),(.type "object")],ns:=171,qualname:="NoMove",hasDict:=true,slotNames:=[],subclasses:=[],abstract:=false,collection:=none,hasDel:=false },#[(some (.ref 156)),none,(some (.str "NoMove" 372)),(some (.str "NoMove" 380)),(some (.builtin "ValueError.__new__")),(some (.bool true))]⟩:Obj)) ::
 (nat_lit 187,(⟨(.type "code"),none,.fields #[(.str "__init__" 409),(.str "NoBack.__init__" 410),(.str "/claim/cut.py" 411),(.int 46 0),(.int 1 0),(.int 0 0),(.int 0 0),(.int 3 0),(.ref 182),(.bool true),(.int 181 0),(.ref 183),.none,(.ref 184),(.ref 185),(.ref 186),(.int 413 0),(.int 46 0),(.str "/claim/cut.py" 414)],#[]⟩:Obj)) ::
 (nat_lit 188,(⟨(.type "function"),none,.func (fnOf "__init__" "NoBack.__init__" (qj jz) (qi jz) (qd jz) .none .none .none (.str "onceroad.errors" 194) none (.ref 187) .none),#[]⟩:Obj)) ::
 (nat_lit 190,(⟨(.type "dict"),none,.dict #[en P "__module__" 404 (.str "onceroad.errors" 194),en P "__firstlineno__" 408 (.int 44 407),en P "__init__" 415 (.ref 188),en P "__static_attributes__" 416 (.ref 189),en P "__doc__" 417 .none] 2,#[]⟩:Obj)) ::
 (nat_lit 191,(⟨(.type "type"),none,.cls { name:="NoBack",bases:=[(.ref 38)],mro:=[(.ref 191),(.ref 38),(.type "ValueError"),(.type "Exception"),(.type "BaseException"),(.type "object")],ns:=190,qualname:="NoBack",hasDict:=true,slotNames:=[],subclasses:=[],abstract:=false,collection:=none,hasDel:=false },#[(some (.ref 175)),none,(some (.str "NoBack" 397)),(some (.str "NoBack" 405)),(some (.builtin "ValueError.__new__")),(some (.bool true))]⟩:Obj)) ::
 (nat_lit 197,(⟨(.type "code"),none,.fields #[(.str "is_name" 424),(.str "is_name" 425),(.str "/claim/cut.py" 426),(.int 50 0),(.int 1 0),(.int 0 0),(.int 0 0),(.int 3 0),(.ref 194),(.bool true),(.int 181 0),(.ref 195),.none,.none,.none,(.ref 196),(.int 427 0),(.int 50 0),(.str "/claim/cut.py" 428)],#[]⟩:Obj)) ::
 (nat_lit 198,(⟨(.type "function"),none,.func (fnOf "is_name" "is_name" (qj jR) (qi jR) (qd jR) .none .none .none (.str "onceroad.names" 420) none (.ref 197) .none),#[]⟩:Obj)) ::
 (nat_lit 211,(⟨(.type "code"),none,.fields #[(.str "__init__" 444),(.str "Walk.__init__" 445),(.str "/claim/cut.py" 446),(.int 57 0),(.int 3 0),(.int 0 0),(.int 0 0),(.int 3 0),(.ref 206),(.bool true),(.int 181 0),(.ref 207),.none,(.ref 208),(.ref 209),(.ref 210),(.int 450 0),(.int 57 0),(.str "/claim/cut.py" 451)],#[]⟩:Obj)) ::
 (nat_lit 212,(⟨(.type "function"),none,.func (fnOf "__init__" "Walk.__init__" (qj jG) (qi jG) (qd jG) .none .none .none (.str "onceroad.walks" 430) none (.ref 211) .none),#[]⟩:Obj)) ::
 (nat_lit 225,(⟨(.type "code"),none,.fields #[(.str "stands_at" 460),(.str "Walk.stands_at" 461),(.str "/claim/cut.py" 462),(.int 66 0),(.int 1 0),(.int 0 0),(.int 0 0),(.int 3 0),(.ref 220),(.bool true),(.int 181 0),(.ref 221),.none,(.ref 222),(.ref 223),(.ref 224),(.int 464 0),(.int 66 0),(.str "/claim/cut.py" 465)],#[]⟩:Obj)) ::
 (nat_lit 226,(⟨(.type "function"),none,.func (fnOf "stands_at" "Walk.stands_at" (qj qU) (qi qU) (qd qU) .none .none .none (.str "onceroad.walks" 430) none (.ref 225) .none),#[]⟩:Obj)) ::
 (nat_lit 232,(⟨(.type "code"),none,.fields #[(.str "gone" 467),(.str "Walk.gone" 468),(.str "/claim/cut.py" 469),(.int 69 0),(.int 1 0),(.int 0 0),(.int 0 0),(.int 3 0),(.ref 227),(.bool true),(.int 181 0),(.ref 228),.none,(.ref 229),(.ref 230),(.ref 231),(.int 471 0),(.int 69 0),(.str "/claim/cut.py" 472)],#[]⟩:Obj)) ::
 (nat_lit 233,(⟨(.type "function"),none,.func (fnOf "gone" "Walk.gone" (qj jZ) (qi jZ) (qd jZ) .none .none .none (.str "onceroad.walks" 430) none (.ref 232) .none),#[]⟩:Obj)) ::
 (nat_lit 246,(⟨(.type "code"),none,.fields #[(.str "hand" 481),(.str "Walk.hand" 482),(.str "/claim/cut.py" 483),(.int 75 0),(.int 1 0),(.int 0 0),(.int 0 0),(.int 3 0),(.ref 241),(.bool true),(.int 181 0),(.ref 242),.none,(.ref 243),(.ref 244),(.ref 245),(.int 485 0),(.int 75 0),(.str "/claim/cut.py" 486)],#[]⟩:Obj)) ::
 (nat_lit 247,(⟨(.type "function"),none,.func (fnOf "hand" "Walk.hand" (qj j0) (qi j0) (qd j0) .none .none .none (.str "onceroad.walks" 430) none (.ref 246) .none),#[]⟩:Obj)) ::
 (nat_lit 267,(⟨(.type "code"),none,.fields #[(.str "move_to" 502),(.str "Walk.move_to" 503),(.str "/claim/cut.py" 504),(.int 84 0),(.int 2 0),(.int 0 0),(.int 0 0),(.int 3 0),(.ref 262),(.bool true),(.int 181 0),(.ref 263),.none,(.ref 264),(.ref 265),(.ref 266),(.int 507 0),(.int 84 0),(.str "/claim/cut.py" 508)],#[]⟩:Obj)) ::
 (nat_lit 268,(⟨(.type "function"),none,.func (fnOf "move_to" "Walk.move_to" (qj qX) (qi qX) (qd qX) .none .none .none (.str "onceroad.walks" 430) none (.ref 267) .none),#[]⟩:Obj)) ::
 (nat_lit 274,(⟨(.type "code"),none,.fields #[(.str "back" 510),(.str "Walk.back" 511),(.str "/claim/cut.py" 512),(.int 89 0),(.int 1 0),(.int 0 0),(.int 0 0),(.int 3 0),(.ref 269),(.bool true),(.int 181 0),(.ref 270),.none,(.ref 271),(.ref 272),(.ref 273),(.int 514 0),(.int 89 0),(.str "/claim/cut.py" 515)],#[]⟩:Obj)) ::
 (nat_lit 275,(⟨(.type "function"),none,.func (fnOf "back" "Walk.back" (qj jH) (qi jH) (qd jH) .none .none .none (.str "onceroad.walks" 430) none (.ref 274) .none),#[]⟩:Obj)) ::
 (nat_lit 277,(⟨(.type "dict"),none,.dict #[en P "__module__" 439 (.str "onceroad.walks" 430),en P "__firstlineno__" 443 (.int 55 442),en P "__init__" 452 (.ref 212),en P "web" 459 (.ref 219),en P "stands_at" 466 (.ref 226),en P "gone" 473 (.ref 233),en P "moves" 480 (.ref 240),en P "hand" 487 (.ref 247),en P "ended" 494 (.ref 254),en P "loser" 501 (.ref 261),en P "move_to" 509 (.ref 268),en P "back" 516 (.ref 275),en P "__static_attributes__" 519 (.ref 276),en P "__dict__" 521 (.ref 279),en P "__weakref__" 523 (.ref 280),en P "__doc__" 524 .none] 4,#[]⟩:Obj)) ::
 (nat_lit 278,(⟨(.type "type"),none,.cls { name:="Walk",bases:=[(.type "object")],mro:=[(.ref 278),(.type "object")],ns:=277,qualname:="Walk",hasDict:=true,slotNames:=[],subclasses:=[(.ref 339)],abstract:=false,collection:=none,hasDel:=false },#[none,none,(some (.str "Walk" 432)),(some (.str "Walk" 440)),(some (.builtin "object.__new__")),(some (.bool true))]⟩:Obj)) ::
 (nat_lit 302,(⟨(.type "code"),none,.fields #[(.str "moves" 548),(.str "Play.moves" 549),(.str "/claim/cut.py" 550),(.int 99 0),(.int 1 0),(.int 0 0),(.int 0 0),(.int 3 0),(.ref 297),(.bool true),(.int 181 0),(.ref 298),.none,(.ref 299),(.ref 300),(.ref 301),(.int 552 0),(.int 99 0),(.str "/claim/cut.py" 553)],#[]⟩:Obj)) ::
 (nat_lit 303,(⟨(.type "function"),none,.func (fnOf "moves" "Play.moves" (qj jt) (qi jt) (qd jt) .none .none .none (.str "onceroad.plays" 527) none (.ref 302) .none),#[]⟩:Obj)) ::
 (nat_lit 307,(⟨(.type "code"),none,.fields #[(.str "not_gone" 555),(.str "Play.not_gone" 556),(.str "/claim/cut.py" 557),(.int 102 0),(.int 2 0),(.int 0 0),(.int 0 0),(.int 3 0),(.ref 304),(.bool true),(.int 181 0),(.ref 305),.none,.none,.none,(.ref 306),(.int 558 0),(.int 102 0),(.str "/claim/cut.py" 559)],#[]⟩:Obj)) ::
 (nat_lit 308,(⟨(.type "function"),none,.func (fnOf "not_gone" "Play.not_gone" (qj qF) (qi qF) (qd qF) .none .none .none (.str "onceroad.plays" 527) none (.ref 307) .none),#[]⟩:Obj)) ::
 (nat_lit 314,(⟨(.type "code"),none,.fields #[(.str "go" 561),(.str "Play.go" 562),(.str "/claim/cut.py" 563),(.int 105 0),(.int 2 0),(.int 0 0),(.int 0 0),(.int 3 0),(.ref 309),(.bool true),(.int 181 0),(.ref 310),.none,(.ref 311),(.ref 312),(.ref 313),(.int 566 0),(.int 105 0),(.str "/claim/cut.py" 567)],#[]⟩:Obj)) ::
 (nat_lit 315,(⟨(.type "function"),none,.func (fnOf "go" "Play.go" (qj zc) (qi zc) (qd zc) .none .none .none (.str "onceroad.plays" 527) none (.ref 314) .none),#[]⟩:Obj)) ::
 (nat_lit 335,(⟨(.type "code"),none,.fields #[(.str "twin" 583),(.str "Play.twin" 584),(.str "/claim/cut.py" 585),(.int 114 0),(.int 1 0),(.int 0 0),(.int 0 0),(.int 3 0),(.ref 330),(.bool true),(.int 181 0),(.ref 331),.none,(.ref 332),(.ref 333),(.ref 334),(.int 587 0),(.int 114 0),(.str "/claim/cut.py" 588)],#[]⟩:Obj)) ::
 (nat_lit 336,(⟨(.type "function"),none,.func (fnOf "twin" "Play.twin" (qj j1) (qi j1) (qd j1) .none .none .none (.str "onceroad.plays" 527) none (.ref 335) .none),#[]⟩:Obj)) ::
 (nat_lit 338,(⟨(.type "dict"),none,.dict #[en P "__module__" 536 (.str "onceroad.plays" 527),en P "__firstlineno__" 540 (.int 94 539),en P "left" 547 (.ref 296),en P "moves" 554 (.ref 303),en P "not_gone" 560 (.ref 308),en P "go" 568 (.ref 315),en P "web_left" 575 (.ref 322),en P "position" 582 (.ref 329),en P "twin" 589 (.ref 336),en P "__static_attributes__" 590 (.ref 337),en P "__doc__" 591 .none] 2,#[]⟩:Obj)) ::
 (nat_lit 339,(⟨(.type "type"),none,.cls { name:="Play",bases:=[(.ref 278)],mro:=[(.ref 339),(.ref 278),(.type "object")],ns:=338,qualname:="Play",hasDict:=true,slotNames:=[],subclasses:=[],abstract:=false,collection:=none,hasDel:=false },#[(some (.ref 283)),none,(some (.str "Play" 529)),(some (.str "Play" 537)),(some (.builtin "object.__new__")),(some (.bool true))]⟩:Obj)) ::
 (nat_lit 347,(⟨(.type "code"),none,.fields #[(.str "played" 594),(.str "played" 595),(.str "/claim/cut.py" 596),(.int 116 0),(.int 2 0),(.int 0 0),(.int 0 0),(.int 3 0),(.ref 342),(.bool true),(.int 181 0),(.ref 343),.none,(.ref 344),(.ref 345),(.ref 346),(.int 601 0),(.int 116 0),(.str "/claim/cut.py" 602)],#[]⟩:Obj)) ::
 (nat_lit 348,(⟨(.type "function"),none,.func (fnOf "played" "played" (qj zA) (qi zA) (qd zA) .none .none .none (.str "onceroad.plays" 527) none (.ref 347) .none),#[]⟩:Obj)) ::
 (nat_lit 354,(⟨(.type "code"),none,.fields #[(.str "show_walk" 606),(.str "show_walk" 607),(.str "/claim/cut.py" 608),(.int 124 0),(.int 1 0),(.int 0 0),(.int 0 0),(.int 3 0),(.ref 349),(.bool true),(.int 181 0),(.ref 350),.none,(.ref 351),(.ref 352),(.ref 353),(.int 610 0),(.int 124 0),(.str "/claim/cut.py" 611)],#[]⟩:Obj)) ::
 (nat_lit 355,(⟨(.type "function"),none,.func (fnOf "show_walk" "show_walk" (qj j2) (qi j2) (qd j2) .none .none .none (.str "onceroad.walktext" 604) none (.ref 354) .none),#[]⟩:Obj)) ::
 (nat_lit 361,(⟨(.type "code"),none,.fields #[(.str "words_from_start" 613),(.str "words_from_start" 614),(.str "/claim/cut.py" 615),(.int 126 0),(.int 2 0),(.int 0 0),(.int 0 0),(.int 3 0),(.ref 356),(.bool true),(.int 181 0),(.ref 357),.none,(.ref 358),(.ref 359),(.ref 360),(.int 619 0),(.int 126 0),(.str "/claim/cut.py" 620)],#[]⟩:Obj)) ::
 (nat_lit 362,(⟨(.type "function"),none,.func (fnOf "words_from_start" "words_from_start" (qj qR) (qi qR) (qd qR) .none .none .none (.str "onceroad.walktext" 604) none (.ref 361) .none),#[]⟩:Obj)) ::
 (nat_lit 368,(⟨(.type "code"),none,.fields #[(.str "go_along" 622),(.str "go_along" 623),(.str "/claim/cut.py" 624),(.int 133 0),(.int 2 0),(.int 0 0),(.int 0 0),(.int 3 0),(.ref 363),(.bool true),(.int 181 0),(.ref 364),.none,(.ref 365),(.ref 366),(.ref 367),(.int 629 0),(.int 133 0),(.str "/claim/cut.py" 630)],#[]⟩:Obj)) ::
 (nat_lit 369,(⟨(.type "function"),none,.func (fnOf "go_along" "go_along" (qj zm) (qi zm) (qd zm) .none .none .none (.str "onceroad.walktext" 604) none (.ref 368) .none),#[]⟩:Obj)) ::
 (nat_lit 375,(⟨(.type "code"),none,.fields #[(.str "show_play" 634),(.str "show_play" 635),(.str "/claim/cut.py" 636),(.int 139 0),(.int 1 0),(.int 0 0),(.int 0 0),(.int 3 0),(.ref 370),(.bool true),(.int 181 0),(.ref 371),.none,(.ref 372),(.ref 373),(.ref 374),(.int 638 0),(.int 139 0),(.str "/claim/cut.py" 639)],#[]⟩:Obj)) ::
 (nat_lit 376,(⟨(.type "function"),none,.func (fnOf "show_play" "show_play" (qj j3) (qi j3) (qd j3) .none .none .none (.str "onceroad.playtext" 632) none (.ref 375) .none),#[]⟩:Obj)) ::
 (nat_lit 382,(⟨(.type "code"),none,.fields #[(.str "read_play" 641),(.str "read_play" 642),(.str "/claim/cut.py" 643),(.int 141 0),(.int 2 0),(.int 0 0),(.int 0 0),(.int 3 0),(.ref 377),(.bool true),(.int 181 0),(.ref 378),.none,(.ref 379),(.ref 380),(.ref 381),(.int 648 0),(.int 141 0),(.str "/claim/cut.py" 649)],#[]⟩:Obj)) ::
 (nat_lit 383,(⟨(.type "function"),none,.func (fnOf "read_play" "read_play" (qj j4) (qi j4) (qd j4) .none .none .none (.str "onceroad.playtext" 632) none (.ref 382) .none),#[]⟩:Obj)) ::
 (nat_lit 396,(⟨(.type "code"),none,.fields #[(.str "__init__" 669),(.str "Web.__init__" 670),(.str "/claim/cut.py" 671),(.int 151 0),(.int 3 0),(.int 0 0),(.int 0 0),(.int 3 0),(.ref 391),(.bool true),(.int 181 0),(.ref 392),.none,(.ref 393),(.ref 394),(.ref 395),(.int 675 0),(.int 151 0),(.str "/claim/cut.py" 676)],#[]⟩:Obj)) ::
 (nat_lit 397,(⟨(.type "function"),none,.func (fnOf "__init__" "Web.__init__" (qj zk) (qi zk) (qd zk) .none .none .none (.str "onceroad.webs" 651) none (.ref 396) .none),#[]⟩:Obj)) ::
 (nat_lit 424,(⟨(.type "code"),none,.fields #[(.str "has_place" 702),(.str "Web.has_place" 703),(.str "/claim/cut.py" 704),(.int 170 0),(.int 2 0),(.int 0 0),(.int 0 0),(.int 3 0),(.ref 419),(.bool true),(.int 181 0),(.ref 420),.none,(.ref 421),(.ref 422),(.ref 423),(.int 707 0),(.int 170 0),(.str "/claim/cut.py" 708)],#[]⟩:Obj)) ::
 (nat_lit 425,(⟨(.type "function"),none,.func (fnOf "has_place" "Web.has_place" (qj qZ) (qi qZ) (qd qZ) .none .none .none (.str "onceroad.webs" 651) none (.ref 424) .none),#[]⟩:Obj)) ::
 (nat_lit 438,(⟨(.type "code"),none,.fields #[(.str "number_of" 718),(.str "Web.number_of" 719),(.str "/claim/cut.py" 720),(.int 176 0),(.int 2 0),(.int 0 0),(.int 0 0),(.int 3 0),(.ref 433),(.bool true),(.int 181 0),(.ref 434),.none,(.ref 435),(.ref 436),(.ref 437),(.int 723 0),(.int 176 0),(.str "/claim/cut.py" 724)],#[]⟩:Obj)) ::
 (nat_lit 439,(⟨(.type "function"),none,.func (fnOf "number_of" "Web.number_of" (qj q9) (qi q9) (qd q9) .none .none .none (.str "onceroad.webs" 651) none (.ref 438) .none),#[]⟩:Obj)) ::
 (nat_lit 445,(⟨(.type "code"),none,.fields #[(.str "beside" 726),(.str "Web.beside" 727),(.str "/claim/cut.py" 728),(.int 181 0),(.int 2 0),(.int 0 0),(.int 0 0),(.int 3 0),(.ref 440),(.bool true),(.int 181 0),(.ref 441),.none,(.ref 442),(.ref 443),(.ref 444),(.int 731 0),(.int 181 0),(.str "/claim/cut.py" 732)],#[]⟩:Obj)) ::
 (nat_lit 446,(⟨(.type "function"),none,.func (fnOf "beside" "Web.beside" (qj js) (qi js) (qd js) .none .none .none (.str "onceroad.webs" 651) none (.ref 445) .none),#[]⟩:Obj)) ::
 (nat_lit 452,(⟨(.type "code"),none,.fields #[(.str "bits_beside" 734),(.str "Web.bits_beside" 735),(.str "/claim/cut.py" 736),(.int 184 0),(.int 2 0),(.int 0 0),(.int 0 0),(.int 3 0),(.ref 447),(.bool true),(.int 181 0),(.ref 448),.none,(.ref 449),(.ref 450),(.ref 451),(.int 739 0),(.int 184 0),(.str "/claim/cut.py" 740)],#[]⟩:Obj)) ::
 (nat_lit 453,(⟨(.type "function"),none,.func (fnOf "bits_beside" "Web.bits_beside" (qj qL) (qi qL) (qd qL) .none .none .none (.str "onceroad.webs" 651) none (.ref 452) .none),#[]⟩:Obj)) ::
 (nat_lit 478,(⟨(.type "code"),none,.fields #[(.str "names_in" 765),(.str "Web.names_in" 766),(.str "/claim/cut.py" 767),(.int 196 0),(.int 2 0),(.int 0 0),(.int 0 0),(.int 3 0),(.ref 475),(.bool true),(.int 181 0),(.ref 476),.none,.none,.none,(.ref 477),(.int 768 0),(.int 196 0),(.str "/claim/cut.py" 769)],#[]⟩:Obj)) ::
 (nat_lit 479,(⟨(.type "function"),none,.func (fnOf "names_in" "Web.names_in" (qj qM) (qi qM) (qd qM) .none .none .none (.str "onceroad.webs" 651) none (.ref 478) .none),#[]⟩:Obj)) ::
 (nat_lit 509,(⟨(.type "dict"),none,.dict #[en P "__module__" 664 (.str "onceroad.webs" 651),en P "__firstlineno__" 668 (.int 149 667),en P "__init__" 677 (.ref 397),en P "places" 684 (.ref 404),en P "ties" 694 (.ref 411),en P "how_many" 701 (.ref 418),en P "has_place" 709 (.ref 425),en P "has_tie" 717 (.ref 432),en P "number_of" 725 (.ref 439),en P "beside" 733 (.ref 446),en P "bits_beside" 741 (.ref 453),en P "tied" 750 (.ref 460),en P "pieces" 757 (.ref 467),en P "told" 764 (.ref 474),en P "names_in" 770 (.ref 479),en P "without" 778 (.ref 486),en P "with_place" 786 (.ref 493),en P "with_tie" 795 (.ref 500),en P "without_tie" 804 (.ref 507),en P "__static_attributes__" 808 (.ref 508),en P "__dict__" 810 (.ref 511),en P "__weakref__" 812 (.ref 512),en P "__doc__" 813 .none] 4,#[]⟩:Obj)) ::
 (nat_lit 510,(⟨(.type "type"),none,.cls { name:="Web",bases:=[(.type "object")],mro:=[(.ref 510),(.type "object")],ns:=509,qualname:="Web",hasDict:=true,slotNames:=[],subclasses:=[],abstract:=false,collection:=none,hasDel:=false },#[none,none,(some (.str "Web" 657)),(some (.str "Web" 665)),(some (.builtin "object.__new__")),(some (.bool true))]⟩:Obj)) ::
 (nat_lit 520,(⟨(.type "code"),none,.fields #[(.str "has_bit" 816),(.str "has_bit" 817),(.str "/claim/cut.py" 818),(.int 210 0),(.int 2 0),(.int 0 0),(.int 0 0),(.int 3 0),(.ref 515),(.bool true),(.int 181 0),(.ref 516),.none,(.ref 517),(.ref 518),(.ref 519),(.int 821 0),(.int 210 0),(.str "/claim/cut.py" 822)],#[]⟩:Obj)) ::
 (nat_lit 521,(⟨(.type "function"),none,.func (fnOf "has_bit" "has_bit" (qj zq) (qi zq) (qd zq) .none .none .none (.str "onceroad.webs" 651) none (.ref 520) .none),#[]⟩:Obj)) ::
 (nat_lit 527,(⟨(.type "code"),none,.fields #[(.str "is_place" 824),(.str "is_place" 825),(.str "/claim/cut.py" 826),(.int 212 0),(.int 2 0),(.int 0 0),(.int 0 0),(.int 3 0),(.ref 522),(.bool true),(.int 181 0),(.ref 523),.none,(.ref 524),(.ref 525),(.ref 526),(.int 829 0),(.int 212 0),(.str "/claim/cut.py" 830)],#[]⟩:Obj)) ::
 (nat_lit 528,(⟨(.type "function"),none,.func (fnOf "is_place" "is_place" (qj jX) (qi jX) (qd jX) .none .none .none (.str "onceroad.webs" 651) none (.ref 527) .none),#[]⟩:Obj)) ::
 (nat_lit 534,(⟨(.type "code"),none,.fields #[(.str "are_two_places" 832),(.str "are_two_places" 833),(.str "/claim/cut.py" 834),(.int 214 0),(.int 2 0),(.int 0 0),(.int 0 0),(.int 3 0),(.ref 529),(.bool true),(.int 181 0),(.ref 530),.none,(.ref 531),(.ref 532),(.ref 533),(.int 838 0),(.int 214 0),(.str "/claim/cut.py" 839)],#[]⟩:Obj)) ::
 (nat_lit 535,(⟨(.type "function"),none,.func (fnOf "are_two_places" "are_two_places" (qj jf) (qi jf) (qd jf) .none .none .none (.str "onceroad.webs" 651) none (.ref 534) .none),#[]⟩:Obj)) ::
 (nat_lit 541,(⟨(.type "code"),none,.fields #[(.str "numbers_of" 841),(.str "numbers_of" 842),(.str "/claim/cut.py" 843),(.int 219 0),(.int 1 0),(.int 0 0),(.int 0 0),(.int 3 0),(.ref 536),(.bool true),(.int 181 0),(.ref 537),.none,(.ref 538),(.ref 539),(.ref 540),(.int 847 0),(.int 219 0),(.str "/claim/cut.py" 848)],#[]⟩:Obj)) ::
 (nat_lit 542,(⟨(.type "function"),none,.func (fnOf "numbers_of" "numbers_of" (qj jM) (qi jM) (qd jM) .none .none .none (.str "onceroad.webs" 651) none (.ref 541) .none),#[]⟩:Obj)) ::
 (nat_lit 548,(⟨(.type "code"),none,.fields #[(.str "near_of" 850),(.str "near_of" 851),(.str "/claim/cut.py" 852),(.int 232 0),(.int 2 0),(.int 0 0),(.int 0 0),(.int 3 0),(.ref 543),(.bool true),(.int 181 0),(.ref 544),.none,(.ref 545),(.ref 546),(.ref 547),(.int 859 0),(.int 232 0),(.str "/claim/cut.py" 860)],#[]⟩:Obj)) ::
 (nat_lit 549,(⟨(.type "function"),none,.func (fnOf "near_of" "near_of" (qj zI) (qi zI) (qd zI) .none .none .none (.str "onceroad.webs" 651) none (.ref 548) .none),#[]⟩:Obj)) ::
 (nat_lit 555,(⟨(.type "code"),none,.fields #[(.str "_law_cell" 864),(.str "_law_cell" 865),(.str "/claim/cut.py" 866),(.int 249 0),(.int 2 0),(.int 0 0),(.int 0 0),(.int 3 0),(.ref 550),(.bool true),(.int 181 0),(.ref 551),.none,(.ref 552),(.ref 553),(.ref 554),(.int 869 0),(.int 249 0),(.str "/claim/cut.py" 870)],#[]⟩:Obj)) ::
 (nat_lit 556,(⟨(.type "function"),none,.func (fnOf "_law_cell" "_law_cell" (qj qae) (qi qae) (qd qae) .none .none .none (.str "law_onceroad_k14_plays_written_and_read" 862) none (.ref 555) .none),#[]⟩:Obj)) ::
 (nat_lit 562,(⟨(.type "code"),none,.fields #[(.str "_law_numbers" 872),(.str "_law_numbers" 873),(.str "/claim/cut.py" 874),(.int 253 0),(.int 3 0),(.int 0 0),(.int 0 0),(.int 3 0),(.ref 557),(.bool true),(.int 181 0),(.ref 558),.none,(.ref 559),(.ref 560),(.ref 561),(.int 882 0),(.int 253 0),(.str "/claim/cut.py" 883)],#[]⟩:Obj)) ::
 (nat_lit 563,(⟨(.type "function"),none,.func (fnOf "_law_numbers" "_law_numbers" (qj jY) (qi jY) (qd jY) .none .none .none (.str "law_onceroad_k14_plays_written_and_read" 862) none (.ref 562) .none),#[]⟩:Obj)) ::
 (nat_lit 567,(⟨(.type "code"),none,.fields #[(.str "_law_names" 885),(.str "_law_names" 886),(.str "/claim/cut.py" 887),(.int 265 0),(.int 1 0),(.int 0 0),(.int 0 0),(.int 3 0),(.ref 564),(.bool true),(.int 181 0),(.ref 565),.none,.none,.none,(.ref 566),(.int 888 0),(.int 265 0),(.str "/claim/cut.py" 889)],#[]⟩:Obj)) ::
 (nat_lit 568,(⟨(.type "function"),none,.func (fnOf "_law_names" "_law_names" (qj zt) (qi zt) (qd zt) .none .none .none (.str "law_onceroad_k14_plays_written_and_read" 862) none (.ref 567) .none),#[]⟩:Obj)) ::
 (nat_lit 572,(⟨(.type "code"),none,.fields #[(.str "_law_ties" 891),(.str "_law_ties" 892),(.str "/claim/cut.py" 893),(.int 273 0),(.int 2 0),(.int 0 0),(.int 0 0),(.int 3 0),(.ref 569),(.bool true),(.int 181 0),(.ref 570),.none,.none,.none,(.ref 571),(.int 894 0),(.int 273 0),(.str "/claim/cut.py" 895)],#[]⟩:Obj)) ::
 (nat_lit 573,(⟨(.type "function"),none,.func (fnOf "_law_ties" "_law_ties" (qj zy) (qi zy) (qd zy) .none .none .none (.str "law_onceroad_k14_plays_written_and_read" 862) none (.ref 572) .none),#[]⟩:Obj)) ::
 (nat_lit 579,(⟨(.type "code"),none,.fields #[(.str "_law_tied" 897),(.str "_law_tied" 898),(.str "/claim/cut.py" 899),(.int 285 0),(.int 3 0),(.int 0 0),(.int 0 0),(.int 3 0),(.ref 574),(.bool true),(.int 181 0),(.ref 575),.none,(.ref 576),(.ref 577),(.ref 578),(.int 903 0),(.int 285 0),(.str "/claim/cut.py" 904)],#[]⟩:Obj)) ::
 (nat_lit 580,(⟨(.type "function"),none,.func (fnOf "_law_tied" "_law_tied" (qj qaf) (qi qaf) (qd qaf) .none .none .none (.str "law_onceroad_k14_plays_written_and_read" 862) none (.ref 579) .none),#[]⟩:Obj)) ::
 (nat_lit 584,(⟨(.type "code"),none,.fields #[(.str "_law_moves" 906),(.str "_law_moves" 907),(.str "/claim/cut.py" 908),(.int 287 0),(.int 3 0),(.int 0 0),(.int 0 0),(.int 3 0),(.ref 581),(.bool true),(.int 181 0),(.ref 582),.none,.none,.none,(.ref 583),(.int 909 0),(.int 287 0),(.str "/claim/cut.py" 910)],#[]⟩:Obj)) ::
 (nat_lit 585,(⟨(.type "function"),none,.func (fnOf "_law_moves" "_law_moves" (qj zu) (qi zu) (qd zu) .none .none .none (.str "law_onceroad_k14_plays_written_and_read" 862) none (.ref 584) .none),#[]⟩:Obj)) ::
 (nat_lit 591,(⟨(.type "code"),none,.fields #[(.str "_law_row" 912),(.str "_law_row" 913),(.str "/claim/cut.py" 914),(.int 289 0),(.int 3 0),(.int 0 0),(.int 0 0),(.int 3 0),(.ref 586),(.bool true),(.int 181 0),(.ref 587),.none,(.ref 588),(.ref 589),(.ref 590),(.int 921 0),(.int 289 0),(.str "/claim/cut.py" 922)],#[]⟩:Obj)) ::
 (nat_lit 592,(⟨(.type "function"),none,.func (fnOf "_law_row" "_law_row" (qj qaX) (qi qaX) (qd qaX) .none .none .none (.str "law_onceroad_k14_plays_written_and_read" 862) none (.ref 591) .none),#[]⟩:Obj)) ::
 (nat_lit 598,(⟨(.type "code"),none,.fields #[(.str "_law_spoilt" 924),(.str "_law_spoilt" 925),(.str "/claim/cut.py" 926),(.int 296 0),(.int 5 0),(.int 0 0),(.int 0 0),(.int 3 0),(.ref 593),(.bool true),(.int 181 0),(.ref 594),.none,(.ref 595),(.ref 596),(.ref 597),(.int 934 0),(.int 296 0),(.str "/claim/cut.py" 935)],#[]⟩:Obj)) ::
 (nat_lit 599,(⟨(.type "function"),none,.func (fnOf "_law_spoilt" "_law_spoilt" (qj zn) (qi zn) (qd zn) .none .none .none (.str "law_onceroad_k14_plays_written_and_read" 862) none (.ref 598) .none),#[]⟩:Obj)) ::
 (nat_lit 605,(⟨(.type "code"),none,.fields #[(.str "_law_first_bad" 937),(.str "_law_first_bad" 938),(.str "/claim/cut.py" 939),(.int 314 0),(.int 3 0),(.int 0 0),(.int 0 0),(.int 3 0),(.ref 600),(.bool true),(.int 181 0),(.ref 601),.none,(.ref 602),(.ref 603),(.ref 604),(.int 945 0),(.int 314 0),(.str "/claim/cut.py" 946)],#[]⟩:Obj)) ::
 (nat_lit 606,(⟨(.type "function"),none,.func (fnOf "_law_first_bad" "_law_first_bad" (qj jB) (qi jB) (qd jB) .none .none .none (.str "law_onceroad_k14_plays_written_and_read" 862) none (.ref 605) .none),#[]⟩:Obj)) ::
 (nat_lit 612,(⟨(.type "code"),none,.fields #[(.str "_law_made" 948),(.str "_law_made" 949),(.str "/claim/cut.py" 950),(.int 321 0),(.int 2 0),(.int 0 0),(.int 0 0),(.int 3 0),(.ref 607),(.bool true),(.int 181 0),(.ref 608),.none,(.ref 609),(.ref 610),(.ref 611),(.int 955 0),(.int 321 0),(.str "/claim/cut.py" 956)],#[]⟩:Obj)) ::
 (nat_lit 613,(⟨(.type "function"),none,.func (fnOf "_law_made" "_law_made" (qj zP) (qi zP) (qd zP) .none .none .none (.str "law_onceroad_k14_plays_written_and_read" 862) none (.ref 612) .none),#[]⟩:Obj)) ::
 (nat_lit 619,(⟨(.type "code"),none,.fields #[(.str "_law_read" 958),(.str "_law_read" 959),(.str "/claim/cut.py" 960),(.int 330 0),(.int 2 0),(.int 0 0),(.int 0 0),(.int 3 0),(.ref 614),(.bool true),(.int 181 0),(.ref 615),.none,(.ref 616),(.ref 617),(.ref 618),(.int 965 0),(.int 330 0),(.str "/claim/cut.py" 966)],#[]⟩:Obj)) ::
 (nat_lit 620,(⟨(.type "function"),none,.func (fnOf "_law_read" "_law_read" (qj qah) (qi qah) (qd qah) .none .none .none (.str "law_onceroad_k14_plays_written_and_read" 862) none (.ref 619) .none),#[]⟩:Obj)) ::
 (nat_lit 626,(⟨(.type "code"),none,.fields #[(.str "_law_told" 968),(.str "_law_told" 969),(.str "/claim/cut.py" 970),(.int 337 0),(.int 3 0),(.int 0 0),(.int 0 0),(.int 3 0),(.ref 621),(.bool true),(.int 181 0),(.ref 622),.none,(.ref 623),(.ref 624),(.ref 625),(.int 976 0),(.int 337 0),(.str "/claim/cut.py" 977)],#[]⟩:Obj)) ::
 (nat_lit 627,(⟨(.type "function"),none,.func (fnOf "_law_told" "_law_told" (qj qag) (qi qag) (qd qag) .none .none .none (.str "law_onceroad_k14_plays_written_and_read" 862) none (.ref 626) .none),#[]⟩:Obj)) ::
 (nat_lit 633,(⟨(.type "code"),none,.fields #[(.str "_law_goes_on" 979),(.str "_law_goes_on" 980),(.str "/claim/cut.py" 981),(.int 342 0),(.int 4 0),(.int 0 0),(.int 0 0),(.int 3 0),(.ref 628),(.bool true),(.int 181 0),(.ref 629),.none,(.ref 630),(.ref 631),(.ref 632),(.int 988 0),(.int 342 0),(.str "/claim/cut.py" 989)],#[]⟩:Obj)) ::
 (nat_lit 634,(⟨(.type "function"),none,.func (fnOf "_law_goes_on" "_law_goes_on" (qj j5) (qi j5) (qd j5) .none .none .none (.str "law_onceroad_k14_plays_written_and_read" 862) none (.ref 633) .none),#[]⟩:Obj)) ::
 (nat_lit 640,(⟨(.type "code"),none,.fields #[(.str "_law_both_go_on" 991),(.str "_law_both_go_on" 992),(.str "/claim/cut.py" 993),(.int 356 0),(.int 4 0),(.int 0 0),(.int 0 0),(.int 3 0),(.ref 635),(.bool true),(.int 181 0),(.ref 636),.none,(.ref 637),(.ref 638),(.ref 639),(.int 1003 0),(.int 356 0),(.str "/claim/cut.py" 1004)],#[]⟩:Obj)) ::
 (nat_lit 641,(⟨(.type "function"),none,.func (fnOf "_law_both_go_on" "_law_both_go_on" (qj jp) (qi jp) (qd jp) .none .none .none (.str "law_onceroad_k14_plays_written_and_read" 862) none (.ref 640) .none),#[]⟩:Obj)) ::
 (nat_lit 647,(⟨(.type "code"),none,.fields #[(.str "_law_right" 1006),(.str "_law_right" 1007),(.str "/claim/cut.py" 1008),(.int 370 0),(.int 4 0),(.int 0 0),(.int 0 0),(.int 3 0),(.ref 642),(.bool true),(.int 181 0),(.ref 643),.none,(.ref 644),(.ref 645),(.ref 646),(.int 1019 0),(.int 370 0),(.str "/claim/cut.py" 1020)],#[]⟩:Obj)) ::
 (nat_lit 648,(⟨(.type "function"),none,.func (fnOf "_law_right" "_law_right" (qj zJ) (qi zJ) (qd zJ) .none .none .none (.str "law_onceroad_k14_plays_written_and_read" 862) none (.ref 647) .none),#[]⟩:Obj)) ::
 (nat_lit 654,(⟨(.type "code"),none,.fields #[(.str "law" 1022),(.str "law" 1023),(.str "/claim/cut.py" 1024),(.int 391 0),(.int 1 0),(.int 0 0),(.int 0 0),(.int 3 0),(.ref 649),(.bool true),(.int 181 0),(.ref 650),.none,(.ref 651),(.ref 652),(.ref 653),(.int 1033 0),(.int 391 0),(.str "/claim/cut.py" 1034)],#[]⟩:Obj)) ::
 (nat_lit 655,(⟨(.type "function"),none,.func (fnOf "law" "law" (qj qbV) (qi qbV) (qd qbV) .none .none .none (.str "law_onceroad_k14_plays_written_and_read" 862) none (.ref 654) .none),#[]⟩:Obj)) ::
 []
def ks:List Addr:=[2,3,34,35,37,38,54,55,57,58,73,74,76,77,92,93,95,96,111,112,114,115,130,131,133,134,149,150,152,153,168,169,171,172,187,188,190,191,197,198,211,212,225,226,232,233,246,247,267,268,274,275,277,278,302,303,307,308,314,315,335,336,338,339,347,348,354,355,361,362,368,369,375,376,382,383,396,397,424,425,438,439,445,446,452,453,478,479,509,510,520,521,527,528,534,535,541,542,548,549,555,556,562,563,567,568,572,573,579,580,584,585,591,592,598,599,605,606,612,613,619,620,626,627,633,634,640,641,647,648,654,655]
theorem ks_eq:∀ P,ks=(Kf P).map (·.1):=fun P=>by kernel_rfl
noncomputable abbrev Hk:Hook:=kHook Kf ks ks_eq
noncomputable abbrev Xt (s:Shared):Bool:=xlAt Q [] s&&recOk [] s
noncomputable def runAt (w:World) (os:OsState):=Hd.lookT PySem.Challenge.pw_onceroad_k14_plays_written_and_read Q Xt (fun s=>ks.map s.heap.get?) NN w os
noncomputable def goodAt (w:World) (_:OsState):=some (openGood Q [],(Kf w.params).map fun p=>some p.2)
def tag {α:Type} (f g:World→OsState→α):Bool:=true
theorem tag1:tag runAt goodAt=true:=by k_qdec
theorem hl1 (w:World) (os:OsState):runAt w os=goodAt w os:=by
 rw [PySem.W.Fast.te9435851939246704213,PySem.W.Fast.te7491808072027791737]
 kernel_rfl
theorem hl:LeftO PySem.Challenge.pw_onceroad_k14_plays_written_and_read Q [] Xt (Hook.obs Hk) (Hook.val Hk) NN:=Hd.left_of (by kernel_rfl) (by decide) (fun s=>by kernel_rfl) fun w os=>hl1 w os
end K14
namespace L2
open PySem PySem.Spec PyProof.Rows
abbrev Key:=Sum Int Str
def qcF:Key→Value→Bool
 | .inl k,v=>Value.isInt k v
 | .inr x,v=>Value.isStrOf x v
def keyH (w:World):Key→Int
 | .inl k=>hashInt k
 | .inr x=>hashStr w x
theorem jh:∀ {k:Key} {v:Value},qcF k v=true→(∃ i t,k=Sum.inl i∧v=Value.int i t)∨(∃ x t,k=Sum.inr x∧v=Value.str x t)
 | .inl i,v,h=>by
  obtain ⟨t,e⟩:=Value.isInt_shape (k:=i) (v:=v) h
  exact .inl ⟨i,t,rfl,e⟩
 | .inr x,v,h=>by
  obtain ⟨t,e⟩:=Value.isStrOf_shape (x:=x) (v:=v) h
  exact .inr ⟨x,t,rfl,e⟩
theorem keyIs_int (i:Int) (t:Tok):qcF (.inl i) (.int i t)=true:=by simp [qcF,Value.isInt]
theorem keyIs_str (x:Str) (t:Tok):qcF (.inr x) (.str x t)=true:=by simp [qcF,Value.isStrOf]
theorem key_ll (a b:Int):decide ((Sum.inl a:Key)=Sum.inl b)=(a==b):=by
 by_cases e:a=b
 ·subst e;simp
 ·have h:¬ (Sum.inl a:Key)=Sum.inl b:=fun q=>e (Sum.inl.inj q)
  rw [decide_eq_false h]
  exact (beq_eq_false_iff_ne.mpr e).symm
theorem key_rr (a b:Str):decide ((Sum.inr a:Key)=Sum.inr b)=decide (a=b):=by
 by_cases e:a=b
 ·subst e;simp
 ·have h:¬ (Sum.inr a:Key)=Sum.inr b:=fun q=>e (Sum.inr.inj q)
  rw [decide_eq_false h,decide_eq_false e]
theorem key_lr (a:Int) (b:Str):decide ((Sum.inl a:Key)=Sum.inr b)=false:=decide_eq_false (fun q=>nomatch q)
theorem key_rl (a:Str) (b:Int):decide ((Sum.inr a:Key)=Sum.inl b)=false:=decide_eq_false (fun q=>nomatch q)
def jD (prog:Program) (w:World):PySem.KeyKind prog w Key where
 is:=qcF
 hash:=keyH w
 inj:=fun v a b ha hb=>by
  rcases jh ha with ⟨i,t,rfl,rfl⟩ | ⟨x,t,rfl,rfl⟩
  ·rcases jh hb with ⟨j,u,rfl,e⟩ | ⟨y,u,rfl,e⟩
   ·injection e with e1 _;rw [e1]
   ·exact nomatch e
  ·rcases jh hb with ⟨j,u,rfl,e⟩ | ⟨y,u,rfl,e⟩
   ·exact nomatch e
   ·injection e with e1 _;rw [e1]
 byValue:=fun k v h=>by
  rcases jh h with ⟨i,t,rfl,rfl⟩ | ⟨x,t,rfl,rfl⟩<;>rfl
 pyHash:=fun hv h=>by
  rcases jh hv with ⟨i,t,rfl,rfl⟩ | ⟨x,t,rfl,rfl⟩
  ·exact wpAny_pyHash_int h
  ·exact wpAny_pyHash_str h
 eqBool:=fun hu hv h=>by
  rcases jh hu with ⟨i,t,rfl,rfl⟩ | ⟨x,t,rfl,rfl⟩
  ·rcases jh hv with ⟨j,u,rfl,rfl⟩ | ⟨y,u,rfl,rfl⟩
   ·rw [key_ll] at h;exact wpAny_eqBool_int h
   ·rw [key_lr] at h;exact SeqAt.EqAt.int_str i t y u _ _ _ _ h
  ·rcases jh hv with ⟨j,u,rfl,rfl⟩ | ⟨y,u,rfl,rfl⟩
   ·rw [key_rl] at h;exact SeqAt.EqAt.str_int x t j u _ _ _ _ h
   ·rw [key_rr] at h;exact wpAny_eqBool_str h
 «strs»:=fun k x t v h=>by
  rcases jh h with ⟨i,u,rfl,e⟩ | ⟨y,u,rfl,e⟩
  ·exact nomatch e
  ·injection e with e1 _
   subst e1
   cases v<;>rfl
theorem mixKind_int (prog:Program) (w:World) (i:Int) (t:Tok):(jD prog w).is (.inl i) (.int i t)=true:=keyIs_int i t
theorem mixKind_str (prog:Program) (w:World) (x:Str) (t:Tok):(jD prog w).is (.inr x) (.str x t)=true:=keyIs_str x t
inductive V where
 | non | bl (b:Bool) | int (i:Int) | str (x:Str) | byt (b:Array UInt8) | flt (b:UInt64) | ref (a:Addr) | ty (n:String)
 deriving DecidableEq
def RelV:V→Value→Prop
 | .non,u=>u=Value.none
 | .bl b,u=>u=Value.bool b
 | .int i,u=>∃ t,u=Value.int i t
 | .str x,u=>∃ t,u=Value.str x t
 | .byt b,u=>∃ t,u=Value.bytes b t
 | .flt b,u=>∃ t,u=Value.float b t
 | .ref a,u=>u=Value.ref a
 | .ty n,u=>u=Value.type n
abbrev Vals:List V→List Value→Prop:=Paired RelV
theorem Vals.length {xs:List V} {us:List Value} (r:Vals xs us):xs.length=us.length:=Paired.length r
theorem Vals.get:∀ {xs:List V} {us:List Value} {i:Nat} {x:V},Vals xs us→xs[i]?=some x→∃ u,us[i]?=some u∧RelV x u
 | _,_,_,_,.nil,e=>by simp at e
 | _,_,0,_,.cons r _,e=>by simp at e;subst e;exact ⟨_,rfl,r⟩
 | _,_,i + 1,x,.cons _ t,e=>by
  obtain ⟨u,h1,h2⟩:=Vals.get (i:=i) (x:=x) t (by simpa using e)
  exact ⟨u,by simpa using h1,h2⟩
theorem Vals.set {x:V} {u:Value} (r:RelV x u):∀ {xs:List V} {us:List Value} (i:Nat),Vals xs us→Vals (xs.set i x) (us.set i u)
 | _,_,_,.nil=>.nil
 | _,_,0,.cons _ t=>.cons r t
 | _,_,i + 1,.cons q t=>.cons q (Vals.set r i t)
theorem Vals.append:∀ {xs ys:List V} {us ws:List Value},Vals xs us→Vals ys ws→Vals (xs++ys) (us++ws)
 | _,_,_,_,.nil,s=>s
 | _,_,_,_,.cons r t,s=>.cons r (Vals.append t s)
theorem Vals.take:∀ {xs:List V} {us:List Value} (n:Nat),Vals xs us→Vals (xs.take n) (us.take n)
 | _,_,0,_=>.nil
 | _,_,_ + 1,.nil=>.nil
 | _,_,n + 1,.cons r t=>.cons r (Vals.take n t)
theorem Vals.drop:∀ {xs:List V} {us:List Value} (n:Nat),Vals xs us→Vals (xs.drop n) (us.drop n)
 | _,_,0,r=>r
 | _,_,_ + 1,.nil=>.nil
 | _,_,n + 1,.cons _ t=>Vals.drop n t
def RelO:Option V→Option Value→Prop
 | some v,some u=>RelV v u
 | none,none=>True
 | _,_=>False
def KV {κ:Type}:List (κ×V)→List (κ×Value)→Prop:=Paired fun (p:κ×V) (q:κ×Value)=>p.1=q.1∧RelV p.2 q.2
def kV:Key→V
 | .inl i=>.int i
 | .inr x=>.str x
inductive HO where
 /-- a list -/
 | lst (xs:List V)
 /-- a tuple (never changes) -/
 | tup (xs:List V)
 /-- a dict whose keys are ints and texts;one whose keys are tuples of ints and texts (the empty one is both) -/
 | dK (kvs:List (Key×V)) | dT (kvs:List (List Key×V))
 /-- a set of ints: its members,its size -/
 | set (S:Int→Bool) (n:Nat)
 /-- an instance of the class at C,its dict at dx,its attributes -/
 | ins (C dx:Addr) (fs:List (Str×V))
 /-- the dict of the instance at x -/
 | own (x:Addr)
 /-- the dict of an exception -/
 | xd (fs:List (Str×V))
 /-- a bound method,f of x -/
 | met (f x:Addr)
 /-- a range object lo,lo + 1,.. below hi -/
 | rng (lo hi:Int)
 /-- a thing that is known to the object (the script;a dict while a loop walks it): read,never written while it is so -/
 | frz (o:Obj) (u:HO)
 /-- a code object's table -/
 | tbl (ps:Array Value)
 /-- any other thing,by what is true of its one object (a def of one's own: SetO a S n:=HO.ext fun h=>..) -/
 | ext (φ:Heap→Prop)
abbrev Hp:=Addr→Option HO
def upd (H:Hp) (a:Addr) (o:HO):Hp:=fun b=>if b=a then some o else H b
theorem qb {H:Hp} {a:Addr} {o:HO}:upd H a o a=some o:=by unfold upd;rw [if_pos rfl]
theorem qk {H:Hp} {a b:Addr} {o:HO} (h:b≠a):upd H a o b=H b:=by unfold upd;rw [if_neg h]
theorem zo {H:Hp} {a b:Addr} {o u:HO} (h:H a=some o) (h':H b=some u) (d:o≠u):a≠b:=by
 intro e;subst e;rw [h] at h';exact d (Option.some.inj h')
theorem qy {H:Hp} {a b:Addr} {o:HO} (h:H a=some o) (h':H b=none):a≠b:=by
 intro e;subst e;rw [h] at h';cases h'
section
variable (P:Program) (w:World)
def ObjOk (H:Hp) (h:Heap) (a:Addr):HO→Prop
 | .lst xs=>xs.length≤sizeLine∧∃ (its:List Value) (n:Nat),Vals xs its∧h.get? a=some { cls:=.type "list",data:=.seq its.toArray n }
 | .tup xs=>xs.length≤sizeLine∧∃ its:List Value,Vals xs its∧IsTup h a its.toArray
 | .dK kvs=>kvs.length≤sizeLine∧(a==sysModules)=false∧∃ vs,KV kvs vs∧h.DictOf (jD P w) a vs
 | .dT kvs=>kvs.length≤sizeLine∧(a==sysModules)=false∧∃ xs:List (List Key×Addr×Value),
   Paired (fun (p:List Key×V) (q:List Key×Addr×Value)=>p.1=q.1∧H q.2.1=some (.tup (p.1.map kV))∧RelV p.2 q.2.2) kvs xs ∧
   ∃ o es ep,h.get? a=some o∧o.ExactDict∧o.data=.dict es ep∧es.toList=xs.map (entryOfKey (tupleKind (jD P w)))∧(xs.map (·.1)).Nodup
 | .set S n=>h.SetOf (intKind P w) a S n
 | .ins C dx fs=>H dx=some (.own a)∧fs.length≤1000∧dx≠a∧h.get? a=some (PySem.W.instObj C dx) ∧
   ∃ mA,h.Ns1 dx mA∧(∀ f,RelO (fs.lookup f) (mA f))∧PySem.Within mA (fs.map (·.1))
 | .own _=>∃ o,h.get? a=some o
 | .xd fs=>∃ mA,h.Ns1 a mA∧∀ f,RelO (fs.lookup f) (mA f)
 | .rng lo hi=>∃ t u v,h.get? a=some { cls:=.type "range",data:=.fields #[.int lo t,.int hi u,.int 1 v] }
 | .frz o u=>h.get? a=some o∧ObjOk H h a u
 | .tbl ps=>h.get? a=some { cls:=.none,data:=.fields ps }
 | .met f x=>h.get? a=some (PySem.W.methodObj (.ref f) (.ref x))
 | .ext φ=>φ h∧(∃ o,h.get? a=some o)∧∀ h1 h2:Heap,φ h1→(∀ o,h1.get? a=some o→h2.get? a=some o)→φ h2
def HOk (H:Hp) (h:Heap):Prop:=∀ a o,H a=some o→ObjOk P w H h a o
end
section
variable {P:Program} {w:World} {H H':Hp} {h h':Heap} {a:Addr} {o:HO}
theorem ObjOk.lt (x:ObjOk P w H h a o):a < h.objs.size:=by
 cases o with
 | lst xs=>obtain ⟨_,_,_,_,e⟩:=x;exact Heap.lt_size e
 | tup xs=>obtain ⟨_,_,_,p⟩:=x;exact p.lt
 | dK kvs=>obtain ⟨_,_,_,_,o,_,_,e,_⟩:=x;exact Heap.lt_size e
 | dT kvs=>obtain ⟨_,_,_,_,o,_,_,e,_⟩:=x;exact Heap.lt_size e
 | set S n=>obtain ⟨o,_,_,_,e,_⟩:=x;exact Heap.lt_size e
 | ins C dx fs=>obtain ⟨_,_,_,e,_⟩:=x;exact Heap.lt_size e
 | own y=>obtain ⟨_,e⟩:=x;exact Heap.lt_size e
 | xd fs=>obtain ⟨_,⟨_,_,_,e,_⟩,_⟩:=x;exact Heap.lt_size e
 | rng lo hi=>obtain ⟨_,_,_,e⟩:=x;exact Heap.lt_size e
 | frz ob u=>obtain ⟨e,_⟩:=x;exact Heap.lt_size e
 | tbl ps=>exact Heap.lt_size (show h.get? a=some _ from x)
 | met f y=>exact Heap.lt_size (show h.get? a=some _ from x)
 | ext φ=>obtain ⟨_,⟨_,e⟩,_⟩:=x;exact Heap.lt_size e
theorem Paired.mapP {α β:Type} {F G:α→β→Prop}:∀ {l₁:List α} {l₂:List β},Paired F l₁ l₂→(∀ a b,F a b→G a b)→Paired G l₁ l₂
 | _,_,.nil,_=>.nil
 | _,_,.cons r t,f=>.cons (f _ _ r) (Paired.mapP t f)
theorem ObjOk.stay (x:ObjOk P w H h a o) (k:∀ b u,(b=a∨H b=some (.own a))→h.get? b=some u→h'.get? b=some u)
  (ho:∀ b,H b=some (.own a)→H' b=some (.own a)) (ht:∀ b xs,H b=some (.tup xs)→H' b=some (.tup xs)):ObjOk P w H' h' a o:=by
 induction o with
 | lst xs=>obtain ⟨z,its,n,r,e⟩:=x;exact ⟨z,its,n,r,k _ _ (.inl rfl) e⟩
 | tup xs=>obtain ⟨z,its,r,ob,e,c⟩:=x;exact ⟨z,its,r,ob,k _ _ (.inl rfl) e,c⟩
 | dK kvs=>obtain ⟨z,y,vs,r,ob,es,ep,e,c⟩:=x;exact ⟨z,y,vs,r,ob,es,ep,k _ _ (.inl rfl) e,c⟩
 | dT kvs =>
  obtain ⟨z,y,xs,r,ob,es,ep,e,c⟩:=x
  exact ⟨z,y,xs,Paired.mapP r fun p q z=>⟨z.1,ht _ _ z.2.1,z.2.2⟩,ob,es,ep,k _ _ (.inl rfl) e,c⟩
 | set S n=>obtain ⟨ob,es,ep,t,e,c⟩:=x;exact ⟨ob,es,ep,t,k _ _ (.inl rfl) e,c⟩
 | ins C dx fs =>
  obtain ⟨d,z,ne,e,mA,⟨od,es,ep,e2,c⟩,r⟩:=x
  exact ⟨ho _ d,z,ne,k _ _ (.inl rfl) e,mA,⟨od,es,ep,k _ _ (.inr d) e2,c⟩,r⟩
 | own y=>obtain ⟨ob,e⟩:=x;exact ⟨ob,k _ _ (.inl rfl) e⟩
 | xd fs=>obtain ⟨mA,⟨od,es,ep,e,c⟩,r⟩:=x;exact ⟨mA,⟨od,es,ep,k _ _ (.inl rfl) e,c⟩,r⟩
 | rng lo hi=>obtain ⟨t,u,v,e⟩:=x;exact ⟨t,u,v,k _ _ (.inl rfl) e⟩
 | frz ob u ih=>obtain ⟨e,q⟩:=x;exact ⟨k _ _ (.inl rfl) e,ih q⟩
 | tbl ps =>
  have e:h.get? a=some { cls:=.none,data:=.fields ps }:=x
  show h'.get? a=some { cls:=.none,data:=.fields ps }
  exact k a _ (.inl rfl) e
 | met f y =>
  have e:h.get? a=some (PySem.W.methodObj (.ref f) (.ref y)):=x
  show h'.get? a=some (PySem.W.methodObj (.ref f) (.ref y))
  exact k a _ (.inl rfl) e
 | ext φ=>obtain ⟨p,⟨o,e⟩,st⟩:=x;exact ⟨st _ _ p fun o q=>k _ _ (.inl rfl) q,⟨o,k _ _ (.inl rfl) e⟩,st⟩
theorem HOk.lt (x:HOk P w H h) (e:H a=some o):a < h.objs.size:=(x a o e).lt
theorem HOk.fresh (x:HOk P w H h) (e:h.objs.size≤a):H a=none:=by
 cases q:H a with
 | none=>rfl
 | some u=>exact absurd (Nat.lt_of_lt_of_le (x.lt q) e) (Nat.lt_irrefl _)
theorem HOk.kept (x:HOk P w H h) (k:∀ b u,h.get? b=some u→h'.get? b=some u):HOk P w H h':=fun a o e =>
 (x a o e).stay (fun b u _ q=>k b u q) (fun _ q=>q) fun _ _ q=>q
theorem HOk.laid (x:HOk P w H h) (k:∀ b u,h.get? b=some u→h'.get? b=some u) (hp:h.objs.size≤a) (new:ObjOk P w (upd H a o) h' a o):HOk P w (upd H a o) h':=fun b u e=>by
 have hn:=x.fresh hp
 by_cases hb:b=a
 ·subst hb;rw [qb] at e;cases e;exact new
 ·rw [qk hb] at e
  exact (x b u e).stay (fun c v _ q=>k c v q) (fun c q=>by rw [qk (qy q hn)];exact q) fun c xs q=>by rw [qk (qy q hn)];exact q
end
def Rd (H:Hp) (a:Addr) (u:HO):Prop:=H a=some u∨∃ o,H a=some (.frz o u)
theorem Rd.ok {P:Program} {w:World} {H:Hp} {h:Heap} {a:Addr} {u:HO} (r:Rd H a u) (x:HOk P w H h):ObjOk P w H h a u:=by
 rcases r with r | ⟨o,r⟩
 ·exact x a u r
 ·obtain ⟨_,q⟩:=x a _ r
  exact q
def Mut:Option HO→Prop
 | some (.lst _)=>True
 | some (.dK _)=>True
 | some (.dT _)=>True
 | some (.set _ _)=>True
 | some (.ins _ _ _)=>True
 | some (.ext _)=>True
 | _=>False
section
variable {P:Program} {w:World} {H:Hp} {h h':Heap} {x e:Addr} {o':HO}
theorem HOk.write (ok:HOk P w H h) (mu:Mut (H x)) (he:e=x∨H e=some (.own x)) (k:∀ b u,b≠e→h.get? b=some u→h'.get? b=some u) (heo:∃ u,h'.get? e=some u)
  (new:ObjOk P w (upd H x o') h' x o'):HOk P w (upd H x o') h':=fun b u q=>by
 have nown:∀ c y,H c=some (.own y)→c≠x:=fun c y r z=>by subst z;rw [r] at mu;exact mu
 have ntup:∀ c xs,H c=some (.tup xs)→c≠x:=fun c xs r z=>by subst z;rw [r] at mu;exact mu
 by_cases hb:b=x
 ·subst hb;rw [qb] at q;cases q;exact new
 ·rw [qk hb] at q
  by_cases hbe:b=e
  ·have q':H b=some (.own x):=by
    rcases he with z | z
    ·exact absurd (hbe.trans z) hb
    ·rw [hbe];exact z
   rw [q] at q';cases q'
   obtain ⟨v,hv⟩:=heo
   exact ⟨v,by rw [hbe];exact hv⟩
  ·refine (ok b u q).stay (fun c v hc r=>k c v ?_ r) (fun c r=>by rw [qk (nown c b r)];exact r) fun c xs r=>by rw [qk (ntup c xs r)];exact r
   rcases hc with rfl | hc
   ·exact hbe
   ·rintro rfl
    rcases he with z | z
    ·exact nown c b hc z
    ·rw [hc] at z;cases z;exact hb rfl
end
structure Un (fs ex:List Addr) (H H':Hp) (h h':Heap):Prop where
 keep:∀ b o,h.get? b=some o→H b=none→b∉fs→b∉ex→h'.get? b=some o
 slot:∀ b o,h.get? b=some o→H b=none→b∈fs→b∉ex→∃ sl,h'.get? b=some { o with slots:=sl }
 free:∀ b o,h.get? b=some o→H b=none→b∉ex→H' b=none
 there:∀ b o,h.get? b=some o→b∉ex→∃ o',h'.get? b=some o'
 tups:∀ b xs,H b=some (.tup xs)→H' b=some (.tup xs)
 frzs:∀ b o u,H b=some (.frz o u)→H' b=some (.frz o u)
 tbls:∀ b ps,H b=some (.tbl ps)→∃ more,H' b=some (.tbl (ps++more))
section
variable {fs fs' ex ex':List Addr} {H H1 H2:Hp} {h h1 h2 h':Heap} {a x e:Addr} {o:HO}
theorem Un.any (u:Un fs ex H H1 h h1) {b:Addr} {ob:Obj} (q:h.get? b=some ob) (n:H b=none) (hx:b∉ex):∃ sl,h1.get? b=some { ob with slots:=sl }:=by
 by_cases hb:b∈fs
 ·exact u.slot b ob q n hb hx
 ·exact ⟨ob.slots,u.keep b ob q n hb hx⟩
theorem Un.kept (k:∀ b u,h.get? b=some u→h'.get? b=some u):Un fs ex H H h h':=
 ⟨fun b ob q _ _ _=>k b ob q,fun b ob q _ _ _=>⟨ob.slots,k b ob q⟩,fun _ _ _ n _=>n,fun b ob q _=>⟨ob,k b ob q⟩,fun _ _ q=>q,fun _ _ _ q=>q,fun _ ps q=>⟨#[],by rw [q];simp⟩⟩
theorem Un.refl:Un fs ex H H h h:=Un.kept fun _ _ q=>q
theorem Un.laid (k:∀ b u,h.get? b=some u→h'.get? b=some u) (hp:h.objs.size≤a) (hn:H a=none):Un fs ex H (upd H a o) h h' where
 keep:=fun b u q _ _ _=>k b u q
 slot:=fun b u q _ _ _=>⟨u.slots,k b u q⟩
 free:=fun b u q n _=>by rw [qk (Nat.ne_of_lt (Nat.lt_of_lt_of_le (Heap.lt_size q) hp))];exact n
 there:=fun b u q _=>⟨u,k b u q⟩
 tups:=fun b xs q=>by rw [qk (qy q hn)];exact q
 frzs:=fun b u xs q=>by rw [qk (qy q hn)];exact q
 tbls:=fun b ps q=>⟨#[],by rw [qk (qy q hn),q];simp⟩
theorem Un.write (mu:Mut (H x)) (he:e=x∨H e=some (.own x)) (k:∀ b u,b≠e→h.get? b=some u→h'.get? b=some u) (heo:∃ u,h'.get? e=some u):Un fs ex H (upd H x o) h h':=by
 have hx:∀ b,H b=none→b≠x:=fun b n z=>by subst z;rw [n] at mu;exact mu
 have hb:∀ b,H b=none→b≠e:=fun b n z=>by
  subst z
  rcases he with r | r
  ·exact hx b n r
  ·rw [n] at r;cases r
 have hm:∀ b u,H b=some u→¬ Mut (some u)→b≠x:=fun b u q nm z=>by subst z;rw [q] at mu;exact nm mu
 refine ⟨fun b u q n _ _=>k b u (hb b n) q,fun b u q n _ _=>⟨u.slots,k b u (hb b n) q⟩,fun b u q n _=>by rw [qk (hx b n)];exact n,fun b u q _=>?_,
  fun b xs q=>by rw [qk (hm b _ q fun z=>z)];exact q,fun b u xs q=>by rw [qk (hm b _ q fun z=>z)];exact q,fun b ps q=>⟨#[],by rw [qk (hm b _ q fun z=>z),q];simp⟩⟩
 by_cases hbe:b=e
 ·subst hbe;exact heo
 ·exact ⟨u,k b u hbe q⟩
end
def trk (h:Heap) (H:Hp):List Addr:=(List.range h.objs.size).filter fun a=>(H a).isSome
def qeJ (h:Heap) (H:Hp):Heap:=PySem.W.hideAll h (trk h H)
theorem hidT_size (h:Heap) (H:Hp):(qeJ h H).objs.size=h.objs.size:=PySem.W.hideAll_size _ _
theorem hidT_get {h:Heap} {H:Hp} {b:Addr} {o:Obj} (e:h.get? b=some o) (n:H b=none):(qeJ h H).get? b=some o:=
 PySem.W.hideAll_get _ e fun hm=>by
  have q:(H b).isSome=true:=(List.mem_filter.mp hm).2
  rw [n] at q;simp at q
theorem of_hidT {h:Heap} {H:Hp} {b:Addr} {o:Obj} (e:(qeJ h H).get? b=some o):h.get? b=some o∧H b=none:=by
 have e':h.get? b=some o:=PySem.W.of_hideAll (trk h H) e
 refine ⟨e',?_⟩
 cases q:H b with
 | none=>rfl
 | some x =>
  have hm:b∈trk h H:=List.mem_filter.mpr ⟨List.mem_range.mpr (Heap.lt_size e'),by simp [q]⟩
  have z:(qeJ h H).get? b=none:=PySem.W.hideAll_none (trk h H) hm
  rw [z] at e;cases e
def allNews (g h:Heap) (L:Addr):List (Addr×Obj):=(List.range h.objs.size).filterMap fun a=>if a=L∨(g.get? a).isSome=true then none else (h.get? a).map fun o=>(a,o)
def rest (g h:Heap) (L d:Addr):List (Addr×Obj):=(allNews g h L).filter fun p=>decide (p.1≠d)
structure Mod (K:PySem.W.Frag) (mg:Str→Option Value) (base:Heap):Prop where
 kin:K.In base
 glob:base.Ns mainGlobals mg
 blt:∃ mb,base.Ns builtinsNs mb∧∀ x:Str,x≠"__name__"→mb x=bootBuiltins x
 nolimit:base.NoLimit
structure Cx where
 prog:Program
 w:World
 K:PySem.W.Frag
 mg:Str→Option Value
 base:Heap
 A:Around
 N:List Str
 s₀:Shared
 H₀:Hp
 env:Env
 outer:List Env
 stack:List Env
 ex:List Addr
 fn:Str→Bool
 calm:Bool
 pn:List (Addr×Obj)
 xe:Value→Shared→Prop
def frs (l:List Env):List Addr:=l.filterMap (·.frame)
abbrev Cx.fs (X:Cx):List Addr:=frs X.outer
def Vis (sc:Scope) (x:Str):Prop:=sc.names.lookup x=some .local∨sc.names.lookup x=some .cell∨sc.names.lookup x=some .free
def Loc (sc:Scope) (x:Str):Prop:=sc.names.lookup x=some .local∨sc.names.lookup x=some .cell
def Look (env:Env) (h:Heap) (m:Str→Option Value) (x:Str) (u:Value):Prop:=
 (env.kindOf x=some .local∧m x=some u)∨((env.kindOf x=some .cell∨env.kindOf x=some .free)∧∃ c,env.cells.lookup x=some c∧h.IsCell c (some u))
structure Cx.Ok (X:Cx):Prop where
 mod:Mod X.K X.mg X.base
 kind:X.env.scope.kind=.function
 glob:X.env.globals=mainGlobals
 blt:X.env.builtins=builtinsNs
 above:X.s₀.heap.objs.size≤X.env.locals
 inj:∀ x y c,X.env.cells.lookup x=some c→X.env.cells.lookup y=some c→x=y
 has:∀ x,(X.env.kindOf x=some .cell∨X.env.kindOf x=some .free)→∃ c,X.env.cells.lookup x=some c
 cab:∀ x c,X.fn x=true→X.env.cells.lookup x=some c→X.s₀.heap.objs.size≤c
 hd:X.calm=true→X.A.handled=none
 frames:X.A.frames=some X.stack
 stk:X.stack=X.outer∨(X.stack=X.env::X.outer∧X.env.frame=some X.env.locals)
 exf:∀ b∈X.ex,b≠X.env.locals∧∀ x c,X.env.cells.lookup x=some c→c≠b
 bs:∀ b o,X.base.get? b=some o→X.s₀.heap.get? b=some o∧X.H₀ b=none
 bsz:X.base.objs.size≤X.s₀.heap.objs.size
 noex:∀ b o,X.base.get? b=some o→b∉X.ex
 exfs:∀ b∈X.ex,b∉X.fs
 funs:X.s₀.heap.FunFrames X.base X.outer
 frf:∀ b∈X.fs,X.H₀ b=none
structure Inv (X:Cx) (pins:List (Addr×Obj)) (σ:List (Option V)) (H:Hp) (s:Shared):Prop where
 ok:X.Ok
 os:s.os=X.s₀.os
 bare:AllBare s.gens
 base:Un X.fs X.ex X.H₀ H X.s₀.heap s.heap
 loc:∃ m,s.heap.Ns X.env.locals m∧∀ (i:Nat) (x:Str) (v:V),X.N[i]?=some x→σ[i]?=some (some v)→Vis X.env.scope x→∃ u,RelV v u∧Look X.env s.heap m x u
 cell:∀ x c,X.env.cells.lookup x=some c→∃ v,s.heap.IsCell c v
 free:H X.env.locals=none
 freeC:∀ x c,X.env.cells.lookup x=some c→H c=none
 pin:∀ p∈X.pn++pins,s.heap.get? p.1=some p.2∧H p.1=none∧p.1≠X.env.locals∧p.1∉X.fs∧∀ v,p.2.data≠.cell v
 hok:HOk X.prog X.w H s.heap
 len:σ.length=X.N.length
section
variable {X:Cx} {pins:List (Addr×Obj)} {σ:List (Option V)} {H H':Hp} {s:Shared} {h':Heap}
theorem Cx.Ok.nofr (ok:X.Ok) {b:Addr} {o:Obj} (e:X.base.get? b=some o):b∉X.fs:=fun hb=>by
 have:=(ok.funs.mem hb).1
 rw [e] at this;cases this
theorem Inv.bs (I:Inv X pins σ H s):∀ b o,X.base.get? b=some o→s.heap.get? b=some o∧H b=none:=fun b o e =>
 ⟨I.base.keep b o (I.ok.bs b o e).1 (I.ok.bs b o e).2 (I.ok.nofr e) (I.ok.noex b o e),I.base.free b o (I.ok.bs b o e).1 (I.ok.bs b o e).2 (I.ok.noex b o e)⟩
theorem Inv.bk (I:Inv X pins σ H s):∀ b o,X.base.get? b=some o→s.heap.get? b=some o:=fun b o e=>(I.bs b o e).1
theorem Inv.mod (I:Inv X pins σ H s):Mod X.K X.mg X.base:=I.ok.mod
theorem Inv.kIn (I:Inv X pins σ H s):X.K.In s.heap:=I.ok.mod.kin.keeps I.bk
theorem Inv.lt (I:Inv X pins σ H s):X.env.locals < s.heap.objs.size:=let ⟨_,hn,_⟩:=I.loc;hn.lt
theorem Inv.sz (I:Inv X pins σ H s):X.s₀.heap.objs.size≤s.heap.objs.size:=Nat.le_trans I.ok.above (Nat.le_of_lt I.lt)
theorem Inv.nofs (I:Inv X pins σ H s) {a:Addr} (h:s.heap.objs.size≤a):a∉X.fs:=fun hb=>by
 obtain ⟨_,o,ho,_⟩:=I.ok.funs.mem hb
 exact absurd (Nat.lt_of_lt_of_le (Heap.lt_size ho) (Nat.le_trans I.sz h)) (Nat.lt_irrefl _)
theorem Inv.cne (I:Inv X pins σ H s):∀ x c,X.env.cells.lookup x=some c→c≠X.env.locals:=fun x c e z=>by
 obtain ⟨v,o,ho,hd⟩:=I.cell x c e
 obtain ⟨m,⟨o',es,ep,ho',hd',_⟩,_⟩:=I.loc
 rw [z,ho'] at ho;cases ho;rw [hd'] at hd;cases hd
theorem Inv.funs (I:Inv X pins σ H s):s.heap.FunFrames X.base X.outer:=by
 have all:∀ (l:List Env),(∀ b∈frs l,b∈X.fs)→X.s₀.heap.FunFrames X.base l→s.heap.FunFrames X.base l:=by
  intro l
  induction l with
  | nil=>intro _ _;trivial
  | cons env r ih =>
   intro hs hl
   obtain ⟨hk,⟨L,o,hf,hn,ho,hd⟩,hr⟩:=hl
   have hL:L∈X.fs:=hs L (by unfold frs;rw [List.filterMap_cons,hf];exact List.mem_cons_self)
   obtain ⟨sl,e⟩:=I.base.slot L o ho (I.ok.frf L hL) hL fun z=>I.ok.exfs L z hL
   exact ⟨hk,⟨L,_,hf,hn,e,hd⟩,ih (fun b hb=>hs b (by unfold frs;rw [List.filterMap_cons,hf];exact List.mem_cons_of_mem _ hb)) hr⟩
 exact all X.outer (fun _ hb=>hb) I.ok.funs
theorem Inv.stack (I:Inv X pins σ H s):s.heap.FunFrames X.base X.stack:=by
 rcases I.ok.stk with e | ⟨e,hf⟩
 ·rw [e];exact I.funs
 ·rw [e]
  obtain ⟨m,hn,_⟩:=I.loc
  refine .cons (by rw [I.ok.kind];decide) hf hn ?_ I.funs
  exact Heap.get?_none_of_le (Nat.le_trans I.ok.bsz I.ok.above)
theorem Inv.stkSub (I:Inv X pins σ H s):∀ b∈frs X.stack,b∈X.env.locals::X.fs:=fun b hb=>by
 rcases I.ok.stk with e | ⟨e,hf⟩
 ·rw [e] at hb;exact List.mem_cons_of_mem _ hb
 ·rw [e] at hb
  unfold frs at hb
  rw [List.filterMap_cons,hf] at hb
  exact hb
theorem Inv.stkFree (I:Inv X pins σ H s):∀ b∈frs X.stack,H b=none:=fun b hb=>by
 rcases List.mem_cons.mp (I.stkSub b hb) with e | hb
 ·rw [e];exact I.free
 ·obtain ⟨_,o,ho,_⟩:=I.ok.funs.mem hb
  exact I.base.free b o ho (I.ok.frf b hb) fun z=>I.ok.exfs b z hb
theorem Inv.step {g':Array GenState} {t':Nat} {d':Drawn} {ch:List Addr} (I:Inv X pins σ H s)
  (hch:∀ b∈ch,(b∈X.ex∨X.s₀.heap.objs.size≤b)∧b≠X.env.locals∧(∀ x c,X.env.cells.lookup x=some c→c≠b)∧∀ p∈X.pn++pins,p.1≠b)
  (keep:∀ b o,b≠X.env.locals→b∉X.fs→b∉ch→s.heap.get? b=some o→H b=none→h'.get? b=some o)
  (slot:∀ b o,b≠X.env.locals→b∈X.fs→b∉ch→s.heap.get? b=some o→H b=none→∃ sl,h'.get? b=some { o with slots:=sl }) (free:∀ b o,b∉ch→s.heap.get? b=some o→H b=none→H' b=none)
  (there:∀ b o,b∉ch→s.heap.get? b=some o→∃ o',h'.get? b=some o')
  (tups:∀ b xs,H b=some (.tup xs)→H' b=some (.tup xs)) (frzs:∀ b o u,H b=some (.frz o u)→H' b=some (.frz o u)) (tbls:∀ b ps,H b=some (.tbl ps)→∃ more,H' b=some (.tbl (ps++more)))
  (ns:∀ m,s.heap.Ns X.env.locals m→h'.Ns X.env.locals m) (hok:HOk X.prog X.w H' h') (hg:AllBare g') :
  Inv X pins σ H' { s with heap:=h',gens:=g',drawn:=d',toks:=t' }:=by
 have neL:∀ b o,X.s₀.heap.get? b=some o→b≠X.env.locals:=fun b o e=>Nat.ne_of_lt (Nat.lt_of_lt_of_le (Heap.lt_size e) I.ok.above)
 have neC:∀ b o,X.s₀.heap.get? b=some o→b∉X.ex→b∉ch:=fun b o e hx hb=>by
  rcases (hch b hb).1 with z | z
  ·exact hx z
  ·exact absurd (Nat.lt_of_lt_of_le (Heap.lt_size e) z) (Nat.lt_irrefl _)
 have cellK:∀ x c,X.env.cells.lookup x=some c→∀ v,s.heap.IsCell c v→h'.IsCell c v:=fun x c e v ⟨o,ho,hd⟩=>by
  have nch:c∉ch:=fun z=>(hch c z).2.2.1 x c e rfl
  by_cases hc:c∈X.fs
  ·obtain ⟨sl,q⟩:=slot c o (I.cne x c e) hc nch ho (I.freeC x c e)
   exact ⟨_,q,hd⟩
  ·exact ⟨o,keep c o (I.cne x c e) hc nch ho (I.freeC x c e),hd⟩
 refine ⟨I.ok,I.os,hg,⟨fun b o e n hb hx=>?_,fun b o e n hb hx=>?_,fun b o e n hx=>?_,fun b o e hx=>?_,fun b xs e=>tups b xs (I.base.tups b xs e),fun b o xs e=>frzs b o xs (I.base.frzs b o xs e),fun b ps e=>?_⟩,?_,fun x c e=>?_,?_,fun x c e=>?_,fun p hp=>?_,hok,I.len⟩
 ·exact keep b o (neL b o e) hb (neC b o e hx) (I.base.keep b o e n hb hx) (I.base.free b o e n hx)
 ·obtain ⟨sl,e1⟩:=I.base.slot b o e n hb hx
  obtain ⟨sl',e2⟩:=slot b _ (neL b o e) hb (neC b o e hx) e1 (I.base.free b o e n hx)
  exact ⟨sl',e2⟩
 ·obtain ⟨o',e1⟩:=I.base.there b o e hx
  exact free b o' (neC b o e hx) e1 (I.base.free b o e n hx)
 ·obtain ⟨o',e1⟩:=I.base.there b o e hx
  exact there b o' (neC b o e hx) e1
 ·obtain ⟨m1,e1⟩:=I.base.tbls b ps e
  obtain ⟨m2,e2⟩:=tbls b _ e1
  exact ⟨m1++m2,by rw [e2,Array.append_assoc]⟩
 ·obtain ⟨m,hn,hl⟩:=I.loc
  refine ⟨m,ns m hn,fun i x v e1 e2 e3=>?_⟩
  obtain ⟨u,r,l⟩:=hl i x v e1 e2 e3
  refine ⟨u,r,?_⟩
  rcases l with l | ⟨k,c,e,z⟩
  ·exact .inl l
  ·exact .inr ⟨k,c,e,cellK x c e _ z⟩
 ·obtain ⟨v,z⟩:=I.cell x c e
  exact ⟨v,cellK x c e v z⟩
 ·obtain ⟨m,⟨o,_,_,ho,_⟩,_⟩:=I.loc
  exact free _ o (fun z=>(hch _ z).2.1 rfl) ho I.free
 ·obtain ⟨v,o,ho,hd⟩:=I.cell x c e
  exact free c o (fun z=>(hch c z).2.2.1 x c e rfl) ho (I.freeC x c e)
 ·obtain ⟨e,n,ne,nf,d⟩:=I.pin p hp
  have nch:p.1∉ch:=fun z=>(hch p.1 z).2.2.2 p hp rfl
  exact ⟨keep p.1 p.2 ne nf nch e n,free p.1 p.2 nch e n,ne,nf,d⟩
theorem Inv.un {t':Nat} (I:Inv X pins σ H s) (u:Un X.fs [] H H' s.heap h') (hok:HOk X.prog X.w H' h'):Inv X pins σ H' { s with heap:=h',toks:=t' }:=by
 obtain ⟨m,⟨o,es,ep,ho,r⟩,_⟩:=id I.loc
 obtain ⟨sl,hL⟩:=u.any ho I.free (by simp)
 exact I.step (g':=s.gens) (d':=s.drawn) (ch:=[]) (fun _ z=>nomatch z) (fun b o _ hb _ e n=>u.keep b o e n hb (by simp)) (fun b o _ hb _ e n=>u.slot b o e n hb (by simp)) (fun b o _ e n=>u.free b o e n (by simp)) (fun b o _ e=>u.there b o e (by simp)) u.tups u.frzs u.tbls (fun m' hm=>by
  obtain ⟨o',es',ep',ho',r'⟩:=hm
  rw [ho] at ho';cases ho'
  exact ⟨_,es',ep',hL,r'⟩) hok I.bare
theorem Inv.call {g':Array GenState} {t':Nat} {d':Drawn} {ch:List Addr} (I:Inv X pins σ H s) (u:Un (frs X.stack) ch H H' s.heap h') (hok:HOk X.prog X.w H' h') (hg:AllBare g')
  (hch:∀ b∈ch,(b∈X.ex∨X.s₀.heap.objs.size≤b)∧b≠X.env.locals∧(∀ x c,X.env.cells.lookup x=some c→c≠b)∧∀ p∈X.pn++pins,p.1≠b) :
  Inv X pins σ H' { s with heap:=h',gens:=g',drawn:=d',toks:=t' }:=by
 obtain ⟨m,⟨o,es,ep,ho,r⟩,_⟩:=id I.loc
 obtain ⟨sl,hL⟩:=u.any ho I.free fun z=>(hch _ z).2.1 rfl
 exact I.step (ch:=ch) hch (fun b o hL hb hc e n=>u.keep b o e n (fun z=>(List.mem_cons.mp (I.stkSub b z)).elim hL hb) hc) (fun b o _ _ hc e n=>u.any e n hc) (fun b o hc e n=>u.free b o e n hc) (fun b o hc e=>u.there b o e hc) u.tups u.frzs u.tbls (fun m' hm=>by
  obtain ⟨o',es',ep',ho',r'⟩:=hm
  rw [ho] at ho';cases ho'
  exact ⟨_,es',ep',hL,r'⟩) hok hg
theorem Inv.turned {t':Nat} {it:Addr} (I:Inv X pins σ H s) (k:∀ b o,b≠it→s.heap.get? b=some o→h'.get? b=some o) (hn:H it=none) (hL:it≠X.env.locals)
  (h1:it∈X.ex∨X.s₀.heap.objs.size≤it) (h2:∀ x c,X.env.cells.lookup x=some c→c≠it) (h3:∀ p∈X.pn++pins,p.1≠it):Inv X pins σ H { s with heap:=h',toks:=t' }:=by
 have nit:∀ b u,H b=some u→b≠it:=fun b u e z=>by rw [z,hn] at e;cases e
 refine I.step (g':=s.gens) (d':=s.drawn) (ch:=[it]) (fun b hb=>?_) (fun b o _ _ hc e _=>k b o (fun z=>hc (by simp [z])) e) (fun b o _ _ hc e _=>⟨o.slots,k b o (fun z=>hc (by simp [z])) e⟩) (fun _ _ _ _ n=>n)
  (fun b o hc e=>⟨o,k b o (fun z=>hc (by simp [z])) e⟩) (fun _ _ e=>e) (fun _ _ _ e=>e) (fun b ps e=>⟨#[],by rw [e];simp⟩) (fun m hm=>?_) (fun b u e=>?_) I.bare
 ·have e:b=it:=by simpa using hb
  subst e
  exact ⟨h1,hL,h2,h3⟩
 ·obtain ⟨o,es,ep,ho,r⟩:=hm
  exact ⟨o,es,ep,k _ o (Ne.symm hL) ho,r⟩
 ·refine (I.hok b u e).stay (fun c v hc q=>k c v ?_ q) (fun _ q=>q) fun _ _ q=>q
  rcases hc with z | z
  ·rw [z];exact nit b u e
  ·exact nit c _ z
theorem Inv.tok (I:Inv X pins σ H s) (t:Nat):Inv X pins σ H { s with toks:=t }:=I.un (h':=s.heap) (t':=t) Un.refl I.hok
theorem Inv.kept {t':Nat} (I:Inv X pins σ H s) (k:∀ b u,s.heap.get? b=some u→h'.get? b=some u):Inv X pins σ H { s with heap:=h',toks:=t' }:=I.un (Un.kept k) (I.hok.kept k)
theorem Inv.laid {a:Addr} {o:HO} {t':Nat} (I:Inv X pins σ H s) (k:∀ b u,s.heap.get? b=some u→h'.get? b=some u) (hp:s.heap.objs.size≤a) (new:ObjOk X.prog X.w (upd H a o) h' a o) :
  Inv X pins σ (upd H a o) { s with heap:=h',toks:=t' }:=I.un (Un.laid k hp (I.hok.fresh hp)) (I.hok.laid k hp new)
theorem Inv.write {x e:Addr} {o:HO} {t':Nat} (I:Inv X pins σ H s) (mu:Mut (H x)) (he:e=x∨H e=some (.own x)) (k:∀ b u,b≠e→s.heap.get? b=some u→h'.get? b=some u) (heo:∃ u,h'.get? e=some u)
  (new:ObjOk X.prog X.w (upd H x o) h' x o):Inv X pins σ (upd H x o) { s with heap:=h',toks:=t' }:=I.un (Un.write mu he k heo) (I.hok.write mu he k heo new)
theorem Inv.weak {σ':List (Option V)} (I:Inv X pins σ H s) (hl:σ'.length=σ.length) (w:∀ (i:Nat) v,σ'[i]?=some (some v)→σ[i]?=some (some v)):Inv X pins σ' H s:=
 ⟨I.ok,I.os,I.bare,I.base,let ⟨m,hn,hl'⟩:=I.loc;⟨m,hn,fun i x v e1 e2 e3=>hl' i x v e1 (w i v e2) e3⟩,I.cell,I.free,I.freeC,I.pin,I.hok,hl.trans I.len⟩
theorem Inv.pins_of {pins':List (Addr×Obj)} (I:Inv X pins σ H s) (h:∀ p∈pins',s.heap.get? p.1=some p.2∧H p.1=none∧p.1≠X.env.locals∧p.1∉X.fs∧∀ v,p.2.data≠.cell v):Inv X pins' σ H s:=
 ⟨I.ok,I.os,I.bare,I.base,I.loc,I.cell,I.free,I.freeC,fun p hp=>(List.mem_append.mp hp).elim (fun z=>I.pin p (List.mem_append_left _ z)) (h p),I.hok,I.len⟩
theorem qbD {N:List Str} (hN:N.Nodup) {i j:Nat} {x:Str} (a:N[i]?=some x) (b:N[j]?=some x):i=j:=by
 obtain ⟨h1,e1⟩:=List.getElem?_eq_some_iff.mp a
 obtain ⟨h2,e2⟩:=List.getElem?_eq_some_iff.mp b
 exact (List.getElem_inj hN).mp (e1.trans e2.symm)
theorem store_ok2 {M:Model} {A:Around} {E:Value→Shared→Prop} {i:Nat} {x:Str} {v:V} {u:Value} {Q:Unit→Shared→Prop} (I:Inv X pins σ H s) (hN:X.N.Nodup) (hi:X.N[i]?=some x) (hx:Loc X.env.scope x) (r:RelV v u)
  (h:∀ s',Inv X pins (σ.set i (some v)) H s'→(∃ a,Heap.SameBut a s.heap s'.heap∧(a=X.env.locals∨X.env.cells.lookup x=some a))→Q () s') (hf:X.fn x=true∨X.env.scope.names.lookup x=some .local:=by first | exact .inl rfl | exact .inr rfl | assumption):wpAny M A (storeName X.env x u) Q E s:=by
 obtain ⟨m,hn,hl⟩:=id I.loc
 have hcls:(X.env.scope.kind==.class||(X.env.scope.kind==.module&&X.env.locals != X.env.globals))=false:=by rw [I.ok.kind];rfl
 have hiσ:i < σ.length:=by rw [I.len];exact (List.getElem?_eq_some_iff.mp hi).1
 have cne:=I.cne
 have tracked:∀ {a:Addr} {h':Heap},(∃ o,s.heap.get? a=some o∧H a=none)→Heap.SameBut a s.heap h'→HOk X.prog X.w H h':=fun {a h'} ha hs b ob e=>by
  obtain ⟨_,_,hfree⟩:=ha
  refine (I.hok b ob e).stay (fun c w' hc q=>(hs.2 c ?_).trans q) (fun _ q=>q) fun _ _ q=>q
  rintro rfl
  rcases hc with rfl | hc
  ·rw [hfree] at e;cases e
  ·rw [hfree] at hc;cases hc
 rcases hx with hk | hk
 ·refine wpAny_storeName_local hk hn (fun h' hn' hs=>?_) hcls
  obtain ⟨oL,_,_,hoL,_⟩:=id hn
  refine h _ ⟨I.ok,I.os,I.bare,⟨fun b o e n hb hx=>?_,fun b o e n hb hx=>?_,I.base.free,fun b o e hx=>?_,I.base.tups,I.base.frzs,I.base.tbls⟩,⟨_,hn',fun j y v' e1 e2 e3=>?_⟩,fun y c e=>?_,I.free,I.freeC,fun p hp=>?_,tracked ⟨oL,hoL,I.free⟩ hs,by simpa using I.len⟩ ⟨_,hs,.inl rfl⟩
  ·exact (hs.2 b (Nat.ne_of_lt (Nat.lt_of_lt_of_le (Heap.lt_size e) I.ok.above))).trans (I.base.keep b o e n hb hx)
  ·obtain ⟨sl,e1⟩:=I.base.slot b o e n hb hx
   exact ⟨sl,(hs.2 b (Nat.ne_of_lt (Nat.lt_of_lt_of_le (Heap.lt_size e) I.ok.above))).trans e1⟩
  ·obtain ⟨o',e1⟩:=I.base.there b o e hx
   exact ⟨o',(hs.2 b (Nat.ne_of_lt (Nat.lt_of_lt_of_le (Heap.lt_size e) I.ok.above))).trans e1⟩
  ·by_cases hj:j=i
   ·subst hj
    rw [hi] at e1;cases e1
    rw [List.getElem?_set_self hiσ] at e2
    cases e2
    exact ⟨u,r,.inl ⟨hk,by simp⟩⟩
   ·rw [List.getElem?_set_ne (Ne.symm hj)] at e2
    obtain ⟨u',r',q⟩:=hl j y v' e1 e2 e3
    refine ⟨u',r',?_⟩
    rcases q with ⟨k,e⟩ | ⟨k,c,e,z⟩
    ·refine .inl ⟨k,?_⟩
     have:y≠x:=fun e=>hj (qbD hN e1 (e ▸ hi))
     simp [this,e]
    ·exact .inr ⟨k,c,e,z.sameBut hs (cne y c e)⟩
  ·obtain ⟨w',z⟩:=I.cell y c e
   exact ⟨w',z.sameBut hs (cne y c e)⟩
  ·obtain ⟨e,n,ne,nf,d⟩:=I.pin p hp
   exact ⟨(hs.2 p.1 ne).trans e,n,ne,nf,d⟩
 ·have hfn:X.fn x=true:=by
   rcases hf with z | z
   ·exact z
   ·rw [z] at hk;cases hk
  obtain ⟨c,hc⟩:=I.ok.has x (.inl hk)
  obtain ⟨w',z⟩:=I.cell x c hc
  refine wpAny_storeName_cell I.ok.kind hk hc z (fun h' hc' hs=>?_)
  obtain ⟨oc,hoc,hocd⟩:=id z
  refine h { s with heap:=h' } ⟨I.ok,I.os,I.bare,⟨fun b o e n hb hx=>?_,fun b o e n hb hx=>?_,I.base.free,fun b o e hx=>?_,I.base.tups,I.base.frzs,I.base.tbls⟩,⟨m,hn.sameBut hs (Ne.symm (cne x c hc)),fun j y v' e1 e2 e3=>?_⟩,fun y c' e=>?_,I.free,I.freeC,fun p hp=>?_,tracked ⟨oc,hoc,I.freeC x c hc⟩ hs,by simpa using I.len⟩ ⟨c,hs,.inr hc⟩
  ·exact (hs.2 b (Nat.ne_of_lt (Nat.lt_of_lt_of_le (Heap.lt_size e) (I.ok.cab x c hfn hc)))).trans (I.base.keep b o e n hb hx)
  ·obtain ⟨sl,e1⟩:=I.base.slot b o e n hb hx
   exact ⟨sl,(hs.2 b (Nat.ne_of_lt (Nat.lt_of_lt_of_le (Heap.lt_size e) (I.ok.cab x c hfn hc)))).trans e1⟩
  ·obtain ⟨o',e1⟩:=I.base.there b o e hx
   exact ⟨o',(hs.2 b (Nat.ne_of_lt (Nat.lt_of_lt_of_le (Heap.lt_size e) (I.ok.cab x c hfn hc)))).trans e1⟩
  ·by_cases hj:j=i
   ·subst hj
    rw [hi] at e1;cases e1
    rw [List.getElem?_set_self hiσ] at e2
    cases e2
    exact ⟨u,r,.inr ⟨.inl hk,c,hc,hc'⟩⟩
   ·rw [List.getElem?_set_ne (Ne.symm hj)] at e2
    obtain ⟨u',r',q⟩:=hl j y v' e1 e2 e3
    refine ⟨u',r',?_⟩
    rcases q with q | ⟨k,c',e,z'⟩
    ·exact .inl q
    ·refine .inr ⟨k,c',e,z'.sameBut hs ?_⟩
     rintro rfl
     exact hj (qbD hN e1 (I.ok.inj _ _ _ e hc ▸ hi))
  ·by_cases hcc:c'=c
   ·subst hcc;exact ⟨_,hc'⟩
   ·obtain ⟨w2,z2⟩:=I.cell y c' e
    exact ⟨w2,z2.sameBut hs hcc⟩
  ·obtain ⟨e,n,ne,nf,d⟩:=I.pin p hp
   refine ⟨(hs.2 p.1 ?_).trans e,n,ne,nf,d⟩
   intro q
   rw [q,hoc] at e
   have q':oc=p.2:=Option.some.inj e
   exact d w' (by rw [← q'];exact hocd)
theorem qa2 {M:Model} {A:Around} {E:Value→Shared→Prop} {i:Nat} {x:Str} {v:V} {u:Value} {Q:Unit→Shared→Prop} (I:Inv X pins σ H s) (hN:X.N.Nodup) (hi:X.N[i]?=some x) (hx:Loc X.env.scope x) (r:RelV v u)
  (h:∀ s',Inv X pins (σ.set i (some v)) H s'→Q () s') (hf:X.fn x=true∨X.env.scope.names.lookup x=some .local:=by first | exact .inl rfl | exact .inr rfl | assumption):wpAny M A (storeName X.env x u) Q E s:=
 store_ok2 I hN hi hx r (fun s' I' _=>h s' I') hf
theorem Inv.call' {s':Shared} {ch:List Addr} (I:Inv X pins σ H s) (ho:s'.os=s.os) (u:Un (frs X.stack) ch H H' s.heap s'.heap) (hok:HOk X.prog X.w H' s'.heap) (hg:AllBare s'.gens)
  (hch:∀ b∈ch,(b∈X.ex∨X.s₀.heap.objs.size≤b)∧b≠X.env.locals∧(∀ x c,X.env.cells.lookup x=some c→c≠b)∧∀ p∈X.pn++pins,p.1≠b):Inv X pins σ H' s':=by
 obtain ⟨h',g',d',t',o'⟩:=s'
 have e:o'=s.os:=ho
 subst e
 exact I.call (g':=g') (t':=t') (d':=d') u hok hg hch
end
abbrev XK:=Value→Option Addr→Hp→Prop
abbrev St:=List (Option V)
abbrev VK:=V→Hp→Prop
abbrev TE:=St→Hp→VK→Prop
abbrev TT:=St→Hp→(Bool→Hp→Prop)→Prop
abbrev TA:=St→Hp→(List V→Hp→Prop)→Prop
structure Ends where
 nx:St→Hp→Prop
 rt:VK
 bk:St→Hp→Prop:=fun _ _=>False
 ct:St→Hp→Prop:=fun _ _=>False
abbrev TS:=Ends→St→Hp→Prop
def EP (X:Cx) (pins:List (Addr×Obj)) (σ:St) (Q:VK) (u:Value) (s':Shared):Prop:=∃ v H',Inv X pins σ H' s'∧RelV v u∧Q v H'
def TP (X:Cx) (pins:List (Addr×Obj)) (σ:St) (Q:Bool→Hp→Prop) (b:Bool) (s':Shared):Prop:=∃ H',Inv X pins σ H' s'∧Q b H'
def AP (X:Cx) (pins:List (Addr×Obj)) (σ:St) (Q:List V→Hp→Prop) (us:List Value) (s':Shared):Prop:=∃ vs H',Inv X pins σ H' s'∧Vals vs us∧Q vs H'
def SP (X:Cx) (pins:List (Addr×Obj)) (D:Ends) (f:Flow) (s':Shared):Prop:=
 match f with
 | .next=>∃ σ' H',Inv X pins σ' H' s'∧D.nx σ' H'
 | .brk=>∃ σ' H',Inv X pins σ' H' s'∧D.bk σ' H'
 | .cont=>∃ σ' H',Inv X pins σ' H' s'∧D.ct σ' H'
 | .ret u=>∃ v σ' H',Inv X pins σ' H' s'∧RelV v u∧D.rt v H'
def PE (X:Cx) (e:Expr) (t:TE):Prop:=
 ∀ (pins:List (Addr×Obj)) (s:Shared) (σ:St) (H:Hp) (Q:VK),Inv X pins σ H s→t σ H Q→wpAny (model X.prog X.w) X.A (eval e X.env) (EP X pins σ Q) X.xe s
def PT (X:Cx) (e:Expr) (t:TT):Prop:=
 ∀ (pins:List (Addr×Obj)) (s:Shared) (σ:St) (H:Hp) (Q:Bool→Hp→Prop),Inv X pins σ H s→t σ H Q→wpAny (model X.prog X.w) X.A (isTrue e X.env (eval e X.env)) (TP X pins σ Q) X.xe s
def PW (X:Cx) (e:Expr) (t:TT):Prop:=
 ∀ (whole:Sem Value) (pins:List (Addr×Obj)) (s:Shared) (σ:St) (H:Hp) (Q:Bool→Hp→Prop),Inv X pins σ H s→t σ H Q→wpAny (model X.prog X.w) X.A (isTrue e X.env whole) (TP X pins σ Q) X.xe s
theorem PW.pt {X:Cx} {e:Expr} {t:TT} (h:PW X e t):PT X e t:=h _
def PA (X:Cx) (es:List Expr) (t:TA):Prop:=
 ∀ (pos:Pos) (pins:List (Addr×Obj)) (s:Shared) (σ:St) (H:Hp) (Q:List V→Hp→Prop),Inv X pins σ H s→t σ H Q→wpAny (model X.prog X.w) X.A (spliced (backTo pos (starEach es X.env))) (AP X pins σ Q) X.xe s
def PS (X:Cx) (st:Stmt) (t:TS):Prop:=
 ∀ (pins:List (Addr×Obj)) (s:Shared) (σ:St) (H:Hp) (D:Ends),Inv X pins σ H s→t D σ H→wpAny (model X.prog X.w) X.A (exec st X.env) (SP X pins D) X.xe s
def PSs (X:Cx) (st:List Stmt) (t:TS):Prop:=
 ∀ (pins:List (Addr×Obj)) (s:Shared) (σ:St) (H:Hp) (D:Ends),Inv X pins σ H s→t D σ H→wpAny (model X.prog X.w) X.A (execs st X.env) (SP X pins D) X.xe s
theorem thn {α:Type} {t:Sem α} {Q Q':α→Shared→Prop} {M:Model} {A:Around} {E:Value→Shared→Prop} {s:Shared} (h:wpAny M A t Q E s) (hQ:∀ a s,Q a s→Q' a s):wpAny M A t Q' E s:=wpAny_mono h hQ fun _ _ x=>x
section
variable {X:Cx}
def qfD (i:Nat):TE:=fun σ H Q=>∃ v,σ[i]?=some (some v)∧Q v H
def tC (v:V):TE:=fun _ H Q=>Q v H
theorem pe_var {i:Nat} {x:Str} {pos:Pos} (hN:X.N[i]?=some x) (hv:Vis X.env.scope x) (hd:(x==("__debug__":Str))=false:=by decide) (hcd:(x==("__classdict__":Str))=false:=by decide):PE X (.Name x pos) (qfD i):=by
 intro pins s σ H Q I h
 obtain ⟨v,e,h⟩:=h
 obtain ⟨m,hn,hl⟩:=I.loc
 obtain ⟨u,r,l⟩:=hl i x v hN e hv
 have fin:EP X pins σ Q u s:=⟨v,H,I,r,h⟩
 rcases l with ⟨hk,hm⟩ | ⟨hk,c,hc,hcell⟩
 ·exact wpAny_Name (wpAny_loadName_local I.ok.kind hk hn hm fin) hd
 ·rcases hk with hk | hk
  ·exact wpAny_Name (wpAny_loadName_cell I.ok.kind hk hc hcell fin) hd
  ·exact wpAny_Name (wpAny_loadName_free I.ok.kind hk hc hcell fin hcd) hd
theorem qg {i j pos}:PE X (.Constant (.int i) j pos) (tC (.int i)):=fun _ _ _ H _ I h=>wpAny_Constant_int ⟨.int i,H,I.tok _,⟨_,rfl⟩,h⟩
theorem zS {b j pos}:PE X (.Constant (.bool b) j pos) (tC (.bl b)):=fun _ _ _ H _ I h=>Constant_bool ⟨.bl b,H,I,rfl,h⟩
theorem qbY {j pos}:PE X (.Constant .none j pos) (tC .non):=fun _ _ _ H _ I h=>Constant_none ⟨.non,H,I,rfl,h⟩
theorem qV {x j pos}:PE X (.Constant (.str x) j pos) (tC (.str x)):=fun _ _ _ H _ I h=>Calls.Constant_str ⟨.str x,H,I.tok _,⟨_,rfl⟩,h⟩
def Gl (X:Cx) (x:Str):Prop:=X.env.kindOf x=some .globalImplicit
theorem zp {E:Value→Shared→Prop} {pins:List (Addr×Obj)} {s:Shared} {σ:St} {H:Hp} {x:Str} {u:Value} {pos:Pos} {Q:Value→Shared→Prop} (I:Inv X pins σ H s) (hg:Gl X x) (hm:X.mg x=some u) (h:Q u s)
  (hd:(x==("__debug__":Str))=false:=by decide):wpAny (model X.prog X.w) X.A (eval (.Name x pos) X.env) Q E s:=
 Calls.Name_function_global I.ok.kind hg (Calls.loadGlobal_global (by rw [I.ok.glob];exact I.mod.glob.keeps I.bk) hm h) hd
theorem qaY {E:Value→Shared→Prop} {pins:List (Addr×Obj)} {s:Shared} {σ:St} {H:Hp} {x:Str} {u:Value} {pos:Pos} {Q:Value→Shared→Prop} (I:Inv X pins σ H s) (hg:Gl X x) (hm:X.mg x=none) (hv:bootBuiltins x=some u) (h:Q u s)
  (hn:x≠"__name__":=by decide) (hd:(x==("__debug__":Str))=false:=by decide):wpAny (model X.prog X.w) X.A (eval (.Name x pos) X.env) Q E s:=by
 obtain ⟨mb,h1,h2⟩:=I.mod.blt
 exact Calls.Name_function_global I.ok.kind hg (Calls.loadGlobal_builtin (by rw [I.ok.glob];exact I.mod.glob.keeps I.bk) hm (by rw [I.ok.blt];exact h1.keeps I.bk) ((h2 x hn).trans hv) h) hd
theorem pe_glob {x:Str} {v:V} {u:Value} {pos:Pos} (hg:Gl X x) (hm:X.mg x=some u) (r:RelV v u) (hd:(x==("__debug__":Str))=false:=by decide):PE X (.Name x pos) (tC v):=
 fun _ _ _ H _ I h=>zp I hg hm ⟨v,H,I,r,h⟩ hd
theorem jN {x:Str} {v:V} {u:Value} {pos:Pos} (hg:Gl X x) (hm:X.mg x=none) (hv:bootBuiltins x=some u) (r:RelV v u) (hn:x≠"__name__":=by decide) (hd:(x==("__debug__":Str))=false:=by decide):PE X (.Name x pos) (tC v):=
 fun _ _ _ H _ I h=>qaY I hg hm hv ⟨v,H,I,r,h⟩ hn hd
variable {a b:Expr} {ta tb:TE} {pos:Pos}
def tB (t:TE):TT:=fun σ H Q=>t σ H fun x H1=>∃ c,x=.bl c∧Q c H1
theorem jj {e:Expr} {t:TE} (h:PE X e t) (he:∀ whole,isTrue e X.env whole=(do let v ← whole;standAt e.pos;holding [v] (truthy v)):=by intro _;rfl):PT X e (tB t):=by
 intro pins s σ H Q I hw
 refine isTrue_plain (thn (h pins s σ H _ I hw) fun v s1 ⟨x,H1,I1,r1,q1⟩=>?_) (he _)
 obtain ⟨d,rfl,q⟩:=q1
 cases r1
 exact wpAny_truthy_bool ⟨H1,I1,q⟩
variable {tA tB':TT} {rest:List Expr}
def qgO (t u:TT):TT:=fun σ H Q=>t σ H fun c H1=>if c=true then u σ H1 Q else Q false H1
def tOr (t u:TT):TT:=fun σ H Q=>t σ H fun c H1=>if c=true then Q true H1 else u σ H1 Q
def qg4 (t:TT):TT:=fun σ H Q=>t σ H fun c H1=>Q (!c) H1
theorem qan (ha:PT X a tA):PW X (.BoolOp .And [a] pos) tA:=by
 intro wh pins s σ H Q I h
 refine isTrue_and (thn (ha pins s σ H Q I h) fun c s1 e=>?_)
 cases c with
 | true=>exact isTrue_and_nil e
 | false=>exact e
theorem qak (ha:PT X a tA):PW X (.BoolOp .Or [a] pos) tA:=by
 intro wh pins s σ H Q I h
 refine isTrue_or (thn (ha pins s σ H Q I h) fun c s1 e=>?_)
 cases c with
 | false=>exact isTrue_or_nil e
 | true=>exact e
theorem qa9 (ha:PT X a tA) (hb:PW X (.BoolOp .And (b::rest) pos) tB'):PW X (.BoolOp .And (a::b::rest) pos) (qgO tA tB'):=by
 intro wh pins s σ H Q I h
 refine isTrue_and (thn (ha pins s σ H _ I h) fun c s1 ⟨H1,I1,q1⟩=>?_)
 cases c with
 | true=>exact hb wh pins s1 σ H1 Q I1 q1
 | false=>exact ⟨H1,I1,q1⟩
theorem qbp (ha:PT X a tA) (hb:PW X (.BoolOp .Or (b::rest) pos) tB'):PW X (.BoolOp .Or (a::b::rest) pos) (tOr tA tB'):=by
 intro wh pins s σ H Q I h
 refine isTrue_or (thn (ha pins s σ H _ I h) fun c s1 ⟨H1,I1,q1⟩=>?_)
 cases c with
 | true=>exact ⟨H1,I1,q1⟩
 | false=>exact hb wh pins s1 σ H1 Q I1 q1
theorem jC (ha:PT X a tA):PT X (.UnaryOp .Not a pos) (qg4 tA):=by
 intro pins s σ H Q I h
 exact isTrue_not (ha pins s σ H (fun c H1=>Q (!c) H1) I h)
def qfY (ta tb:TE):TE:=fun σ H Q=>ta σ H fun x H1=>∃ c,x=.bl c∧if c=true then tb σ H1 Q else Q (.bl false) H1
def qg5 (ta tb:TE):TE:=fun σ H Q=>ta σ H fun x H1=>∃ c,x=.bl c∧if c=true then Q (.bl true) H1 else tb σ H1 Q
def tNotV (ta:TE):TE:=fun σ H Q=>ta σ H fun x H1=>∃ c,x=.bl c∧Q (.bl (!c)) H1
theorem qbr {op} {t:TE} (h:PE X a t):PE X (.BoolOp op [a] pos) t:=fun pins s σ H Q I hw=>BoolOp_one (h pins s σ H Q I hw)
theorem qbZ (ha:PE X a ta) (hb:PE X (.BoolOp .And (b::rest) pos) tb):PE X (.BoolOp .And (a::b::rest) pos) (qfY ta tb):=by
 intro pins s σ H Q I h
 refine BoolOp_and (thn (ha pins s σ H _ I h) fun v s1 ⟨x,H1,I1,r1,q1⟩=>?_)
 obtain ⟨c,rfl,q1⟩:=q1
 cases r1
 refine wpAny_truthy_bool ?_
 cases c with
 | true=>exact hb pins s1 σ H1 Q I1 q1
 | false=>exact ⟨.bl false,H1,I1,rfl,q1⟩
theorem pe_or (ha:PE X a ta) (hb:PE X (.BoolOp .Or (b::rest) pos) tb):PE X (.BoolOp .Or (a::b::rest) pos) (qg5 ta tb):=by
 intro pins s σ H Q I h
 refine BoolOp_or (thn (ha pins s σ H _ I h) fun v s1 ⟨x,H1,I1,r1,q1⟩=>?_)
 obtain ⟨c,rfl,q1⟩:=q1
 cases r1
 refine wpAny_truthy_bool ?_
 cases c with
 | false=>exact hb pins s1 σ H1 Q I1 q1
 | true=>exact ⟨.bl true,H1,I1,rfl,q1⟩
def tIf (t:TT) (ta tb:TE):TE:=fun σ H Q=>t σ H fun c H1=>if c=true then ta σ H1 Q else tb σ H1 Q
end
def SqL (K:PySem.W.Frag) (H:Hp) (a:Addr) (xs:List V):Prop:=
 Rd H a (.lst xs) ∨
  ∃ (o:Obj) (its:Array Value) (n:Nat),K.lookup a=some o∧o.cls=.type "list"∧o.dict=none∧o.data=.seq its n∧its.size≤sizeLine∧Vals xs its.toList
def SqT (K:PySem.W.Frag) (H:Hp) (a:Addr) (xs:List V):Prop:=
 Rd H a (.tup xs) ∨
  ∃ (o:Obj) (its:Array Value) (n:Nat),K.lookup a=some o∧o.cls=.type "tuple"∧o.data=.seq its n∧its.size≤sizeLine∧Vals xs its.toList
def absV:Value→Option V
 | .none=>some .non
 | .bool b=>some (.bl b)
 | .int i _=>some (.int i)
 | .str x _=>some (.str x)
 | .bytes b _=>some (.byt b)
 | .float b _=>some (.flt b)
 | .ref a=>some (.ref a)
 | .type n=>some (.ty n)
 | _=>none
theorem RelV.abs {x:V} {u:Value} (r:RelV x u):absV u=some x:=by
 cases x with
 | non=>cases r;rfl
 | bl _=>cases r;rfl
 | int _=>obtain ⟨t,rfl⟩:=r;rfl
 | str _=>obtain ⟨t,rfl⟩:=r;rfl
 | byt _=>obtain ⟨t,rfl⟩:=r;rfl
 | flt _=>obtain ⟨t,rfl⟩:=r;rfl
 | ref _=>cases r;rfl
 | ty _=>cases r;rfl
theorem RelV.inj {x y:V} {u:Value} (r:RelV x u) (q:RelV y u):x=y:=Option.some.inj (r.abs.symm.trans q.abs)
theorem Vals.inj:∀ {xs ys:List V} {us:List Value},Vals xs us→Vals ys us→xs=ys
 | _,_,_,.nil,.nil=>rfl
 | _,_,_,.cons r t,.cons r' t'=>by rw [r.inj r',Vals.inj t t']
section
variable {X:Cx} {pins:List (Addr×Obj)} {σ:St} {H:Hp} {s:Shared} {a:Addr} {xs ys:List V}
theorem SqL.of {K:PySem.W.Frag} (h:H a=some (.lst xs)):SqL K H a xs:=.inl (.inl h)
theorem SqT.of {K:PySem.W.Frag} (h:H a=some (.tup xs)):SqT K H a xs:=.inl (.inl h)
theorem Inv.list (I:Inv X pins σ H s) (h:SqL X.K H a xs):∃ its:List Value,Vals xs its∧PlainL s.heap a its.toArray∧xs.length≤sizeLine:=by
 rcases h with h | ⟨o,its,n,hk,hc,hd,hs,hz,r⟩
 ·obtain ⟨z,its,n,r,e⟩:=h.ok I.hok
  exact ⟨its,r,⟨_,n,e,rfl,rfl,rfl⟩,z⟩
 ·refine ⟨its.toList,r,⟨o,n,I.kIn a o hk,hc,hd,by simpa using hs⟩,?_⟩
  have e:=r.length
  simp only [Array.length_toList] at e
  omega
theorem Inv.tuple (I:Inv X pins σ H s) (h:SqT X.K H a xs):∃ its:List Value,Vals xs its∧IsTup s.heap a its.toArray∧xs.length≤sizeLine:=by
 rcases h with h | ⟨o,its,n,hk,hc,hs,hz,r⟩
 ·obtain ⟨z,its,r,p⟩:=h.ok I.hok
  exact ⟨its,r,p,z⟩
 ·refine ⟨its.toList,r,⟨o,I.kIn a o hk,hc,n,by simpa using hs⟩,?_⟩
  have e:=r.length
  simp only [Array.length_toList] at e
  omega
theorem Inv.list_inj (I:Inv X pins σ H s) (h:SqL X.K H a xs) (h':SqL X.K H a ys):xs=ys:=by
 obtain ⟨its,r,⟨o,n,e,_,_,d⟩,_⟩:=I.list h
 obtain ⟨its',r',⟨o',n',e',_,_,d'⟩,_⟩:=I.list h'
 rw [e] at e';cases e'
 rw [d] at d'
 injection d' with d1 _
 have:its=its':=by simpa using congrArg Array.toList d1
 subst this
 exact r.inj r'
theorem Inv.tuple_inj (I:Inv X pins σ H s) (h:SqT X.K H a xs) (h':SqT X.K H a ys):xs=ys:=by
 obtain ⟨its,r,⟨o,e,_,n,d⟩,_⟩:=I.tuple h
 obtain ⟨its',r',⟨o',e',_,n',d'⟩,_⟩:=I.tuple h'
 rw [e] at e';cases e'
 rw [d] at d'
 injection d' with d1 _
 have:its=its':=by simpa using congrArg Array.toList d1
 subst this
 exact r.inj r'
end
abbrev Cx.wish (X:Cx) (E:Value→Shared→Prop):Cx:={ X with xe:=E }
abbrev Cx.nox (X:Cx):Cx:=X.wish fun _ _=>False
theorem Cx.Ok.wish {X:Cx} (ok:X.Ok) (E:Value→Shared→Prop):(X.wish E).Ok:=
 ⟨ok.mod,ok.kind,ok.glob,ok.blt,ok.above,ok.inj,ok.has,ok.cab,ok.hd,ok.frames,ok.stk,ok.exf,ok.bs,ok.bsz,ok.noex,ok.exfs,ok.funs,ok.frf⟩
theorem Cx.Ok.unwish {X:Cx} {E:Value→Shared→Prop} (ok:(X.wish E).Ok):X.Ok:=
 ⟨ok.mod,ok.kind,ok.glob,ok.blt,ok.above,ok.inj,ok.has,ok.cab,ok.hd,ok.frames,ok.stk,ok.exf,ok.bs,ok.bsz,ok.noex,ok.exfs,ok.funs,ok.frf⟩
section
variable {X:Cx} {pins:List (Addr×Obj)} {σ:St} {H:Hp} {s:Shared} {E:Value→Shared→Prop}
theorem Inv.wish (I:Inv X pins σ H s) (E:Value→Shared→Prop):Inv (X.wish E) pins σ H s:=⟨I.ok.wish E,I.os,I.bare,I.base,I.loc,I.cell,I.free,I.freeC,I.pin,I.hok,I.len⟩
theorem Inv.unwish (I:Inv (X.wish E) pins σ H s):Inv X pins σ H s:=⟨I.ok.unwish,I.os,I.bare,I.base,I.loc,I.cell,I.free,I.freeC,I.pin,I.hok,I.len⟩
theorem SP.unwish {D:Ends} {f:Flow} {s':Shared} (h:SP (X.wish E) pins D f s'):SP X pins D f s':=by
 cases f with
 | next=>obtain ⟨σ',H',I,q⟩:=h;exact ⟨σ',H',I.unwish,q⟩
 | brk=>obtain ⟨σ',H',I,q⟩:=h;exact ⟨σ',H',I.unwish,q⟩
 | cont=>obtain ⟨σ',H',I,q⟩:=h;exact ⟨σ',H',I.unwish,q⟩
 | ret u=>obtain ⟨v,σ',H',I,r,q⟩:=h;exact ⟨v,σ',H',I.unwish,r,q⟩
theorem PSs.nox {st:List Stmt} {t:TS} (h:PSs X.nox st t):PSs X st t:=fun pins s σ H D I hw =>
 wpAny_mono (h pins s σ H D (I.wish _) hw) (fun _ _ q=>q.unwish) fun _ _ z=>False.elim z
end
section
variable {X:Cx} {st:Stmt} {rest:List Stmt} {t u:TS} {e:Expr} {te:TE} {pos:Pos}
def qfE:TS:=fun D σ H=>D.nx σ H
def qgF (t u:TS):TS:=fun D σ H=>t { D with nx:=u D } σ H
theorem qo:PSs X [] qfE:=fun _ _ σ H _ I h=>wpAny_execs_nil ⟨σ,H,I,h⟩
theorem qf (h1:PS X st t) (h2:PSs X rest u):PSs X (st::rest) (qgF t u):=by
 intro pins s σ H D I h
 refine wpAny_execs_cons (thn (h1 pins s σ H { D with nx:=u D } I h) fun f s1 q=>?_)
 cases f with
 | next =>
  obtain ⟨σ',H',I',q⟩:=q
  exact h2 pins s1 σ' H' D I' q
 | ret v=>exact q
 | brk=>exact q
 | cont=>exact q
theorem qe (h1:PS X st t):PSs X [st] t:=by
 intro pins s σ H D I h
 refine wpAny_execs_cons (thn (h1 pins s σ H D I h) fun f s1 q=>?_)
 cases f with
 | next=>exact wpAny_execs_nil q
 | ret v=>exact q
 | brk=>exact q
 | cont=>exact q
theorem Inv.quiet {pins:List (Addr×Obj)} {σ:St} {H:Hp} {s:Shared} (I:Inv X pins σ H s):interactive X.env=false:=by simp [interactive,I.ok.kind]
def qfZ (te:TE):TS:=fun D σ H=>te σ H fun _ H1=>D.nx σ H1
theorem qC (he:PE X e te) (hs:swapsWith e none pos.line X.env=pure false:=by rfl):PS X (.Expr e pos) (qfZ te):=by
 intro pins s σ H D I h
 exact wpAny_Expr_any (thn (he pins s σ H _ I h) fun v s1 ⟨x,H1,I1,r1,q1⟩=>⟨σ,H1,I1,q1⟩) I.quiet hs
def qgP (te:TE):TS:=fun D σ H=>te σ H D.rt
theorem qh (he:PE X e te):PS X (.Return (some e) pos) (qgP te):=by
 intro pins s σ H D I h
 exact wpAny_Return_some (thn (he pins s σ H _ I h) fun v s1 ⟨x,H1,I1,r1,q1⟩=>⟨x,σ,H1,I1,r1,q1⟩)
def tRetN:TS:=fun D _ H=>D.rt .non H
def qgQ (c:TT) (t u:TS):TS:=fun D σ H=>c σ H fun b H1=>if b=true then t D σ H1 else u D σ H1
theorem qN {c:Expr} {a b:List Stmt} {tc:TT} (hc:PT X c tc) (ha:PSs X a t) (hb:PSs X b u):PS X (.If c a b pos) (qgQ tc t u):=by
 intro pins s σ H D I h
 refine wpAny_If (thn (hc pins s σ H _ I h) fun d s1 ⟨H1,I1,q1⟩=>?_)
 cases d with
 | true=>exact ha pins s1 σ H1 D I1 q1
 | false=>exact hb pins s1 σ H1 D I1 q1
def tNever:TS:=fun _ _ _=>False
theorem zZ:PS X st tNever:=fun _ _ _ _ _ _ h=>h.elim
end
abbrev TG:=V→St→Hp→(St→Hp→Prop)→Prop
abbrev TGs:=List V→St→Hp→(St→Hp→Prop)→Prop
def PG (X:Cx) (target:Expr) (t:TG):Prop:=
 ∀ (pins:List (Addr×Obj)) (s:Shared) (σ:St) (H:Hp) (v:V) (u:Value) (Q:St→Hp→Prop),Inv X pins σ H s→RelV v u→t v σ H Q →
  wpAny (model X.prog X.w) X.A (assign target X.env u) (fun _ s'=>∃ σ' H',Inv X pins σ' H' s'∧Q σ' H') X.xe s
def PGs (X:Cx) (ts:List Expr) (t:TGs):Prop:=
 ∀ (pins:List (Addr×Obj)) (s:Shared) (σ:St) (H:Hp) (vs:List V) (us:List Value) (Q:St→Hp→Prop),Inv X pins σ H s→Vals vs us→t vs σ H Q →
  wpAny (model X.prog X.w) X.A (assignInOrder ((assignEach ts X.env).map (·.2)) us) (fun _ s'=>∃ σ' H',Inv X pins σ' H' s'∧Q σ' H') X.xe s
abbrev qf0:=V→V→V→Hp→(Hp→Prop)→Prop
def qgR (X:Cx) (t:qf0):Prop:=
 ∀ (pins:List (Addr×Obj)) (s:Shared) (σ:St) (H:Hp) (o i v:V) (ov iv u:Value) (Q:Hp→Prop),Inv X pins σ H s→RelV o ov→RelV i iv→RelV v u→t o i v H Q →
  wpAny (model X.prog X.w) X.A (setItem ov iv u) (fun _ s'=>∃ H',Inv X pins σ H' s'∧Q H') X.xe s
section
variable {X:Cx} {pos:Pos}
def qdY (i:Nat):TG:=fun v σ H Q=>Q (σ.set i (some v)) H
theorem qt {i:Nat} {x:Str} (hN:X.N.Nodup) (hi:X.N[i]?=some x) (hx:Loc X.env.scope x) (hf:X.fn x=true∨X.env.scope.names.lookup x=some .local:=by first | exact .inl rfl | exact .inr rfl | assumption):PG X (.Name x pos) (qdY i):=by
 intro pins s σ H v u Q I r h
 exact wpAny_assign_Name (qa2 I hN hi hx r (fun s' I'=>⟨_,H,I',h⟩) hf)
def gNil:TGs:=fun vs σ H Q=>vs=[]∧Q σ H
def gCons (t:TG) (u:TGs):TGs:=fun vs σ H Q=>∃ v r,vs=v::r∧t v σ H fun σ' H'=>u r σ' H' Q
theorem qbE:PGs X [] gNil:=by
 intro pins s σ H vs us Q I r h
 obtain ⟨e,h⟩:=h
 subst e
 cases r
 exact assignInOrder_nil ⟨σ,H,I,h⟩
theorem ju {e:Expr} {es:List Expr} {t:TG} {u:TGs} (h1:PG X e t) (h2:PGs X es u)
  (hs:(assignEach (e::es) X.env).map (·.2)=assign e X.env::(assignEach es X.env).map (·.2):=by rfl):PGs X (e::es) (gCons t u):=by
 intro pins s σ H vs us Q I r h
 obtain ⟨v,vr,e1,h⟩:=h
 subst e1
 cases r with
 | cons r rr =>
  rw [hs]
  refine assignInOrder_cons (thn (h1 pins s σ H _ _ _ I r h) fun _ s1 ⟨σ1,H1,I1,q1⟩=>?_)
  exact h2 pins s1 σ1 H1 _ _ Q I1 rr q1
def qgS (K:PySem.W.Frag) (n:Nat) (t:TGs):TG:=fun v σ H Q=>∃ a xs,v=.ref a∧SqT K H a xs∧xs.length=n∧t xs σ H Q
theorem qc6 {es:List Expr} {k:Nat} {t:TGs} {n:Nat} (hc:X.calm=true) (h:PGs X es t)
  (hn:(assignEach es X.env).length=n:=by rfl) (hst:(assignEach es X.env).findIdx? (·.1)=none:=by rfl):PG X (.Tuple es k pos) (qgS X.K n t):=by
 intro pins s σ H v u Q I r hw
 obtain ⟨a,xs,e1,hq,hl,hw⟩:=hw
 subst e1
 cases r
 obtain ⟨its,rv,ht,hz⟩:=I.tuple hq
 refine assign_Tuple_tuple (I.ok.hd hc) ht (by simp [hn,← hl,rv.length]) hst fun h' hx=>?_
 have I1:Inv X pins σ H { s with heap:=h' }:=I.kept (t':=s.toks) fun b o e=>hx b o (Nat.ne_of_lt (Heap.lt_size e)) e
 exact h pins _ σ H xs _ Q I1 (by simpa using rv) hw
def qg6 (to ti:TE) (t:qf0):TG:=fun v σ H Q=>to σ H fun o H1=>ti σ H1 fun i H2=>t o i v H2 fun H3=>Q σ H3
theorem qdZ {o i:Expr} {to ti:TE} {t:qf0} (ho:PE X o to) (hi:PE X i ti) (hs:qgR X t)
  (ha:∀ v,assign (.Subscript o i pos) X.env v=(do
   let ov ← holding [v] (eval o X.env)
   let iv ← holding [v,ov] (eval i X.env)
   standAt pos
   holding [v,ov,iv] (setItem ov iv v)
   release [v,ov,iv] []):=by intro _;rfl):PG X (.Subscript o i pos) (qg6 to ti t):=by
 intro pins s σ H v u Q I r h
 rw [ha]
 refine wpAny_bind (wpAny_holding (thn (ho pins s σ H _ I h) fun ov s1 ⟨x,H1,I1,r1,q1⟩=>?_))
 refine wpAny_bind (wpAny_holding (thn (hi pins s1 σ H1 _ I1 q1) fun iv s2 ⟨y,H2,I2,r2,q2⟩=>?_))
 refine wpAny_bind (wpAny_standAt (wpAny_bind (wpAny_holding (thn (hs pins s2 σ H2 x y v ov iv u _ I2 r1 r2 r q2) fun _ s3 ⟨H3,I3,q3⟩=>?_))))
 exact wpAny_release ⟨σ,H3,I3,q3⟩
def qfU (te:TE) (g:TG):TS:=fun D σ H=>te σ H fun x H1=>g x σ H1 D.nx
theorem qb0 {tg e:Expr} {te:TE} {g:TG} (he:PE X e te) (hg:PG X tg g) (hs:swapsWithSole [tg] e pos.line X.env=pure false:=by rfl) (hw:swappedStores [tg] e X.env=pure none:=by rfl)
  (h1:(assignEach [tg] X.env).map (·.2)=[assign tg X.env]:=by rfl):PS X (.Assign [tg] e pos) (qfU te g):=by
 intro pins s σ H D I h
 refine wpAny_Assign_stores (thn (he pins s σ H _ I h) fun v s1 ⟨x,H1,I1,r1,q1⟩=>?_) hs hw
 rw [h1]
 exact thn (hg pins s1 σ H1 x v _ I1 r1 q1) fun _ s2 q=>q
theorem qw {i:Nat} {x:Str} {e:Expr} {te:TE} {pos':Pos} (hN:X.N.Nodup) (hi:X.N[i]?=some x) (hx:Loc X.env.scope x) (he:PE X e te) (hs:swapsWith e (some (.Name x pos')) pos.line X.env=pure false:=by rfl) (hf:X.fn x=true∨X.env.scope.names.lookup x=some .local:=by first | exact .inl rfl | exact .inr rfl | assumption) :
  PS X (.Assign [.Name x pos'] e pos) (qfU te (qdY i)):=by
 intro pins s σ H D I h
 refine wpAny_Assign_Name (thn (he pins s σ H _ I h) fun v s1 ⟨y,H1,I1,r1,q1⟩=>?_) hs
 exact qa2 I1 hN hi hx r1 (fun s2 I2=>⟨_,H1,I2,q1⟩) hf
end
section
variable {X:Cx} {pos:Pos}
end
structure It where
 go:Nat→Hp→Prop
 yld:Nat→Hp→V→Hp→Prop
 stop:Nat→Hp→Prop
def qbo (X:Cx) (pins:List (Addr×Obj)) (H:Hp) (b:Addr):Prop:=
 H b=none∧b≠X.env.locals∧b∉X.fs∧(b∈X.ex∨X.s₀.heap.objs.size≤b)∧(∀ x c,X.env.cells.lookup x=some c→c≠b)∧∀ p∈X.pn++pins,p.1≠b
theorem Inv.fpOk {X:Cx} {pins:List (Addr×Obj)} {σ:St} {H H':Hp} {s:Shared} {b:Addr} (I:Inv X pins σ H s) (hb:s.heap.objs.size≤b) (hn:H' b=none):qbo X pins H' b:=by
 refine ⟨hn,Nat.ne_of_gt (Nat.lt_of_lt_of_le I.lt hb),I.nofs hb,.inr (Nat.le_trans I.sz hb),fun x c e z=>?_,fun p hp z=>?_⟩
 ·obtain ⟨v,q⟩:=I.cell x c e
  exact absurd (Nat.lt_of_lt_of_le q.lt (by rw [z];exact hb)) (Nat.lt_irrefl _)
 ·exact absurd (Nat.lt_of_lt_of_le (Heap.lt_size (I.pin p hp).1) (by rw [z];exact hb)) (Nat.lt_irrefl _)
structure Turn (P:Program) (w:World) (K:PySem.W.Frag) (tg:Expr) (J:It) (fp:List Addr) (it:Addr) (tn:Nat→Heap→Prop):Prop where
 mem:it∈fp
 obj:∀ i h,tn i h→∀ b∈fp,∃ o,h.get? b=some o∧∀ v,o.data≠.cell v
 keep:∀ i h h',tn i h→(∀ b∈fp,∀ o,h.get? b=some o→h'.get? b=some o)→tn i h'
 item:∀ (X:Cx),X.prog=P→X.w=w→X.K=K→X.calm=true→∀ (i:Nat) (pins:List (Addr×Obj)) (s:Shared) (σ:St) (H:Hp) (E:Value→Shared→Prop),Inv X pins σ H s→(∀ b∈fp,qbo X pins H b)→tn i s.heap→J.go i H →
  wpAny (model P w) X.A (pyNext (.ref it)) (fun r s1=>∃ u,r=some u ∧
   wpAny (model P w) X.A (letOwnedTupleGo tg (.ref it) u) (fun _ s2=>∃ x H',Inv X pins σ H' s2∧RelV x u∧J.yld i H x H'∧tn (i + 1) s2.heap∧∀ b∈fp,H' b=none) E s1) E s
 done:∀ (X:Cx),X.prog=P→X.w=w→X.K=K→X.calm=true→∀ (i:Nat) (pins:List (Addr×Obj)) (s:Shared) (σ:St) (H:Hp) (E:Value→Shared→Prop),Inv X pins σ H s→(∀ b∈fp,qbo X pins H b)→tn i s.heap→J.stop i H →
  wpAny (model P w) X.A (pyNext (.ref it)) (fun r s1=>r=none∧Inv X pins σ H s1) E s
 self:∀ (A:Around) (i:Nat) (s:Shared) (Q:Value→Shared→Prop) (E:Value→Shared→Prop),tn i s.heap→Q (.ref it) s→wpAny (model P w) A (pyIter (.ref it)) Q E s
abbrev TI:=St→Hp→(It→Hp→Prop)→Prop
def PIE (X:Cx) (pins:List (Addr×Obj)) (σ:St) (tg:Expr) (R:It→Hp→Prop) (itv:Value) (s2:Shared):Prop:=
 ∃ (it:Addr) (fp:List Addr) (tn:Nat→Heap→Prop) (J:It) (H':Hp),itv=.ref it∧Inv X pins σ H' s2∧Turn X.prog X.w X.K tg J fp it tn∧tn 0 s2.heap∧(∀ b∈fp,qbo X pins H' b)∧R J H'
def PI (X:Cx) (tg iter:Expr) (wi:TI):Prop:=
 ∀ (pins:List (Addr×Obj)) (s:Shared) (σ:St) (H:Hp) (R:It→Hp→Prop),Inv X pins σ H s→wi σ H R →
  wpAny (model X.prog X.w) X.A (eval iter X.env) (fun v s1=>wpAny (model X.prog X.w) X.A (pyIter v) (PIE X pins σ tg R) X.xe s1) X.xe s
theorem qd0 {M:Model} {A:Around} {E:Value→Shared→Prop} {s:Shared} {tg:Expr} {it:Addr} {u:Value} {o:Obj} {n:String} {vs:Array Value} {Q:Unit→Shared→Prop} (ho:s.heap.get? it=some o) (hc:o.cls=.type n) (hd:o.data=.fields vs)
    (hn:["enumerate", "zip", "dict_itemiterator", "dict_reverseitemiterator", "odict_iterator", "itertools.zip_longest", "itertools.pairwise"].contains n=false) (hQ:Q () s):wpAny M A (letOwnedTupleGo tg (.ref it) u) Q E s:=by
  unfold letOwnedTupleGo
  cases tg<;>first
    | exact wpAny_pure hQ
    | (cases u<;>first
        | exact wpAny_pure hQ
        | (refine wpAny_bind (wpAny_load ho ?_)
           rw [hc,hd]
           show wpAny M A (if (["enumerate", "zip", "dict_itemiterator", "dict_reverseitemiterator", "odict_iterator", "itertools.zip_longest", "itertools.pairwise"].contains n&&vs[0]?==some (rawInt _))=true then _ else _) Q E s
           rw [if_neg (by intro h;rw [hn,Bool.false_and] at h;cases h)]
           exact wpAny_pure hQ))
def Itl (K:PySem.W.Frag) (a:Addr):It:=
 ⟨fun i H=>∃ xs x,SqL K H a xs∧xs[i]?=some x,fun i H x H'=>H'=H∧∀ xs,SqL K H a xs→xs[i]?=some x,fun i H=>∃ xs,SqL K H a xs∧xs.length≤i⟩
def Itt (K:PySem.W.Frag) (a:Addr):It:=
 ⟨fun i H=>∃ xs x,SqT K H a xs∧xs[i]?=some x,fun i H x H'=>H'=H∧∀ xs,SqT K H a xs→xs[i]?=some x,fun i H=>∃ xs,SqT K H a xs∧xs.length≤i⟩
def Itr (lo:Int) (n:Nat):It:=⟨fun i _=>i < n,fun i H x H'=>H'=H∧x=.int (lo + i),fun i _=>n≤i⟩
theorem turn_list {P:Program} {w:World} {K:PySem.W.Frag} {tg:Expr} (a it:Addr):Turn P w K tg (Itl K a) [it] it (fun i h=>h.IsListIter it a i) where
 mem:=by simp
 obj:=fun i h st b hb=>by
  have e:b=it:=by simpa using hb
  subst e
  obtain ⟨o,e,c,d⟩:=st
  exact ⟨o,e,fun v z=>by rw [d] at z;cases z⟩
 keep:=fun i h h' st k=>st.at fun o e=>k it (by simp) o e
 item:=by
  intro X hP hw hK hc i pins s σ H E I hf st hg
  subst hP hw hK
  obtain ⟨xs,x,hq,hx⟩:=hg
  obtain ⟨its,rv,p,hz⟩:=I.list hq
  obtain ⟨u,hu,ru⟩:=rv.get hx
  obtain ⟨f0,f1,f2,f3,f4,f5⟩:=hf it (by simp)
  refine wpAny_pyNext_list_item st p.isList (x:=u) (by simpa using hu) fun h' st' sb=>?_
  have I1:Inv X pins σ H { s with heap:=h' }:=I.turned (t':=s.toks) (fun b o hb e=>(sb.2 b hb).trans e) f0 f1 f3 f4 f5
  obtain ⟨o,e,c,d⟩:=id st'
  exact ⟨u,rfl,qd0 (s:={ s with heap:=h' }) e c d (by decide) ⟨x,H,I1,ru,⟨rfl,fun ys hy=>by rw [I.list_inj hy hq];exact hx⟩,st',fun b hb=>(hf b hb).1⟩⟩
 done:=by
  intro X hP hw hK hc i pins s σ H E I hf st hg
  subst hP hw hK
  obtain ⟨xs,hq,hx⟩:=hg
  obtain ⟨its,rv,p,hz⟩:=I.list hq
  obtain ⟨f0,f1,f2,f3,f4,f5⟩:=hf it (by simp)
  have hl:=rv.length
  exact wpAny_pyNext_list_end (I.ok.hd hc) st p.isList (by simp;omega) fun h' eb=>⟨rfl,I.turned (t':=s.toks) (fun b o hb e=>eb b o hb e) f0 f1 f3 f4 f5⟩
 self:=fun _ _ _ _ _ st h=>wpAny_pyIter_listiter st h
theorem turn_tuple {P:Program} {w:World} {K:PySem.W.Frag} {tg:Expr} (a it:Addr):Turn P w K tg (Itt K a) [it] it (fun i h=>h.IsTupleIter it a i) where
 mem:=by simp
 obj:=fun i h st b hb=>by
  have e:b=it:=by simpa using hb
  subst e
  obtain ⟨o,e,c,d⟩:=st
  exact ⟨o,e,fun v z=>by rw [d] at z;cases z⟩
 keep:=fun i h h' st k=>st.at fun o e=>k it (by simp) o e
 item:=by
  intro X hP hw hK hc i pins s σ H E I hf st hg
  subst hP hw hK
  obtain ⟨xs,x,hq,hx⟩:=hg
  obtain ⟨its,rv,p,hz⟩:=I.tuple hq
  obtain ⟨u,hu,ru⟩:=rv.get hx
  obtain ⟨f0,f1,f2,f3,f4,f5⟩:=hf it (by simp)
  refine wpAny_pyNext_tuple_item st (show s.heap.IsTuple a its.toArray from p) (x:=u) (by simpa using hu) fun h' st' sb=>?_
  have I1:Inv X pins σ H { s with heap:=h' }:=I.turned (t':=s.toks) (fun b o hb e=>(sb.2 b hb).trans e) f0 f1 f3 f4 f5
  obtain ⟨o,e,c,d⟩:=id st'
  exact ⟨u,rfl,qd0 (s:={ s with heap:=h' }) e c d (by decide) ⟨x,H,I1,ru,⟨rfl,fun ys hy=>by rw [I.tuple_inj hy hq];exact hx⟩,st',fun b hb=>(hf b hb).1⟩⟩
 done:=by
  intro X hP hw hK hc i pins s σ H E I hf st hg
  subst hP hw hK
  obtain ⟨xs,hq,hx⟩:=hg
  obtain ⟨its,rv,p,hz⟩:=I.tuple hq
  obtain ⟨f0,f1,f2,f3,f4,f5⟩:=hf it (by simp)
  have hl:=rv.length
  exact wpAny_pyNext_tuple_end (I.ok.hd hc) st (show s.heap.IsTuple a its.toArray from p) (by simp;omega) fun h' eb=>⟨rfl,I.turned (t':=s.toks) (fun b o hb e=>eb b o hb e) f0 f1 f3 f4 f5⟩
 self:=fun _ _ _ _ _ st h=>wpAny_pyIter_tupleiter st h
theorem turn_range {P:Program} {w:World} {K:PySem.W.Frag} {tg:Expr} (it:Addr) (lo:Int) (n:Nat):Turn P w K tg (Itr lo n) [it] it (fun i h=>IsRangeIter h it (lo + (i:Nat) * 1) ((n:Int) - (i:Nat)) 1) where
 mem:=by simp
 obj:=fun i h st b hb=>by
  have e:b=it:=by simpa using hb
  subst e
  exact ⟨_,st,fun v z=>by
   have z':Data.fields _=Data.cell v:=z
   cases z'⟩
 keep:=fun i h h' st k=>k it (by simp) _ st
 item:=by
  intro X hP hw hK hc i pins s σ H E I hf st hg
  subst hP hw hK
  obtain ⟨f0,f1,f2,f3,f4,f5⟩:=hf it (by simp)
  have W:=Walks.range (prog:=X.prog) (w:=X.w) (I.ok.hd hc) it lo 1 n
  refine W.item i s _ _ hg st fun v h' tk hv st' kk=>?_
  obtain ⟨t,rfl⟩:=hv
  have I1:Inv X pins σ H { s with heap:=h',toks:=tk }:=I.turned (fun b o hb e=>kk b o (by simpa using hb) e) f0 f1 f3 f4 f5
  refine ⟨_,rfl,qd0 (s:={ s with heap:=h',toks:=tk }) (n:="range_iterator") st' rfl rfl (by decide) ⟨.int (lo + i),H,I1,⟨t,?_⟩,⟨rfl,rfl⟩,st',fun b hb=>(hf b hb).1⟩⟩
  rw [Int.mul_one]
 done:=by
  intro X hP hw hK hc i pins s σ H E I hf st hg
  subst hP hw hK
  obtain ⟨f0,f1,f2,f3,f4,f5⟩:=hf it (by simp)
  exact wpAny_pyNext_range_end (I.ok.hd hc) st (by have:n≤i:=hg;omega) fun h' eb=>⟨rfl,I.turned (t':=s.toks) (fun b o hb e=>eb b o hb e) f0 f1 f3 f4 f5⟩
 self:=fun _ _ _ _ _ st h=>wpAny_pyIter_rangeiter st h
section
variable {X:Cx} {tg:Expr}
theorem range_it {pins:List (Addr×Obj)} {σ:St} {H:Hp} {s:Shared} {R:It→Hp→Prop} {E:Value→Shared→Prop} {lo hi:Int} {t u v:Tok} {tk:Nat} (I:Inv X pins σ H s) (h1:-(2 ^ 62)≤lo) (h2:lo < 2 ^ 62) (h3:-(2 ^ 62)≤hi) (h4:hi < 2 ^ 62)
  (q:R (Itr lo (hi - lo).toNat) H):wpAny (model X.prog X.w) X.A (pyIter (.ref s.heap.objs.size)) (PIE X pins σ tg R) E { s with heap:=s.heap.push { cls:=.type "range",data:=.fields #[.int lo t,.int hi u,.int 1 v] },toks:=tk }:=by
 refine wpAny_pyIter_range (IsRange.new ..) (small_one h1 h2 h3 h4) ?_
 have I1:Inv X pins σ H { s with heap:=s.heap.push { cls:=.type "range",data:=.fields #[.int lo t,.int hi u,.int 1 v] },toks:=tk }:=I.kept fun b o e=>Heap.get?_push_of_some _ e
 refine ⟨(s.heap.push { cls:=.type "range",data:=.fields #[.int lo t,.int hi u,.int 1 v] }).objs.size,[(s.heap.push { cls:=.type "range",data:=.fields #[.int lo t,.int hi u,.int 1 v] }).objs.size],_,_,H,rfl,
  I1.kept (t':=tk) fun b o e=>Heap.get?_push_of_some _ e,turn_range _ lo (hi - lo).toNat,?_,fun b hb=>?_,q⟩
 ·have e1:lo + ((0:Nat):Int) * 1=lo:=by simp
  have e2:(((hi - lo).toNat:Nat):Int) - ((0:Nat):Int)=Builtin.Range.rangeSize lo hi 1:=by rw [rangeSize_one];split<;>omega
  show IsRangeIter _ _ (lo + ((0:Nat):Int) * 1) ((((hi - lo).toNat:Nat):Int) - ((0:Nat):Int)) 1
  rw [e1,e2]
  exact Heap.get?_push_size _ rfl
 ·have e:b=(s.heap.push { cls:=.type "range",data:=.fields #[.int lo t,.int hi u,.int 1 v] }).objs.size:=by simpa using hb
  subst e
  exact I1.fpOk (Nat.le_refl _) (I1.hok.fresh (Nat.le_refl _))
def qf1 (ta:TA):TI:=fun σ H R=>ta σ H fun vs H1=>∃ j:Int,vs=[.int j]∧-(2 ^ 62)≤j∧j < 2 ^ 62∧R (Itr 0 j.toNat) H1
theorem qax {a:Expr} {ta:TA} {p pos:Pos} (hg:Gl X "range") (hm:X.mg "range"=none) (ha:PA X [a] ta) (hs:starEach [a] X.env=[(false,eval a X.env)]:=by rfl):PI X tg (.Call (.Name "range" p) [a] [] pos) (qf1 ta):=by
 intro pins s σ H R I h
 refine Call_ (qaY I hg hm boot_range (PyProof.Rows.callWith_type1 (thn (ha pos pins s σ H _ I h) fun us s1 ⟨vs,H1,I1,r1,q1⟩=>?_) hs rfl))
 obtain ⟨j,e,q1,q2,q⟩:=q1
 subst e
 cases r1 with
 | cons r rr =>
  cases rr
  obtain ⟨t,rfl⟩:=r
  exact call_range_1 (range_it I1 (by omega) (by omega) q1 q2 (by simpa using q))
def qgT (wi:TI) (g:TG) (tb:TS):TS:=fun D σ H=>wi σ H fun J H1=>∃ W:Nat→Nat→St→Hp→Prop,(∃ m,W 0 m σ H1)∧∀ i m σ H,W i m σ H →
 (J.stop i H∧D.nx σ H)∨(J.go i H∧∃ N:St→Hp→Prop,(∀ σ' H',N σ' H'→∃ m',m' < m∧W (i + 1) m' σ' H')∧∀ x H',J.yld i H x H'→g x σ H' fun σ2 H2=>tb { D with nx:=N,ct:=N,bk:=D.nx } σ2 H2)
def qba (fp:List Addr) (h:Heap):List (Addr×Obj):=fp.filterMap fun b=>(h.get? b).map fun o=>(b,o)
theorem jI {fp:List Addr} {h:Heap} {b:Addr} {o:Obj} (hb:b∈fp) (e:h.get? b=some o):(b,o)∈qba fp h:=List.mem_filterMap.mpr ⟨b,hb,by rw [e];rfl⟩
theorem of_pinsAt {fp:List Addr} {h:Heap} {p:Addr×Obj} (hp:p∈qba fp h):p.1∈fp∧h.get? p.1=some p.2:=by
 obtain ⟨b,hb,e⟩:=List.mem_filterMap.mp hp
 cases q:h.get? b with
 | none=>rw [q] at e;cases e
 | some o =>
  rw [q] at e
  have e':(b,o)=p:=Option.some.inj e
  subst e'
  exact ⟨hb,q⟩
theorem Inv.pinned {pins:List (Addr×Obj)} {σ:St} {H:Hp} {s:Shared} {fp:List Addr} (I:Inv X pins σ H s) (hf:∀ b∈fp,qbo X pins H b) (ho:∀ b∈fp,∃ o,s.heap.get? b=some o∧∀ v,o.data≠.cell v):Inv X (pins++qba fp s.heap) σ H s:=
 I.pins_of fun p hp=>(List.mem_append.mp hp).elim (fun z=>I.pin p (List.mem_append_right _ z)) fun z=>by
  obtain ⟨hb,e⟩:=of_pinsAt z
  obtain ⟨f0,f1,f2,_⟩:=hf p.1 hb
  obtain ⟨o,e',d⟩:=ho p.1 hb
  rw [e] at e';cases e'
  exact ⟨e,f0,f1,f2,d⟩
theorem Inv.unpinned {pins pl:List (Addr×Obj)} {σ:St} {H:Hp} {s:Shared} (I:Inv X (pins++pl) σ H s):Inv X pins σ H s:=I.pins_of fun p hp=>I.pin p (List.mem_append_right _ (List.mem_append_left _ hp))
theorem j8 {iter:Expr} {body:List Stmt} {wi:TI} {g:TG} {tb:TS} {pos:Pos} (hp:PassesOwn (model X.prog X.w) X.A X.env X.xe) (hc:X.calm=true) (hi:PI X tg iter wi) (hg:PG X tg g) (hb:PSs X body tb)
  (hs:∀ x,foldedSetIterable iter X.env x=pure x:=by intro _;rfl):PS X (.For tg iter body [] pos) (qgT wi g tb):=by
 intro pins s σ H D I h
 refine wpAny_For (thn (hi pins s σ H _ I h) fun v s1 h1=>thn h1 fun itv s2 h2=>?_) hs
 obtain ⟨it,fp,tn,J,H2,e,I2,T,st2,f2,W,⟨m0,w0⟩,turn⟩:=h2
 subst e
 have stat:∀ {H':Hp},(∀ b∈fp,H' b=none)→∀ b∈fp,qbo X pins H' b:=fun hn b hb=>⟨hn b hb,(f2 b hb).2⟩
 refine codeAny_forLoop_any (fun n s'=>∃ i σ' H',Inv X pins σ' H' s'∧tn i s'.heap∧(∀ b∈fp,H' b=none)∧W i n σ' H') ?_ m0 ⟨0,σ,H2,I2,st2,fun b hb=>(f2 b hb).1,w0⟩
 rintro n s3 ⟨i,σ3,H3,I3,st3,fr3,w3⟩
 rcases turn i n σ3 H3 w3 with ⟨stop,qn⟩ | ⟨go,N,hN,step⟩
 ·refine wpAny_passesOwn hp (thn (T.done X rfl rfl rfl hc i pins s3 σ3 H3 X.xe I3 (stat fr3) st3 stop) fun r s4 ⟨hr,I4⟩=>?_)
  subst hr
  exact wpAny_execs_nil ⟨σ3,H3,I4,qn⟩
 ·refine wpAny_passesOwn hp (thn (T.item X rfl rfl rfl hc i pins s3 σ3 H3 X.xe I3 (stat fr3) st3 go) fun r s4 ⟨u,hr,h4⟩=>?_)
  subst hr
  refine wpAny_passesOwn hp (thn h4 fun _ s5 ⟨x,H5,I5,r5,y5,st5,fr5⟩=>?_)
  have I5':=I5.pinned (stat fr5) (T.obj _ _ st5)
  refine wpAny_passesOwn hp (thn (hg _ s5 σ3 H5 x u _ I5' r5 (step x H5 y5)) fun _ s6 ⟨σ6,H6,I6,q6⟩=>?_)
  refine wpAny_passesOwn hp (thn (hb _ s6 σ6 H6 _ I6 q6) fun f s7 q7=>?_)
  have again:∀ {σ7:St} {H7:Hp},Inv X (pins++qba fp s5.heap) σ7 H7 s7→N σ7 H7→∃ m,m < n∧∃ i σ' H',Inv X pins σ' H' s7∧tn i s7.heap∧(∀ b∈fp,H' b=none)∧W i m σ' H':=fun {σ7 H7} I7 n7=>by
   obtain ⟨m',hm,w7⟩:=hN σ7 H7 n7
   refine ⟨m',hm,i + 1,σ7,H7,I7.unpinned,T.keep _ _ _ st5 fun b hb o e=>(I7.pin (b,o) (List.mem_append_right _ (List.mem_append_right _ (jI hb e)))).1,fun b hb=>?_,w7⟩
   obtain ⟨o,e,d⟩:=T.obj _ _ st5 b hb
   exact (I7.pin (b,o) (List.mem_append_right _ (List.mem_append_right _ (jI hb e)))).2.1
  cases f with
  | next=>obtain ⟨σ7,H7,I7,n7⟩:=q7;exact again I7 n7
  | cont=>obtain ⟨σ7,H7,I7,n7⟩:=q7;exact again I7 n7
  | brk=>obtain ⟨σ7,H7,I7,q7⟩:=q7;exact ⟨σ7,H7,I7.unpinned,q7⟩
  | ret v=>obtain ⟨x7,σ7,H7,I7,r7,q7⟩:=q7;exact ⟨x7,σ7,H7,I7.unpinned,r7,q7⟩
end
theorem jO {K:PySem.W.Frag} {a:Addr} {xs:List V} {g:TG} {tb:TS} {D:Ends} {σ:St} {H:Hp} (Pv:Nat→St→Hp→Prop) (h0:Pv 0 σ H) (hl:∀ i σ H,i≤xs.length→Pv i σ H→SqL K H a xs)
  (hs:∀ i x σ H,xs[i]?=some x→Pv i σ H→g x σ H fun σ2 H2=>tb { D with nx:=Pv (i + 1),ct:=Pv (i + 1),bk:=D.nx } σ2 H2) (hd:∀ σ H,Pv xs.length σ H→D.nx σ H) :
  ∃ W:Nat→Nat→St→Hp→Prop,(∃ m,W 0 m σ H)∧∀ i m σ H,W i m σ H →
   ((Itl K a).stop i H∧D.nx σ H)∨((Itl K a).go i H∧∃ N:St→Hp→Prop,(∀ σ' H',N σ' H'→∃ m',m' < m∧W (i + 1) m' σ' H')∧∀ x H',(Itl K a).yld i H x H'→g x σ H' fun σ2 H2=>tb { D with nx:=N,ct:=N,bk:=D.nx } σ2 H2):=by
 refine ⟨fun i m σ H=>m=xs.length - i∧i≤xs.length∧Pv i σ H,⟨xs.length,by simp,Nat.zero_le _,h0⟩,?_⟩
 rintro i m σ H ⟨rfl,hi,p⟩
 have q:=hl i σ H hi p
 by_cases hlt:i < xs.length
 ·refine .inr ⟨⟨xs,xs[i],q,by simp [hlt]⟩,Pv (i + 1),fun σ' H' p'=>⟨xs.length - (i + 1),by omega,rfl,hlt,p'⟩,fun x H' y=>?_⟩
  obtain ⟨e,y⟩:=y
  subst e
  exact hs i x σ _ (y xs q) p
 ·have e:i=xs.length:=by omega
  subst e
  exact .inl ⟨⟨xs,q,Nat.le_refl _⟩,hd σ H p⟩
theorem qd1 {K:PySem.W.Frag} {a:Addr} {xs:List V} {g:TG} {tb:TS} {D:Ends} {σ:St} {H:Hp} (Pv:Nat→St→Hp→Prop) (h0:Pv 0 σ H) (hl:∀ i σ H,i≤xs.length→Pv i σ H→SqT K H a xs)
  (hs:∀ i x σ H,xs[i]?=some x→Pv i σ H→g x σ H fun σ2 H2=>tb { D with nx:=Pv (i + 1),ct:=Pv (i + 1),bk:=D.nx } σ2 H2) (hd:∀ σ H,Pv xs.length σ H→D.nx σ H) :
  ∃ W:Nat→Nat→St→Hp→Prop,(∃ m,W 0 m σ H)∧∀ i m σ H,W i m σ H →
   ((Itt K a).stop i H∧D.nx σ H)∨((Itt K a).go i H∧∃ N:St→Hp→Prop,(∀ σ' H',N σ' H'→∃ m',m' < m∧W (i + 1) m' σ' H')∧∀ x H',(Itt K a).yld i H x H'→g x σ H' fun σ2 H2=>tb { D with nx:=N,ct:=N,bk:=D.nx } σ2 H2):=by
 refine ⟨fun i m σ H=>m=xs.length - i∧i≤xs.length∧Pv i σ H,⟨xs.length,by simp,Nat.zero_le _,h0⟩,?_⟩
 rintro i m σ H ⟨rfl,hi,p⟩
 have q:=hl i σ H hi p
 by_cases hlt:i < xs.length
 ·refine .inr ⟨⟨xs,xs[i],q,by simp [hlt]⟩,Pv (i + 1),fun σ' H' p'=>⟨xs.length - (i + 1),by omega,rfl,hlt,p'⟩,fun x H' y=>?_⟩
  obtain ⟨e,y⟩:=y
  subst e
  exact hs i x σ _ (y xs q) p
 ·have e:i=xs.length:=by omega
  subst e
  exact .inl ⟨⟨xs,q,Nat.le_refl _⟩,hd σ H p⟩
theorem qb1 {lo:Int} {n:Nat} {g:TG} {tb:TS} {D:Ends} {σ:St} {H:Hp} (Pv:Nat→St→Hp→Prop) (h0:Pv 0 σ H)
  (hs:∀ i σ H,i < n→Pv i σ H→g (.int (lo + i)) σ H fun σ2 H2=>tb { D with nx:=Pv (i + 1),ct:=Pv (i + 1),bk:=D.nx } σ2 H2) (hd:∀ σ H,Pv n σ H→D.nx σ H) :
  ∃ W:Nat→Nat→St→Hp→Prop,(∃ m,W 0 m σ H)∧∀ i m σ H,W i m σ H →
   ((Itr lo n).stop i H∧D.nx σ H)∨((Itr lo n).go i H∧∃ N:St→Hp→Prop,(∀ σ' H',N σ' H'→∃ m',m' < m∧W (i + 1) m' σ' H')∧∀ x H',(Itr lo n).yld i H x H'→g x σ H' fun σ2 H2=>tb { D with nx:=N,ct:=N,bk:=D.nx } σ2 H2):=by
 refine ⟨fun i m σ H=>m=n - i∧i≤n∧Pv i σ H,⟨n,by simp,Nat.zero_le _,h0⟩,?_⟩
 rintro i m σ H ⟨rfl,hi,p⟩
 by_cases hlt:i < n
 ·refine .inr ⟨hlt,Pv (i + 1),fun σ' H' p'=>⟨n - (i + 1),by omega,rfl,hlt,p'⟩,fun x H' y=>?_⟩
  obtain ⟨e,y⟩:=y
  subst e y
  exact hs i σ _ hlt p
 ·have e:i=n:=by omega
  subst e
  exact .inl ⟨Nat.le_refl _,hd σ H p⟩
abbrev R2:=V→V→Hp→VK→Prop
def OpR (X:Cx) (f:Value→Value→Sem Value) (r:R2):Prop:=
 ∀ (pins:List (Addr×Obj)) (s:Shared) (σ:St) (H:Hp) (x y:V) (v u:Value) (Q:VK),Inv X pins σ H s→RelV x v→RelV y u→r x y H Q →
  wpAny (model X.prog X.w) X.A (f v u) (EP X pins σ Q) X.xe s
def UnR (X:Cx) (f:Value→Sem Value) (r:V→Hp→VK→Prop):Prop:=
 ∀ (pins:List (Addr×Obj)) (s:Shared) (σ:St) (H:Hp) (x:V) (v:Value) (Q:VK),Inv X pins σ H s→RelV x v→r x H Q →
  wpAny (model X.prog X.w) X.A (f v) (EP X pins σ Q) X.xe s
def zE (X:Cx) (f:Value) (r:List V→Hp→VK→Prop):Prop:=
 ∀ (pins:List (Addr×Obj)) (s:Shared) (σ:St) (H:Hp) (xs:List V) (us:List Value) (Q:VK),Inv X pins σ H s→Vals xs us→r xs H Q →
  wpAny (model X.prog X.w) X.A (call f us) (EP X pins σ Q) X.xe s
def tOp (r:R2) (ta tb:TE):TE:=fun σ H Q=>ta σ H fun x H1=>tb σ H1 fun y H2=>r x y H2 Q
def tUn (r:V→Hp→VK→Prop) (ta:TE):TE:=fun σ H Q=>ta σ H fun x H1=>r x H1 Q
def rI (C:Int→Int→Prop) (g:Int→Int→V):R2:=fun x y H Q=>∃ i j,x=.int i∧y=.int j∧C i j∧Q (g i j) H
def rI0 (g:Int→Int→V):R2:=fun x y H Q=>∃ i j,x=.int i∧y=.int j∧Q (g i j) H
def rU (g:Int→V):V→Hp→VK→Prop:=fun x H Q=>∃ i,x=.int i∧Q (g i) H
section
variable {X:Cx} {a b c:Expr} {ta tb tc:TE} {pos:Pos}
theorem qgU (ha:PE X a ta) (hb:PE X b tb) {pins:List (Addr×Obj)} {s:Shared} {σ:St} {H:Hp} {R:V→V→Hp→Prop} (I:Inv X pins σ H s)
  (h:ta σ H fun x H1=>tb σ H1 fun y H2=>R x y H2) {Q:Value→Shared→Prop} {f:Value→Value→Sem Value}
  (hf:∀ v u s2 x y H2,Inv X pins σ H2 s2→RelV x v→RelV y u→R x y H2→wpAny (model X.prog X.w) X.A (f v u) Q X.xe s2) :
  wpAny (model X.prog X.w) X.A (eval a X.env) (fun v s₁=>wpAny (model X.prog X.w) X.A (eval b X.env) (fun u s₂=>wpAny (model X.prog X.w) X.A (f v u) Q X.xe s₂) X.xe s₁) X.xe s:=by
 refine thn (ha pins s σ H _ I h) fun v s1 ⟨x,H1,I1,r1,q1⟩=>?_
 refine thn (hb pins s1 σ H1 _ I1 q1) fun u s2 ⟨y,H2,I2,r2,q2⟩=>?_
 exact hf v u s2 x y H2 I2 r1 r2 q2
theorem qu {op:Operator} {r:R2} (ho:OpR X (binaryOp op) r) (ha:PE X a ta) (hb:PE X b tb):PE X (.BinOp a op b pos) (tOp r ta tb):=by
 intro pins s σ H Q I h
 exact wpAny_BinOp (qgU ha hb I h fun v u s2 x y H2 I2 rx ry q=>ho pins s2 σ H2 x y v u Q I2 rx ry q)
theorem qdJ {op:UnaryOp} {r:V→Hp→VK→Prop} (ho:UnR X (unaryOp op) r) (ha:PE X a ta):PE X (.UnaryOp op a pos) (tUn r ta):=by
 intro pins s σ H Q I h
 exact UnaryOp_ (thn (ha pins s σ H _ I h) fun v s1 ⟨x,H1,I1,r1,q1⟩=>ho pins s1 σ H1 x v Q I1 r1 q1)
theorem opI {f:Value→Value→Sem Value} {C:Int→Int→Prop} {g:Int→Int→Int}
  (rule:∀ (i j:Int) (t u:Tok) (s:Shared) (Q:Value→Shared→Prop) (E:Value→Shared→Prop),C i j→Q (.int (g i j) s.toks) { s with toks:=s.toks + 1 }→wpAny (model X.prog X.w) X.A (f (.int i t) (.int j u)) Q E s) :
  OpR X f (rI C fun i j=>.int (g i j)):=by
 intro pins s σ H x y v u Q I rx ry h
 obtain ⟨i,j,rfl,rfl,hc,q⟩:=h
 obtain ⟨t,rfl⟩:=rx
 obtain ⟨t',rfl⟩:=ry
 exact rule i j t t' s _ _ hc ⟨.int (g i j),H,I.tok _,⟨_,rfl⟩,q⟩
theorem qgG {f:Value→Value→Sem Value} {g:Int→Int→Int}
  (rule:∀ (i j:Int) (t u:Tok) (s:Shared) (Q:Value→Shared→Prop) (E:Value→Shared→Prop),Q (.int (g i j) s.toks) { s with toks:=s.toks + 1 }→wpAny (model X.prog X.w) X.A (f (.int i t) (.int j u)) Q E s) :
  OpR X f (rI0 fun i j=>.int (g i j)):=by
 intro pins s σ H x y v u Q I rx ry h
 obtain ⟨i,j,rfl,rfl,q⟩:=h
 obtain ⟨t,rfl⟩:=rx
 obtain ⟨t',rfl⟩:=ry
 exact rule i j t t' s _ _ ⟨.int (g i j),H,I.tok _,⟨_,rfl⟩,q⟩
theorem qgV {f:Value→Value→Sem Value} {g:Int→Int→Bool}
  (rule:∀ (i j:Int) (t u:Tok) (s:Shared) (Q:Value→Shared→Prop) (E:Value→Shared→Prop),Q (.bool (g i j)) s→wpAny (model X.prog X.w) X.A (f (.int i t) (.int j u)) Q E s) :
  OpR X f (rI0 fun i j=>.bl (g i j)):=by
 intro pins s σ H x y v u Q I rx ry h
 obtain ⟨i,j,rfl,rfl,q⟩:=h
 obtain ⟨t,rfl⟩:=rx
 obtain ⟨t',rfl⟩:=ry
 exact rule i j t t' s _ _ ⟨.bl (g i j),H,I,rfl,q⟩
def CDiv (i j:Int):Prop:=0 < j∧j < 1073741824
def qg7 (i j:Int):Prop:=0≤j∧j≤1000000∧i.natAbs < 2 ^ 64
def CMul (i j:Int):Prop:=(-(2 ^ 64) < i∧i < 2 ^ 64)∨(-(2 ^ 64) < j∧j < 2 ^ 64)
theorem CMul.ok {i j:Int} (h:CMul i j):IntMulOk i j:=by
 rcases h with ⟨h1,h2⟩ | ⟨h1,h2⟩
 ·exact .of_left (intBits_le_64 h1 h2)
 ·exact .of_right (intBits_le_64 h1 h2)
theorem two_pow_nn (k:Nat):(0:Int)≤2 ^ k:=by
 rw [two_pow_cast]
 exact Int.natCast_nonneg _
theorem op_add:OpR X (binaryOp .Add) (rI0 fun i j=>.int (i + j)):=qgG fun _ _ _ _ _ _ _ q=>add_int q
theorem qc7:OpR X (binaryOp .Sub) (rI0 fun i j=>.int (i - j)):=qgG fun _ _ _ _ _ _ _ q=>sub_int q
theorem op_mul:OpR X (binaryOp .Mult) (rI CMul fun i j=>.int (i * j)):=opI fun _ _ _ _ _ _ _ hc q=>mul_int q hc.ok
theorem qbF:OpR X (binaryOp .FloorDiv) (rI CDiv fun i j=>.int (i / j)):=opI fun i j _ _ _ _ _ hc q=>by
 have h1:(0:Int) < j:=hc.1
 have h2:j < 1073741824:=hc.2
 exact floordiv_int (by omega) (by rw [Int.fdiv_eq_ediv_of_nonneg i (by omega)];exact q) (.inl (PyProof.noPylong_small (by omega)))
theorem ze:OpR X (binaryOp .Mod) (rI (fun _ j=>0 < j) fun i j=>.int (i % j)):=opI fun i j _ _ _ _ _ hc q=>by
 have h1:(0:Int) < j:=hc
 exact mod_int' (by omega) (by rw [Int.fmod_eq_emod_of_nonneg i (by omega)];exact q)
theorem op_pow:OpR X (binaryOp .Pow) (rI qg7 fun i j=>.int (i ^ j.toNat)):=opI fun _ _ _ _ _ _ _ hc q=>pow_int_small hc.1 hc.2.1 hc.2.2 q
theorem qeX:OpR X (binaryOp .LShift) (rI qg7 fun i j=>.int (i * 2 ^ j.toNat)):=opI fun _ _ _ _ _ _ _ hc q=>lshift_int_small hc.1 hc.2.1 hc.2.2 q
theorem qeY:OpR X (binaryOp .RShift) (rI (fun _ j=>0≤j) fun i j=>.int (i / 2 ^ j.toNat)):=opI fun i j _ _ _ _ _ hc q =>
 rshift_int hc (by rw [Int.fdiv_eq_ediv_of_nonneg i (two_pow_nn _)];exact q)
theorem qeZ:OpR X (binaryOp .BitAnd) (rI0 fun i j=>.int (Builtin.bitAnd i j)):=qgG fun _ _ _ _ _ _ _ q=>and_int q
theorem qf2:OpR X (binaryOp .BitOr) (rI0 fun i j=>.int (Builtin.bitOr i j)):=qgG fun _ _ _ _ _ _ _ q=>or_int q
theorem unI {f:Value→Sem Value} {g:Int→Int}
  (rule:∀ (i:Int) (t:Tok) (s:Shared) (Q:Value→Shared→Prop) (E:Value→Shared→Prop),Q (.int (g i) s.toks) { s with toks:=s.toks + 1 }→wpAny (model X.prog X.w) X.A (f (.int i t)) Q E s) :
  UnR X f (rU fun i=>.int (g i)):=by
 intro pins s σ H x v Q I rx h
 obtain ⟨i,rfl,q⟩:=h
 obtain ⟨t,rfl⟩:=rx
 exact rule i t s _ _ ⟨.int (g i),H,I.tok _,⟨_,rfl⟩,q⟩
theorem qbs:UnR X (unaryOp .USub) (rU fun i=>.int (-i)):=unI fun _ _ _ _ _ q=>neg_int q
end
def scal:V→V→Bool
 | .non,.non=>true | .non,.int _=>true | .int _,.non=>true | .non,.bl _=>true | .bl _,.non=>true | .non,.str _=>true | .str _,.non=>true
 | .int _,.int _=>true | .bl _,.bl _=>true | .str _,.str _=>true | .byt _,.byt _=>true
 | .int _,.str _=>true | .str _,.int _=>true | .bl _,.str _=>true | .str _,.bl _=>true
 | _,_=>false
def rEq:R2:=fun x y H Q=>scal x y=true∧Q (.bl (decide (x=y))) H
theorem dec_bl {i j:Bool}:decide (V.bl i=V.bl j)=(i==j):=by
 rw [Bool.eq_iff_iff]
 simp
section
variable {X:Cx} {a b c:Expr} {ta tb tc:TE} {pos:Pos}
theorem qd2 {pins:List (Addr×Obj)} {σ:St} {H:Hp} {s:Shared} {Q:VK} {k k':Bool} (I:Inv X pins σ H s) (q:Q (.bl k) H) (e:k=k'):EP X pins σ Q (.bool k') s:=by
 subst e
 exact ⟨.bl k,H,I,rfl,q⟩
theorem op_le:OpR X (compareOp .LtE) (rI0 fun i j=>.bl (decide (i≤j))):=qgV fun _ _ _ _ _ _ _ q=>le_int q
theorem qdK:OpR X (compareOp .Gt) (rI0 fun i j=>.bl (decide (j < i))):=qgV fun _ _ _ _ _ _ _ q=>gt_int q
theorem op_ge:OpR X (compareOp .GtE) (rI0 fun i j=>.bl (decide (j≤i))):=qgV fun _ _ _ _ _ _ _ q=>ge_int q
theorem op_isN:OpR X (compareOp .Is) (fun x y H Q=>y=.non∧Q (.bl (decide (x=.non))) H):=by
 intro pins s σ H x y v u Q I rx ry h
 obtain ⟨rfl,q⟩:=h
 cases ry
 refine is_none_gen (qd2 I q ?_)
 cases x<;>first
  | (cases rx;rfl)
  | (obtain ⟨t,rfl⟩:=rx;rfl)
theorem qx (b:Expr) {op:CmpOp} (h:op≠.In:=by decide) (h2:op≠.NotIn:=by decide):behindInMarks op b=false:=by
 have e1:(op==CmpOp.In)=false:=by cases op<;>first | rfl | exact absurd rfl h
 have e2:(op==CmpOp.NotIn)=false:=by cases op<;>first | rfl | exact absurd rfl h2
 cases b<;>simp [behindInMarks,e1,e2]
theorem jP {op:CmpOp} {r:R2} (ho:OpR X (compareOp op) r) (ha:PE X a ta) (hb:PE X b tb) (hm:behindInMarks op b=false):PE X (.Compare a [op] [b] pos) (tOp r ta tb):=by
 intro pins s σ H Q I h
 exact wpAny_Compare1 (qgU ha hb I h fun v u s2 x y H2 I2 rx ry q=>ho pins s2 σ H2 x y v u Q I2 rx ry q) hm
def qd3 (t:TE):TT:=fun σ H Q=>t σ H fun x H'=>∃ k,x=.bl k∧Q k H'
theorem qp {op:CmpOp} {r:R2} (ho:OpR X (compareOp op) r) (ha:PE X a ta) (hb:PE X b tb) (hm:behindInMarks op b=false):PT X (.Compare a [op] [b] pos) (qd3 (tOp r ta tb)):=by
 intro pins s σ H Q I h
 refine wpAny_isTrue_Compare1 (thn (ha pins s σ H _ I h) fun v s1 ⟨x,H1,I1,r1,q1⟩=>thn (hb pins s1 σ H1 _ I1 q1) fun u s2 ⟨y,H2,I2,r2,q2⟩ =>
  thn (ho pins s2 σ H2 x y v u _ I2 r1 r2 q2) fun c s3 ⟨z,H3,I3,r3,k,e,q3⟩=>?_) hm
 subst e
 cases r3
 exact wpAny_truthy_bool ⟨H3,I3,q3⟩
def qd4 (r r':R2) (ta tb tc:TE):TE:=fun σ H Q=>ta σ H fun x H1=>tb σ H1 fun y H2=>r x y H2 fun z H3=>∃ k,z=.bl k ∧
 (if k=true then tc σ H3 fun w' H4=>r' y w' H4 Q else Q (.bl false) H3)
theorem qc8 {op op':CmpOp} {r r':R2} (ho:OpR X (compareOp op) r) (ho':OpR X (compareOp op') r') (ha:PE X a ta) (hb:PE X b tb) (hc:PE X c tc)
  (hm:lastMarks [op,op'] [b,c]=false:=by with_unfolding_all rfl):PE X (.Compare a [op,op'] [b,c] pos) (qd4 r r' ta tb tc):=by
 intro pins s σ H Q I h
 refine Compare_chain (thn (ha pins s σ H _ I h) fun v s1 ⟨x,H1,I1,r1,q1⟩=>chain_link (thn (hb pins s1 σ H1 _ I1 q1) fun u s2 ⟨y,H2,I2,r2,q2⟩ =>
  thn (ho pins s2 σ H2 x y v u _ I2 r1 r2 q2) fun d s3 ⟨z,H3,I3,r3,k,e,q3⟩=>?_)) hm
 subst e
 cases r3
 refine wpAny_truthy_bool ?_
 cases k with
 | false=>exact ite_ff ⟨.bl false,H3,I3,rfl,q3⟩
 | true=>exact ite_tt (chain_last (thn (hc pins s3 σ H3 _ I3 q3) fun w' s4 ⟨z',H4,I4,r4,q4⟩=>ho' pins s4 σ H4 y z' u w' Q I4 r2 r4 q4))
theorem qc9 {op op':CmpOp} {r r':R2} (ho:OpR X (compareOp op) r) (ho':OpR X (compareOp op') r') (ha:PE X a ta) (hb:PE X b tb) (hc:PE X c tc)
  (hm:lastMarks [op,op'] [b,c]=false:=by with_unfolding_all rfl):PT X (.Compare a [op,op'] [b,c] pos) (qd3 (qd4 r r' ta tb tc)):=by
 intro pins s σ H Q I h
 refine isTrue_chain (thn (ha pins s σ H _ I h) fun v s1 ⟨x,H1,I1,r1,q1⟩=>test_link (thn (hb pins s1 σ H1 _ I1 q1) fun u s2 ⟨y,H2,I2,r2,q2⟩ =>
  thn (ho pins s2 σ H2 x y v u _ I2 r1 r2 q2) fun d s3 ⟨z,H3,I3,r3,k,e,q3⟩=>?_)) hm
 subst e
 cases r3
 refine wpAny_truthy_bool ?_
 cases k with
 | false =>
  obtain ⟨k',e',q'⟩:=q3
  cases e'
  exact ite_ff ⟨H3,I3,q'⟩
 | true =>
  refine ite_tt (test_last (thn (hc pins s3 σ H3 _ I3 q3) fun w' s4 ⟨z',H4,I4,r4,q4⟩=>thn (ho' pins s4 σ H4 y z' u w' _ I4 r2 r4 q4) fun d' s5 ⟨z2,H5,I5,r5,k2,e2,q5⟩=>?_))
  subst e2
  cases r5
  exact wpAny_truthy_bool ⟨H5,I5,q5⟩
theorem qbt:(sizeLine:Nat) < 2 ^ 63:=by rw [sizeLine_eq];decide
theorem op_add_str:OpR X (binaryOp .Add) (fun x y H Q=>∃ i j,x=.str i∧y=.str j∧i.length + j.length≤sizeLine∧Q (.str (i++j)) H):=by
 intro pins s σ H x y v u Q I rx ry h
 obtain ⟨i,j,rfl,rfl,hz,q⟩:=h
 obtain ⟨t,rfl⟩:=rx
 obtain ⟨t',rfl⟩:=ry
 exact add_str (fun t' tk=>⟨.str (i++j),H,I.tok _,⟨_,rfl⟩,q⟩) hz
theorem qbb {x:V} {us:List Value} (r:Vals [x] us):∃ u,us=[u]∧RelV x u:=by
 cases r with
 | cons r1 r2=>cases r2;exact ⟨_,rfl,r1⟩
theorem qd5 {x y:V} {us:List Value} (r:Vals [x,y] us):∃ u w',us=[u,w']∧RelV x u∧RelV y w':=by
 cases r with
 | cons r1 r2 =>
  cases r2 with
  | cons r3 r4=>cases r4;exact ⟨_,_,rfl,r1,r3⟩
theorem call_max2 (hc:X.calm=true):zE X (.builtin "max") (fun xs H Q=>∃ i j,xs=[.int i,.int j]∧Q (.int (if j > i then j else i)) H):=by
 intro pins s σ H xs us Q I r h
 obtain ⟨i,j,rfl,q⟩:=h
 obtain ⟨u,w',rfl,⟨t,rfl⟩,⟨t',rfl⟩⟩:=qd5 r
 refine max_two_ints (I.ok.hd hc) fun h' tk k=>⟨_,H,I.kept k,?_,q⟩
 by_cases hj:j > i
 ·rw [if_pos hj,if_pos hj];exact ⟨_,rfl⟩
 ·rw [if_neg hj,if_neg hj];exact ⟨_,rfl⟩
theorem qb2 (hc:X.calm=true):zE X (.builtin "min") (fun xs H Q=>∃ i j,xs=[.int i,.int j]∧Q (.int (if j < i then j else i)) H):=by
 intro pins s σ H xs us Q I r h
 obtain ⟨i,j,rfl,q⟩:=h
 obtain ⟨u,w',rfl,⟨t,rfl⟩,⟨t',rfl⟩⟩:=qd5 r
 refine min_two_ints (I.ok.hd hc) fun h' tk k=>⟨_,H,I.kept k,?_,q⟩
 by_cases hj:j < i
 ·rw [if_pos hj,if_pos hj];exact ⟨_,rfl⟩
 ·rw [if_neg hj,if_neg hj];exact ⟨_,rfl⟩
theorem call_int1:zE X (.type "int") (fun xs H Q=>(∃ i,xs=[.int i]∧Q (.int i) H)∨∃ k,xs=[.bl k]∧Q (.int (if k then 1 else 0)) H):=by
 intro pins s σ H xs us Q I r h
 rcases h with ⟨i,rfl,q⟩ | ⟨k,rfl,q⟩
 ·obtain ⟨u,rfl,t,rfl⟩:=qbb r
  exact call_int_int ⟨.int i,H,I,⟨_,rfl⟩,q⟩
 ·obtain ⟨u,rfl,r1⟩:=qbb r
  cases r1
  exact call_int_bool ⟨.int (if k then 1 else 0),H,I.tok _,⟨_,rfl⟩,q⟩
end
structure ObjM (h:Heap) (x dx C:Addr) (mA:Str→Option Value):Prop where
 obj:h.get? x=some (PySem.W.instObj C dx)
 ns:h.Ns1 dx mA
 ne:dx≠x
theorem qb3 {h:Heap} {dx:Addr} {mA:Str→Option Value} (n:h.Ns1 dx mA):∃ od,h.get? dx=some od∧∀ name,PySem.W.lookIn name od=some (mA name):=by
 obtain ⟨o,es,ep,ho,hd,hk,_,hm⟩:=n
 refine ⟨o,ho,fun name=>?_⟩
 have e:=hm name
 unfold nsFind findBy at e
 rw [← Array.find?_toList] at e
 unfold PySem.W.lookIn
 rw [hd]
 dsimp only
 split
 ·rename_i y q
  rw [q] at e
  exact congrArg some e
 ·rename_i q
  rw [q] at e
  have a:es.toList.any (·.refKey)=false:=by
   rw [List.any_eq_false]
   intro y hy
   obtain ⟨z,t,hkey⟩:=hk y (Array.mem_toList_iff.mp hy)
   simp [DictEntry.refKey,hkey]
  have a':¬ es.toList.any (·.refKey)=true:=by rw [a];exact Bool.false_ne_true
  rw [if_neg a']
  exact congrArg some e
theorem ObjM.look {h:Heap} {x dx C:Addr} {mA:Str→Option Value} (I:ObjM h x dx C mA):∃ od,PySem.W.InstAt h x (PySem.W.instObj C dx) C (some od)∧∀ name,PySem.W.lookIn name od=some (mA name):=
 let ⟨od,ho,hl⟩:=qb3 I.ns
 ⟨od,⟨I.obj,rfl,rfl,ho⟩,hl⟩
section
variable {prog:Program} {w:World} {A:Around} {E:Value→Shared→Prop} {s:Shared} {K:PySem.W.Frag} {x dx C f:Addr} {mA:Str→Option Value} {name:Str} {v:Value}
theorem get_map {expr:Bool} {Q:Value→Shared→Prop} (X:K.In s.heap) (I:ObjM s.heap x dx C mA) (hg:PySem.W.plainGet K C name=true) (hh:PySem.W.hasDictIn K C=true)
  (ha:PySem.W.findIn K (.ref C) name=some none) (hv:mA name=some v) (hv':PySem.W.handedIn v=true) (h:Q v { s with toks:=s.toks + 1 }) :
  wpAny (model prog w) A (getAttr (.ref x) name expr) Q E s:=by
 obtain ⟨od,J,hl⟩:=I.look
 exact PySem.W.get_value X J (PySem.W.plainGet_of hg).1 (PySem.W.findObj_own hh ha rfl (by rw [hl,hv])) hv' h
theorem get_meth {pl:Sem Bool} {Q:Value×List Value→Shared→Prop} (X:K.In s.heap) (I:ObjM s.heap x dx C mA) (hg:PySem.W.plainGet K C name=true)
  (hf:PySem.W.findIn K (.ref C) name=some (some (.ref f))) (ht:PySem.W.isFn K (.ref f)=true) (hv:mA name=none) (h:Q (.ref f,[.ref x]) s) :
  wpAny (model prog w) A (getMethod (.ref x) name pl) Q E s:=by
 obtain ⟨od,J,hl⟩:=I.look
 exact PySem.W.method_fn X J (PySem.W.plainGet_of hg).1 (PySem.W.plainGet_of hg).2 hf (beq_iff_eq.mp ht) (by show (PySem.W.lookIn name od).map (·.isSome)=some false;rw [hl,hv];rfl) h
theorem set_map {ns:List Str} {Q:Unit→Shared→Prop} (X:K.In s.heap) (I:ObjM s.heap x dx C mA)
  (hs:PySem.W.findIn K (.ref C) "__setattr__"=some (some (.builtin "object.__setattr__"))) (hp:PySem.W.plainOver K C=true) (ht:PySem.W.takerIn K C name=some none) (hh:PySem.W.hasDictIn K C=true)
  (hw:PySem.Within mA ns) (hsz:ns.length≤sizeLine)
  (h:∀ h',ObjM h' x dx C (fun y=>if y=name then some v else mA y)→Heap.SameBut dx s.heap h'→Q () { s with heap:=h',toks:=s.toks + 2 }) :
  wpAny (model prog w) A (setAttr (.ref x) name v) Q E s:=by
 obtain ⟨od,J,hl⟩:=I.look
 refine PySem.W.set_plain X J hs (PySem.W.osa_open (s:={ s with toks:=s.toks + 1 }) (r:=none) X J hp ht fun b=>?_)
 obtain ⟨cd,hc,hd'⟩:=PySem.W.any_some hh
 have hx:s.heap.get? x=some ⟨.ref C,some dx,.plain,#[]⟩:=I.obj
 refine wpAny_bind (wpAny_pure (wpAny_bind (wpAny_bind (wpAny_loadPart hx (wpAny_bind (PySem.W.Looks.here (s:={ s with toks:=s.toks + 1 }) (PySem.W.looks_clsIn X hc) ?_))))))
 rw [hd']
 refine wpAny_pure (a:=some dx) (wpAny_bind (wpAny_pure (wpAny_bind ?_)))
 refine wpAny_nsSet1 (s:={ s with toks:=s.toks + 1 }) I.ns fun h' hn2 hs2=>?_
 obtain ⟨oD,esD,epD,hoD,hdD,hcD⟩:=hn2.count (PySem.Within.cons name v hw)
 refine wpAny_bind (wpAny_lookBehind hoD (by rw [hdD];exact pastItsLine_dict (Nat.le_trans hcD (by rw [List.length_cons];omega))) ?_)
 exact wpAny_pure (h _ ⟨(hs2.2 _ (Ne.symm I.ne)).trans I.obj,hn2,I.ne⟩ hs2)
theorem qda {R:Result→Shared→Prop} {vs:List Value} {kw:List (Str×Value)} (X:K.In s.heap) (hm:PySem.W.makesIn K C=true)
  (hi:PySem.W.findIn K (.ref C) "__init__"=some (some (.ref f))) (hf:PySem.W.typeIn K (.ref f)=some (.type "function"))
  (h:codeAny (model prog w) (A.under (.builtin "type.__call__" ⟨.ref C::vs,kw⟩)) (.call (.ref f) ⟨.ref (s.heap.objs.size + 1)::vs,kw⟩) (PySem.W.InitBack (s.heap.objs.size + 1) R)
   { s with heap:=(s.heap.push PySem.W.emptyDict).push (PySem.W.instObj C s.heap.objs.size) }) :
  codeAny (model prog w) A (.call (.ref C) ⟨vs,kw⟩) R s:=by
 obtain ⟨hh,g,d,t,os⟩:=s
 exact PySem.W.make_core (PySem.W.makes_of X hm) (PySem.W.looks_findIn X hi) (fun self=>PySem.W.bind_fn X self hf) (.inl rfl) h
end
def jv (f:Str) (v:V):List (Str×V)→List (Str×V)
 | []=>[(f,v)]
 | (g,x)::r=>if g=f then (g,v)::r else (g,x)::jv f v r
theorem qv (f g:Str) (v:V):∀ fs:List (Str×V),(jv f v fs).lookup g=if g=f then some v else fs.lookup g
 | []=>by
  show List.lookup g [(f,v)]=_
  by_cases h:g=f
  ·have hb:(g==f)=true:=beq_iff_eq.mpr h
   simp only [List.lookup,hb,if_pos h]
  ·have hb:(g==f)=false:=beq_eq_false_iff_ne.mpr h
   simp only [List.lookup,hb,if_neg h]
 | (k,x)::r=>by
  have ih:=qv f g v r
  rw [show jv f v ((k,x)::r)=(if k=f then (k,v)::r else (k,x)::jv f v r) from rfl]
  by_cases hk:k=f
  ·rw [if_pos hk]
   by_cases h:g=k
   ·have hb:(g==k)=true:=beq_iff_eq.mpr h
    simp only [List.lookup,hb,if_pos (h.trans hk)]
   ·have hb:(g==k)=false:=beq_eq_false_iff_ne.mpr h
    simp only [List.lookup,hb,if_neg (fun e:g=f=>h (e.trans hk.symm))]
  ·rw [if_neg hk]
   by_cases h:g=k
   ·have hb:(g==k)=true:=beq_iff_eq.mpr h
    simp only [List.lookup,hb,if_neg (fun e:g=f=>hk (h.symm.trans e))]
   ·have hb:(g==k)=false:=beq_eq_false_iff_ne.mpr h
    simp only [List.lookup,hb]
    exact ih
theorem qbc (f:Str) (v:V):∀ fs:List (Str×V),f∈(jv f v fs).map (·.1)∧∀ g,g∈fs.map (·.1)→g∈(jv f v fs).map (·.1)
 | []=>⟨by simp [jv],fun g h=>by simp at h⟩
 | (k,x)::r=>by
  obtain ⟨i1,i2⟩:=qbc f v r
  rw [show jv f v ((k,x)::r)=(if k=f then (k,v)::r else (k,x)::jv f v r) from rfl]
  by_cases hk:k=f
  ·rw [if_pos hk]
   subst hk
   exact ⟨by simp,fun g h=>by simpa using h⟩
  ·rw [if_neg hk]
   refine ⟨?_,fun g h=>?_⟩
   ·rw [List.map_cons]
    exact List.mem_cons_of_mem _ i1
   ·rw [List.map_cons] at h ⊢
    rcases List.mem_cons.mp h with e | e
    ·exact List.mem_cons.mpr (.inl e)
    ·exact List.mem_cons_of_mem _ (i2 g e)
theorem jU (f:Str) (v:V):∀ fs:List (Str×V),(jv f v fs).length≤fs.length + 1
 | []=>by simp [jv]
 | (k,x)::r=>by
  have ih:=jU f v r
  rw [show jv f v ((k,x)::r)=(if k=f then (k,v)::r else (k,x)::jv f v r) from rfl]
  by_cases hk:k=f
  ·rw [if_pos hk,List.length_cons,List.length_cons];omega
  ·rw [if_neg hk,List.length_cons,List.length_cons];omega
theorem RelO.some_of {v:V} {o:Option Value} (r:RelO (some v) o):∃ u,o=some u∧RelV v u:=by
 cases o with
 | none=>exact (show False from r).elim
 | some u=>exact ⟨u,rfl,r⟩
theorem RelO.none_of {o:Option Value} (r:RelO none o):o=none:=by
 cases o with
 | none=>rfl
 | some u=>exact (show False from r).elim
theorem qb4 {v:V} {u:Value} (r:RelV v u):PySem.W.handedIn u=true:=by
 cases v with
 | non=>cases (show u=Value.none from r);rfl
 | bl b=>cases (show u=Value.bool b from r);rfl
 | int i=>obtain ⟨t,e⟩:=(show ∃ t,u=Value.int i t from r);cases e;rfl
 | str x=>obtain ⟨t,e⟩:=(show ∃ t,u=Value.str x t from r);cases e;rfl
 | byt b=>obtain ⟨t,e⟩:=(show ∃ t,u=Value.bytes b t from r);cases e;rfl
 | flt b=>obtain ⟨t,e⟩:=(show ∃ t,u=Value.float b t from r);cases e;rfl
 | ref a=>cases (show u=Value.ref a from r);rfl
 | ty n=>cases (show u=Value.type n from r);rfl
section
variable {P:Program} {w:World} {H H':Hp} {h h':Heap} {a C dx:Addr} {fs fs':List (Str×V)}
theorem qaQ (hok:HOk P w H h) (e:H a=some (.ins C dx fs)):∃ mA,ObjM h a dx C mA∧(∀ f,RelO (fs.lookup f) (mA f))∧PySem.Within mA (fs.map (·.1))∧fs.length≤1000∧H dx=some (.own a):=by
 obtain ⟨d,z,ne,ob,mA,n,r,q⟩:=(show ObjOk P w H h a (.ins C dx fs) from hok a _ e)
 exact ⟨mA,⟨ob,n,ne⟩,r,q,z,d⟩
end
structure Cls (K:PySem.W.Frag) (C:Addr):Prop where
 pg:PySem.W.plainGet K C Str.empty=true
 hd:PySem.W.hasDictIn K C=true
 po:PySem.W.plainOver K C=true
 sa:PySem.W.findIn K (.ref C) "__setattr__"=some (some (.builtin "object.__setattr__"))
theorem Cls.get {K:PySem.W.Frag} {C:Addr} (c:Cls K C) (f:Str):PySem.W.plainGet K C f=true:=c.pg
def NoAttr (K:PySem.W.Frag) (C:Addr) (f:Str):Prop:=PySem.W.findIn K (.ref C) f=some none
theorem NoAttr.taker {K:PySem.W.Frag} {C:Addr} {f:Str} (n:NoAttr K C f):PySem.W.takerIn K C f=some none:=by
 unfold PySem.W.takerIn
 rw [show PySem.W.findIn K (.ref C) f=some none from n]
 rfl
structure Con (K:PySem.W.Frag) (C:Addr) (f:Str) (v:V) (u:Value):Prop where
 at_:PySem.W.findIn K (.ref C) f=some (some u)
 rel:RelV v u
 get:PySem.W.specialIn K u "__get__"=some none
 cp:PySem.W.copiedNames.contains f=false
structure Meth (K:PySem.W.Frag) (C:Addr) (m:Str) (f:Addr):Prop where
 at_:PySem.W.findIn K (.ref C) m=some (some (.ref f))
 fn:PySem.W.isFn K (.ref f)=true
 kp:PySem.W.keepIn K (.ref f)=true
section
variable {X:Cx} {pins:List (Addr×Obj)} {σ:St} {H:Hp} {s:Shared} {a C dx:Addr} {fs:List (Str×V)} {f:Str} {v:V} {A:Around} {E:Value→Shared→Prop}
theorem getattr_ok {b:Bool} {Q:Value→Shared→Prop} (I:Inv X pins σ H s) (e:H a=some (.ins C dx fs)) (c:Cls X.K C) (n:NoAttr X.K C f) (l:fs.lookup f=some v)
  (h:∀ u s',Inv X pins σ H s'→RelV v u→Q u s'):wpAny (model X.prog X.w) A (getAttr (.ref a) f b) Q E s:=by
 obtain ⟨mA,O,r,_,_,_⟩:=qaQ I.hok e
 obtain ⟨u,hu,ru⟩:=RelO.some_of (v:=v) (o:=mA f) (by rw [← l];exact r f)
 exact get_map I.kIn O (c.get f) c.hd n hu (qb4 ru) (h u _ (I.tok _) ru)
theorem zi {m:Str} {g:Addr} {pl:Sem Bool} {Q:Value×List Value→Shared→Prop} (I:Inv X pins σ H s) (e:H a=some (.ins C dx fs)) (c:Cls X.K C) (k:Meth X.K C m g) (l:fs.lookup m=none)
  (h:Q (.ref g,[.ref a]) s):wpAny (model X.prog X.w) A (getMethod (.ref a) m pl) Q E s:=by
 obtain ⟨mA,O,r,_,_,_⟩:=qaQ I.hok e
 have hn:mA m=none:=RelO.none_of (by rw [← l];exact r m)
 exact get_meth I.kIn O (c.get m) k.at_ k.fn hn h
theorem setattr_ok {y:V} {u:Value} {Q:Unit→Shared→Prop} (I:Inv X pins σ H s) (e:H a=some (.ins C dx fs)) (c:Cls X.K C) (n:NoAttr X.K C f) (hl:fs.length < 1000) (ry:RelV y u)
  (h:∀ s',Inv X pins σ (upd H a (.ins C dx (jv f y fs))) s'→Q () s'):wpAny (model X.prog X.w) A (setAttr (.ref a) f u) Q E s:=by
 obtain ⟨mA,O,r,wi,_,ho⟩:=qaQ I.hok e
 have hz:(fs.map (·.1)).length≤sizeLine:=by rw [List.length_map,sizeLine_eq];omega
 refine set_map I.kIn O c.sa c.po n.taker c.hd wi hz fun h' O' sb=>h _ ?_
 have hd:∃ o,h'.get? dx=some o:=let ⟨o,_,_,e',_⟩:=O'.ns;⟨o,e'⟩
 refine I.write (x:=a) (e:=dx) (by rw [e];exact True.intro) (.inr ho) (fun b q hb z=>(sb.2 b hb).trans z) hd ?_
 refine ⟨by rw [qk O.ne];exact ho,?_,O.ne,O'.obj,_,O'.ns,fun g=>?_,fun g hg=>?_⟩
 ·have:=jU f y fs;omega
 ·show RelO ((jv f y fs).lookup g) (if g=f then some u else mA g)
  rw [qv]
  by_cases q:g=f
  ·rw [if_pos q,if_pos q];exact ry
  ·rw [if_neg q,if_neg q];exact r g
 ·by_cases q:g=f
  ·rw [q];exact (qbc f y fs).1
  ·refine (qbc f y fs).2 g (wi g fun z=>hg ?_)
   show (if g=f then some u else mA g)=none
   rw [if_neg q];exact z
theorem Inv.made (I:Inv X pins σ H s):Inv X pins σ (upd (upd H s.heap.objs.size (.own (s.heap.objs.size + 1))) (s.heap.objs.size + 1) (.ins C s.heap.objs.size []))
  { s with heap:=(s.heap.push PySem.W.emptyDict).push (PySem.W.instObj C s.heap.objs.size) }:=by
 have e1:(s.heap.push PySem.W.emptyDict).get? s.heap.objs.size=some PySem.W.emptyDict:=Heap.get?_push_size s.heap rfl
 have e2:((s.heap.push PySem.W.emptyDict).push (PySem.W.instObj C s.heap.objs.size)).get? (s.heap.objs.size + 1)=some (PySem.W.instObj C s.heap.objs.size):=by
  have:=Heap.get?_push_size (s.heap.push PySem.W.emptyDict) (o:=PySem.W.instObj C s.heap.objs.size) rfl
  rwa [Heap.size_push] at this
 have e3:(s.heap.push PySem.W.emptyDict).Ns s.heap.objs.size (fun _=>none):=⟨PySem.W.emptyDict,#[],_,e1,rfl,(fun e he=>absurd he (by simp)),fun _=>rfl⟩
 have I1:=I.laid (a:=s.heap.objs.size) (o:=.own (s.heap.objs.size + 1)) (h':=s.heap.push PySem.W.emptyDict) (t':=s.toks) (fun b u q=>Heap.get?_push_of_some _ q) (Nat.le_refl _) ⟨_,e1⟩
 refine I1.laid (a:=s.heap.objs.size + 1) (o:=.ins C s.heap.objs.size []) (t':=s.toks) (fun b u q=>Heap.get?_push_of_some _ q) (Nat.le_of_eq (Heap.size_push _ _)) ?_
 have ne:s.heap.objs.size≠s.heap.objs.size + 1:=Nat.ne_of_lt (Nat.lt_succ_self _)
 refine ⟨by rw [qk ne,qb],Nat.zero_le _,ne,e2,fun _=>none,(Heap.Ns1.of_empty e3).at fun o q=>Heap.get?_push_of_some _ q,fun _=>True.intro,fun y hy=>absurd rfl hy⟩
theorem attr_of {prog:Program} {w:World} {env:Env} {e:Expr} {f:Str} {pos:Pos} {s:Shared} {Q:Value→Shared→Prop} (hb:attributeBase e f env (eval e env)=eval e env)
  (h:wpAny (model prog w) A (eval e env) (fun o s₁=>wpAny (model prog w) A (getAttr o f true) Q E s₁) E s):wpAny (model prog w) A (eval (.Attribute e f pos) env) Q E s:=
 Attribute_any_ h (by rw [arm_eval_Attribute,hb])
end
section
variable {X:Cx} {o e value:Expr} {f:Str} {pos pos' tpos:Pos} {ta tv:TE}
end
section
variable {X:Cx} {pins:List (Addr×Obj)} {σ:St} {H:Hp} {s:Shared} {A:Around} {E:Value→Shared→Prop} {Q:Value→Shared→Prop} {c:Value} {b:Bool}
inductive TyOf (K:PySem.W.Frag) (H:Hp):V→Value→Prop where
 | non:TyOf K H .non (.type "NoneType")
 | bl (x:Bool):TyOf K H (.bl x) (.type "bool")
 | int (i:Int):TyOf K H (.int i) (.type "int")
 | str (x:Str):TyOf K H (.str x) (.type "str")
 | flt (x:UInt64):TyOf K H (.flt x) (.type "float")
 | lst {a:Addr} {xs:List V} (e:H a=some (.lst xs)):TyOf K H (.ref a) (.type "list")
 | frz {a:Addr} {o:Obj} {xs:List V} (e:H a=some (.frz o (.lst xs))):TyOf K H (.ref a) (.type "list")
 | tup {a:Addr} {xs:List V} (e:H a=some (.tup xs)):TyOf K H (.ref a) (.type "tuple")
 | dK {a:Addr} {kvs:List (Key×V)} (e:H a=some (.dK kvs)):TyOf K H (.ref a) (.type "dict")
 | dT {a:Addr} {kvs:List (List Key×V)} (e:H a=some (.dT kvs)):TyOf K H (.ref a) (.type "dict")
 | ins {a C dx:Addr} {fs:List (Str×V)} (e:H a=some (.ins C dx fs)) (cl:Cls K C) (ha:PySem.W.findIn K (.ref C) "__class__"=some (some (.builtin "object.__class__")))
   (hn:PySem.W.specialIn K (.builtin "object.__class__") "__get__"=some (some (.builtin "getset_descriptor.__get__"))) (htk:PySem.W.takesIn K (.builtin "object.__class__")=some true)
   (hm:PySem.W.mroIn K C (.type "object")=some true):TyOf K H (.ref a) (.ref C)
end
structure Room (k:Nat) (A:Around):Prop where
 hd:A.handled=none
 dp:A.depth + 3 * k + 5 < recursionLimit
 un:A.units + 16 * k + 200 < cLine
theorem Room.mono {j k:Nat} {A:Around} (r:Room k A) (h:j≤k):Room j A:=⟨r.hd,by have:=r.dp;omega,by have:=r.un;omega⟩
theorem Room.deeper {k:Nat} {A:Around} (r:Room (k + 1) A) (env:Env):Room k (A.deeper env):=
 ⟨r.hd,by have:=r.dp;show A.depth + 1 + 3 * k + 5 < _;omega,by have:=r.un;show A.units + 3 + 16 * k + 200 < _;omega⟩
theorem make_depth {A:Around} {C:Addr} {us:List Value} {kw:List (Str×Value)}:(A.under (.builtin "type.__call__" ⟨.ref C::us,kw⟩)).depth=A.depth + 1:=by
 first | rfl | simp [Around.under,Code.weight,Code.isCreation,Code.isGuard,Code.isCaller,Code.frames,Code.isFrame,guardIds]
theorem make_units {A:Around} {C:Addr} {us:List Value} {kw:List (Str×Value)}:(A.under (.builtin "type.__call__" ⟨.ref C::us,kw⟩)).units=A.units + 1:=by
 first | rfl | simp [Around.under,Code.cUnits,Code.frames,Code.isFrame]
theorem Room.make {k:Nat} {A:Around} (r:Room (k + 1) A) (C:Addr) (us:List Value) (kw:List (Str×Value)):Room k (A.under (.builtin "type.__call__" ⟨.ref C::us,kw⟩)):=
 ⟨r.hd,by have:=r.dp;rw [make_depth];omega,by have:=r.un;rw [make_units];omega⟩
theorem Room.depth {k:Nat} {A:Around} (r:Room k A):A.depth < recursionLimit:=by have:=r.dp;omega
def qdX:TA:=fun _ H Q=>Q [] H
def qdL (ta:TE) (tr:TA):TA:=fun σ H Q=>ta σ H fun x H1=>tr σ H1 fun xs H2=>Q (x::xs) H2
section
variable {X:Cx} {e:Expr} {es:List Expr} {te:TE} {t:TA} {pos:Pos}
theorem qc:PA X [] qdX:=fun _ _ _ _ H Q I h=>Calls.spliced_nil ⟨[],H,I,.nil,h⟩
theorem qa (ha:PE X e te) (hr:PA X es t) (hs:starEach (e::es) X.env=(false,eval e X.env)::starEach es X.env:=by rfl):PA X (e::es) (qdL te t):=by
 intro pos pins s σ H Q I h
 rw [hs]
 show wpAny _ _ (spliced ((false,eval e X.env)::backTo pos (starEach es X.env))) _ _ s
 refine Calls.spliced_cons (thn (ha pins s σ H _ I h) fun u s1 ⟨x,H1,I1,r1,q1⟩=>?_)
 exact thn (hr pos pins s1 σ H1 _ I1 q1) fun us s2 ⟨xs,H2,I2,r2,q2⟩=>⟨x::xs,H2,I2,.cons r1 r2,q2⟩
def qg8 (t:TA):TE:=fun σ H Q=>t σ H fun xs H1=>xs.length≤sizeLine∧∀ p,H1 p=none→Q (.ref p) (upd H1 p (.tup xs))
def qgW (t:TA):TE:=fun σ H Q=>t σ H fun xs H1=>xs.length≤sizeLine∧∀ p,H1 p=none→Q (.ref p) (upd H1 p (.lst xs))
theorem zQ {x1} (h:PA X es t):PE X (.Tuple es x1 pos) (qg8 t):=by
 intro pins s σ H Q I hq
 refine wpAny_Tuple_spliced (thn (h pos pins s σ H _ I hq) fun us s1 ⟨xs,H1,I1,r,z,q⟩=>⟨by rw [← r.length];exact z,?_⟩)
 have hf:H1 s1.heap.objs.size=none:=I1.hok.fresh (Nat.le_refl _)
 refine ⟨.ref s1.heap.objs.size,upd H1 s1.heap.objs.size (.tup xs),I1.laid (t':=s1.toks) (fun b u e=>Heap.get?_push_of_some _ e) (Nat.le_refl _) ?_,rfl,q _ hf⟩
 exact ⟨z,us,r,⟨_,Heap.get?_push_size _ rfl,rfl,_,rfl⟩⟩
theorem qA (h:PA X es t):PE X (.List es pos) (qgW t):=by
 intro pins s σ H Q I hq
 refine wpAny_List_spliced (thn (h pos pins s σ H _ I hq) fun us s1 ⟨xs,H1,I1,r,z,q⟩=>⟨by rw [← r.length];exact z,?_⟩)
 have hf:H1 s1.heap.objs.size=none:=I1.hok.fresh (Nat.le_refl _)
 refine ⟨.ref s1.heap.objs.size,upd H1 s1.heap.objs.size (.lst xs),I1.laid (t':=s1.toks) (fun b u e=>Heap.get?_push_of_some _ e) (Nat.le_refl _) ?_,rfl,q _ hf⟩
 exact ⟨z,us,0,r,Heap.get?_push_size _ rfl⟩
end
abbrev Sp:=List V→Hp→VK→XK→Prop
abbrev CXT:=List Env→Hp→Shared→XK→Value→Shared→Prop
structure Env0 (P:Program) (w:World) (K:PySem.W.Frag) (mg:Str→Option Value) (base:Heap) (A:Around) (outer:List Env) (s:Shared) (H:Hp):Prop where
 frames:A.frames=some outer
 mod:Mod K mg base
 bs:∀ b o,base.get? b=some o→s.heap.get? b=some o∧H b=none
 bsz:base.objs.size≤s.heap.objs.size
 funs:s.heap.FunFrames base outer
 frf:∀ b∈frs outer,H b=none
 hok:HOk P w H s.heap
 bare:AllBare s.gens
def CE (outer:List Env) (P:Program) (w:World) (H:Hp) (s:Shared) (Q:VK) (u:Value) (s':Shared):Prop:=
 ∃ v H',s'.os=s.os∧AllBare s'.gens∧Un (frs outer) [] H H' s.heap s'.heap∧HOk P w H' s'.heap∧RelV v u∧Q v H'
def CR (CX:CXT) (outer:List Env) (P:Program) (w:World) (H:Hp) (s:Shared) (Q:VK) (E:XK) (r:Result) (s':Shared):Prop:=
 match r with
 | .ok (.ret u)=>CE outer P w H s Q u s'
 | .ok _=>False
 | .error e=>CX outer H s E e s'
structure FnOk (P:Program) (w:World) (K:PySem.W.Frag) (mg:Str→Option Value) (base:Heap) (CX:CXT) (k:Nat) (f:Addr) (fd:FuncData) (ps:List Str) (sp:Sp):Prop where
 len:∀ vs H Q E,sp vs H Q E→vs.length=ps.length
 run:∀ (A:Around) (outer:List Env) (s:Shared) (H:Hp) (args:Args) (us:List Value) (vs:List V) (Q:VK) (E:XK),Room k A→Env0 P w K mg base A outer s H→BindsTo s fd args (ps.zip us)→Vals vs us→sp vs H Q E →
  codeAny (model P w) A (.call (.ref f) args) (CR CX outer P w H s Q E) s
theorem Env0.make {P:Program} {w:World} {K:PySem.W.Frag} {mg:Str→Option Value} {base:Heap} {A:Around} {outer:List Env} {s:Shared} {H:Hp} (e:Env0 P w K mg base A outer s H) (C:Addr) (us:List Value) (kw:List (Str×Value)) :
  Env0 P w K mg base (A.under (.builtin "type.__call__" ⟨.ref C::us,kw⟩)) outer s H:=⟨by first | exact e.frames | (simpa [Around.under,Code.envs,Code.isFrame,pushEnvs] using e.frames),e.mod,e.bs,e.bsz,e.funs,e.frf,e.hok,e.bare⟩
section
variable {X:Cx} {pins:List (Addr×Obj)} {σ:St} {H:Hp} {s s':Shared}
theorem Inv.env0 (I:Inv X pins σ H s):Env0 X.prog X.w X.K X.mg X.base X.A X.stack s H:=
 ⟨I.ok.frames,I.ok.mod,I.bs,Nat.le_trans I.ok.bsz I.sz,I.stack,I.stkFree,I.hok,I.bare⟩
theorem Inv.after {Q:VK} {u:Value} (I:Inv X pins σ H s) (h:CE X.stack X.prog X.w H s Q u s'):EP X pins σ Q u s':=by
 obtain ⟨v,H',os,bare,un,hok,r,q⟩:=h
 obtain ⟨hh,g,d,t,os'⟩:=s'
 obtain rfl:os'=s.os:=os
 exact ⟨v,H',I.call (h':=hh) (g':=g) (d':=d) (t':=t) (ch:=[]) un hok bare (fun b z=>absurd z (by simp)),r,q⟩
end
def qcG (sp:Sp) (dvs:List V) (E:XK) (t:TA):TE:=fun σ H Q=>t σ H fun vs H1=>sp (vs++dvs) H1 Q E
def qcH (C:Addr) (m:Str) (sp:Sp) (dvs:List V) (E:XK) (ta:TE) (t:TA):TE:=fun σ H Q=>ta σ H fun x H1=>∃ a dx fs,x=.ref a∧H1 a=some (.ins C dx fs)∧fs.lookup m=none ∧
 t σ H1 fun vs H2=>sp (x::(vs++dvs)) H2 Q E
def qfF (C:Addr) (sp:Sp) (dvs:List V) (E:XK) (t:TA):TE:=fun σ H Q=>t σ H fun vs H1=>∀ x dx,H1 x=none→H1 dx=none→dx≠x →
 sp (.ref x::(vs++dvs)) (upd (upd H1 dx (.own x)) x (.ins C dx [])) (fun v H2=>v=.non∧Q (.ref x) H2) E
def Binds (K:PySem.W.Frag) (fd:FuncData) (ps:List Str) (ds:List Value):Prop:=
 ∀ (s:Shared) (us:List Value),K.In s.heap→(us++ds).length=ps.length→BindsTo s fd ⟨us,[]⟩ (ps.zip (us++ds))
theorem Binds.all {K:PySem.W.Frag} {fd:FuncData} {ps:List Str} (h:∀ us:List Value,us.length=ps.length→bindArgs fd ⟨us,[]⟩=pure (ps.zip us)):Binds K fd ps []:=fun s us _ hl=>by
 rw [List.append_nil] at hl ⊢
 exact .of_eq (h us hl)
def zR (CX:CXT) (X:Cx) (E:XK):Prop:=∀ (pins:List (Addr×Obj)) (σ:St) (H:Hp) (s:Shared) (e:Value) (s':Shared),Inv X pins σ H s→CX X.stack H s E e s'→X.xe e s'
section
variable {X:Cx} {CX:CXT} {k:Nat} {f C:Addr} {fd:FuncData} {ps:List Str} {sp:Sp} {dvs:List V} {ds:List Value} {E:XK} {x m:Str} {p pos apos:Pos} {e o:Expr} {es:List Expr} {ta:TE} {t:TA}
theorem qdb {pins:List (Addr×Obj)} {σ:St} {H:Hp} {s:Shared} {Q:VK} {us:List Value} {vs:List V} (F:FnOk X.prog X.w X.K X.mg X.base CX k f fd ps sp) (hr:Room k X.A) (hb:Binds X.K fd ps ds) (hd:Vals dvs ds) (hx:zR CX X E)
  (I:Inv X pins σ H s) (r:Vals vs us) (h:sp (vs++dvs) H Q E):wpAny (model X.prog X.w) X.A (call (.ref f) us) (EP X pins σ Q) X.xe s:=by
 have r2:Vals (vs++dvs) (us++ds):=r.append hd
 have hl:(us++ds).length=ps.length:=by rw [← r2.length];exact F.len _ _ _ _ h
 refine wpAny_call (codeAny_mono (F.run X.A X.stack s H ⟨us,[]⟩ (us++ds) (vs++dvs) Q E hr I.env0 (hb s us I.kIn hl) r2 h) fun r s' hq=>?_)
 cases r with
 | error e=>exact hx pins σ H s e s' I hq
 | ok fl =>
  cases fl with
  | ret u=>exact I.after hq
  | next=>exact False.elim hq
  | brk=>exact False.elim hq
  | cont=>exact False.elim hq
theorem pe_call (F:FnOk X.prog X.w X.K X.mg X.base CX k f fd ps sp) (hr:Room k X.A) (hg:Gl X x) (hm:X.mg x=some (.ref f)) (hk:PySem.W.keepIn X.K (.ref f)=true) (hb:Binds X.K fd ps ds) (hd:Vals dvs ds) (hx:zR CX X E)
  (ha:PA X (e::es) t) (hdb:(x==("__debug__":Str))=false:=by decide) (he:starEach (e::es) X.env=(false,eval e X.env)::starEach es X.env:=by rfl) (hpl:(backTo pos (starEach es X.env)).any (·.1)=false:=by rfl) :
  PE X (.Call (.Name x p) (e::es) [] pos) (qcG sp dvs E t):=by
 intro pins s σ H Q I h
 refine wpAny_Call_Name_kw (zp I hg hm ?_ hdb)
 refine PySem.W.callWith_K (h₀:=X.base) I.ok.mod.kin hk (thn (ha pos pins s σ H _ I h) fun us s1 ⟨vs,H1,I1,r,q⟩=>⟨I1.kIn,?_⟩) he hpl
 exact qdb F hr hb hd hx I1 r q
theorem pe_meth {pl:Sem Bool} (he:PE X o ta) (c:Cls X.K C) (hm:Meth X.K C m f) (F:FnOk X.prog X.w X.K X.mg X.base CX k f fd ps sp) (hr:Room k X.A) (hb:Binds X.K fd ps ds) (hd:Vals dvs ds) (hx:zR CX X E) (ha:PA X (e::es) t)
  (hst:starEach (e::es) X.env=(false,eval e X.env)::starEach es X.env:=by rfl) (hpl:(backTo pos (starEach es X.env)).any (·.1)=false:=by rfl)
  (ht:eval (.Call (.Attribute o m apos) (e::es) [] pos) X.env=(do
   let ov ← eval o X.env
   standAt apos.atName
   let (f,first) ← holding [ov] (getMethod ov m pl)
   callWith pos f first (backTo pos (starEach (e::es) X.env)) (backToKw pos (keywordEach [] X.env))):=by rfl) :
  PE X (.Call (.Attribute o m apos) (e::es) [] pos) (qcH C m sp dvs E ta t):=by
 intro pins s σ H Q I h
 refine PySem.W.methodCall_KW (pl:=pl) (thn (he pins s σ H _ I h) fun u s1 ⟨x,H1,I1,rx,a,dx,fs,ex,ea,l,q⟩=>?_) ht
 subst ex
 obtain rfl:u=Value.ref a:=rx
 refine zi I1 ea c hm l ?_
 refine PySem.W.callWith_K (first:=[.ref a]) (h₀:=X.base) I.ok.mod.kin hm.kp (thn (ha pos pins s1 σ H1 _ I1 q) fun us s2 ⟨vs,H2,I2,r,q2⟩=>⟨I2.kIn,?_⟩) hst hpl
 exact qdb (us:=.ref a::us) (vs:=.ref a::vs) F hr hb hd hx I2 (.cons rfl r) q2
theorem pe_meth0 {pl:Sem Bool} (he:PE X o ta) (c:Cls X.K C) (hm:Meth X.K C m f) (F:FnOk X.prog X.w X.K X.mg X.base CX k f fd ps sp) (hr:Room k X.A) (hb:Binds X.K fd ps ds) (hd:Vals dvs ds) (hx:zR CX X E)
  (ht:eval (.Call (.Attribute o m apos) [] [] pos) X.env=(do
   let ov ← eval o X.env
   standAt apos.atName
   let (f,first) ← holding [ov] (getMethod ov m pl)
   callWith pos f first (backTo pos (starEach [] X.env)) (backToKw pos (keywordEach [] X.env))):=by rfl) :
  PE X (.Call (.Attribute o m apos) [] [] pos) (qcH C m sp dvs E ta qdX):=by
 intro pins s σ H Q I h
 refine PySem.W.methodCall_KW (pl:=pl) (thn (he pins s σ H _ I h) fun u s1 ⟨x,H1,I1,rx,a,dx,fs,ex,ea,l,q⟩=>?_) ht
 subst ex
 obtain rfl:u=Value.ref a:=rx
 refine zi I1 ea c hm l ?_
 exact PySem.W.callWith_K0 (first:=[.ref a]) I1.kIn hm.kp (qdb (us:=[.ref a]) (vs:=[.ref a]) F hr hb hd hx I1 (.cons rfl .nil) q)
structure Mk (K:PySem.W.Frag) (C f:Addr):Prop where
 makes:PySem.W.makesIn K C=true
 init:PySem.W.findIn K (.ref C) "__init__"=some (some (.ref f))
 fn:PySem.W.isFn K (.ref f)=true
 kp:PySem.W.keepIn K (.ref C)=true
theorem run_make {pins:List (Addr×Obj)} {σ:St} {H:Hp} {s:Shared} {Q:VK} {us:List Value} {vs:List V} (M:Mk X.K C f) (F:FnOk X.prog X.w X.K X.mg X.base CX k f fd ps sp) (hr:Room (k + 1) X.A) (hb:Binds X.K fd ps ds) (hd:Vals dvs ds)
  (hx:zR CX X E) (I:Inv X pins σ H s) (r:Vals vs us)
  (h:∀ x dx,H x=none→H dx=none→dx≠x→sp (.ref x::(vs++dvs)) (upd (upd H dx (.own x)) x (.ins C dx [])) (fun v H2=>v=.non∧Q (.ref x) H2) E) :
  wpAny (model X.prog X.w) X.A (call (.ref C) us) (EP X pins σ Q) X.xe s:=by
 have hq:=h (s.heap.objs.size + 1) s.heap.objs.size (I.hok.fresh (Nat.le_succ _)) (I.hok.fresh (Nat.le_refl _)) (Nat.ne_of_lt (Nat.lt_succ_self _))
 have I2:=Inv.made (C:=C) I
 have r2:Vals (V.ref (s.heap.objs.size + 1)::(vs++dvs)) (Value.ref (s.heap.objs.size + 1)::(us++ds)):=.cons rfl (r.append hd)
 have hl:(Value.ref (s.heap.objs.size + 1)::us++ds).length=ps.length:=by
  have e:=r2.length
  rw [F.len _ _ _ _ hq] at e
  exact e.symm
 refine wpAny_call (qda (f:=f) I.kIn M.makes M.init (beq_iff_eq.mp M.fn) (codeAny_mono (F.run _ X.stack _ _ ⟨Value.ref (s.heap.objs.size + 1)::us,[]⟩ (Value.ref (s.heap.objs.size + 1)::(us++ds)) _ _ E (hr.make C us [])
  (I2.env0.make C us []) (hb _ (Value.ref (s.heap.objs.size + 1)::us) I2.kIn hl) r2 hq) fun r s' hq'=>?_))
 cases r with
 | error e=>exact hx pins σ _ _ e s' I2 hq'
 | ok fl =>
  cases fl with
  | ret u =>
   obtain ⟨v,H',I3,rv,ev,q3⟩:=I2.after hq'
   subst ev
   exact ⟨rv,⟨V.ref (s.heap.objs.size + 1),H',I3,rfl,q3⟩⟩
  | next=>exact False.elim hq'
  | brk=>exact False.elim hq'
  | cont=>exact False.elim hq'
theorem pe_make (M:Mk X.K C f) (F:FnOk X.prog X.w X.K X.mg X.base CX k f fd ps sp) (hr:Room (k + 1) X.A) (hg:Gl X x) (hm:X.mg x=some (.ref C)) (hb:Binds X.K fd ps ds) (hd:Vals dvs ds) (hx:zR CX X E)
  (ha:PA X (e::es) t) (hdb:(x==("__debug__":Str))=false:=by decide) (he:starEach (e::es) X.env=(false,eval e X.env)::starEach es X.env:=by rfl) (hpl:(backTo pos (starEach es X.env)).any (·.1)=false:=by rfl) :
  PE X (.Call (.Name x p) (e::es) [] pos) (qfF C sp dvs E t):=by
 intro pins s σ H Q I h
 refine wpAny_Call_Name_kw (zp I hg hm ?_ hdb)
 refine PySem.W.callWith_K (h₀:=X.base) I.ok.mod.kin M.kp (thn (ha pos pins s σ H _ I h) fun us s1 ⟨vs,H1,I1,r,q⟩=>⟨I1.kIn,?_⟩) he hpl
 exact run_make M F hr hb hd hx I1 r q
end
def PK (X:Cx) (kws:List Keyword) (t:TA):Prop:=
 ∀ (pos:Pos) (pins:List (Addr×Obj)) (s:Shared) (σ:St) (H:Hp) (Q:List V→Hp→Prop),Inv X pins σ H s→t σ H Q→wpAny (model X.prog X.w) X.A (evalAll ((backToKw pos (keywordEach kws X.env)).map (·.2))) (AP X pins σ Q) X.xe s
section
variable {X:Cx} {CX:CXT} {k:Nat} {f C:Addr} {fd:FuncData} {ps ks:List Str} {sp:Sp} {E:XK} {x m:Str} {p pos apos kpos:Pos} {e o:Expr} {es:List Expr} {kws:List Keyword} {te ta:TE} {t tk:TA} {nm:Option Str}
theorem pk_nil:PK X [] qdX:=fun _ _ _ _ H Q I h=>wpAny_evalAll_nil ⟨[],H,I,.nil,h⟩
theorem pk_cons (ha:PE X e te) (hr:PK X kws t):PK X (⟨nm,e,kpos⟩::kws) (qdL te t):=by
 intro pos pins s σ H Q I h
 show wpAny _ _ (evalAll ((do let v ← eval e X.env;standAt pos;pure v)::(backToKw pos (keywordEach kws X.env)).map (·.2))) _ _ s
 refine wpAny_evalAll_cons (wpAny_bind (thn (ha pins s σ H _ I h) fun u s1 ⟨x,H1,I1,r1,q1⟩=>wpAny_bind (wpAny_standAt (wpAny_pure ?_))))
 exact thn (hr pos pins s1 σ H1 _ I1 q1) fun us s2 ⟨xs,H2,I2,r2,q2⟩=>⟨x::xs,H2,I2,.cons r1 r2,q2⟩
structure KBinds (K:PySem.W.Frag) (fd:FuncData) (ps ks:List Str) (g:List Value→List Value→List Value) (gV:List V→List V→List V):Prop where
 to:∀ (s:Shared) (us ws:List Value),K.In s.heap→(g us ws).length=ps.length→BindsTo s fd ⟨us,ks.zip ws⟩ (ps.zip (g us ws))
 rel:∀ {vs:List V} {us:List Value} {zs:List V} {ws:List Value},Vals vs us→Vals zs ws→Vals (gV vs zs) (g us ws)
variable {g:List Value→List Value→List Value} {gV:List V→List V→List V}
end
structure FnScope (N P:List Str) (sc:Scope):Prop where
 kind:sc.kind=.function
 co:sc.isCoroutine=false
 gen:sc.isGenerator=false
 nd:N.Nodup
 pre:N.take P.length=P
 par:∀ x∈P,sc.names.lookup x=some .local∨sc.names.lookup x=some .cell
 nofree:∀ y∈sc.names,y.2≠.free
theorem fS {N P:List Str} {sc:Scope} (a:sc.kind=.function:=by rfl) (b:sc.isCoroutine=false:=by rfl) (c:sc.isGenerator=false:=by rfl) (d:N.Nodup:=by decide +kernel) (e:N.take P.length=P:=by rfl) (f:∀ x∈P,sc.names.lookup x=some .local∨sc.names.lookup x=some .cell:=by decide +kernel) (g:∀ y∈sc.names,y.2≠.free:=by decide +kernel):FnScope N P sc:=⟨a,b,c,d,e,f,g⟩
theorem qb5 {kindOf:Str→Option NameKind} {x:Str}:∀ {binds:List (Str×Value)} {m:Str→Option Value},(∀ v,(x,v)∉binds)→bindL kindOf binds m x=m x
 | [],_,_=>rfl
 | (n,v)::r,m,h=>by
  unfold bindL
  rw [qb5 fun w hw=>h w (List.mem_cons_of_mem _ hw)]
  split
  ·have:x≠n:=by rintro rfl;exact h v List.mem_cons_self
   simp [this]
  ·rfl
theorem qb6 {kindOf:Str→Option NameKind} {x:Str}:∀ {binds:List (Str×Value)} {m:Str→Option Value},(∀ v,(x,v)∉binds)→bindC kindOf binds m x=m x
 | [],_,_=>rfl
 | (n,v)::r,m,h=>by
  unfold bindC
  rw [qb6 fun w hw=>h w (List.mem_cons_of_mem _ hw)]
  split
  ·rfl
  ·have:x≠n:=by rintro rfl;exact h v List.mem_cons_self
   simp [this]
theorem qb7 {kindOf:Str→Option NameKind} {x:Str} {v:Value}:∀ {P:List Str} {vs:List Value} {i:Nat} {m:Str→Option Value},P.Nodup→P[i]?=some x→vs[i]?=some v→kindOf x=some .local →
  bindL kindOf (P.zip vs) m x=some v
 | [],_,_,_,_,h,_,_=>by simp at h
 | _::_,[],_,_,_,_,h,_=>by simp at h
 | p::P,w::vs,0,m,nd,h1,h2,hk=>by
  simp at h1 h2;subst h1;subst h2
  show bindL kindOf ((p,w)::P.zip vs) m p=_
  unfold bindL
  rw [qb5 fun v hv=>(List.nodup_cons.mp nd).1 (List.of_mem_zip hv).1,if_pos hk]
  simp
 | p::P,w::vs,i + 1,m,nd,h1,h2,hk=>by
  show bindL kindOf ((p,w)::P.zip vs) m x=_
  unfold bindL
  exact qb7 (i:=i) (List.nodup_cons.mp nd).2 (by simpa using h1) (by simpa using h2) hk
theorem qb8 {kindOf:Str→Option NameKind} {x:Str} {v:Value}:∀ {P:List Str} {vs:List Value} {i:Nat} {m:Str→Option Value},P.Nodup→P[i]?=some x→vs[i]?=some v→kindOf x≠some .local →
  bindC kindOf (P.zip vs) m x=some v
 | [],_,_,_,_,h,_,_=>by simp at h
 | _::_,[],_,_,_,_,h,_=>by simp at h
 | p::P,w::vs,0,m,nd,h1,h2,hk=>by
  simp at h1 h2;subst h1;subst h2
  show bindC kindOf ((p,w)::P.zip vs) m p=_
  unfold bindC
  rw [qb6 fun v hv=>(List.nodup_cons.mp nd).1 (List.of_mem_zip hv).1,if_neg hk]
  simp
 | p::P,w::vs,i + 1,m,nd,h1,h2,hk=>by
  show bindC kindOf ((p,w)::P.zip vs) m x=_
  unfold bindC
  exact qb8 (i:=i) (List.nodup_cons.mp nd).2 (by simpa using h1) (by simpa using h2) hk
def jV (N:List Str) (vs:List V):St:=vs.map some++List.replicate (N.length - vs.length) none
def qb9 (CX:CXT) (P:Program) (w:World) (K:PySem.W.Frag) (mg:Str→Option Value) (base:Heap) (N:List Str) (qual:Str) (scope:Scope) (f:Addr) (cd:Value) (A:Around) (outer:List Env) (s:Shared) (H:Hp) (E:XK):Cx where
 prog:=P
 w:=w
 K:=K
 mg:=mg
 base:=base
 A:=A.deeper (envOfC qual scope s.heap.objs.size f cd)
 N:=N
 s₀:=s
 H₀:=H
 env:=envOfC qual scope s.heap.objs.size f cd
 outer:=outer
 stack:=envOfC qual scope s.heap.objs.size f cd::outer
 ex:=[]
 calm:=true
 fn:=fun _=>true
 pn:=[]
 xe:=fun e s'=>wpAny (model P w) (A.deeper (envOfC qual scope s.heap.objs.size f cd)) (leaving (envOfC qual scope s.heap.objs.size f cd) e) (fun _ s''=>CX outer H s E e s'') (fun e' s''=>CX outer H s E e' s'') s'
theorem qdc {sc:Scope} {n:Nat} {x:Str} (h:sc.names.lookup x=some .cell):∃ c,(cellsFrom n sc.names []).lookup x=some c:=by
 have q:=PySem.W.cellsFrom_some sc.names n [] (.inl h)
 exact Option.isSome_iff_exists.mp q
theorem qca {CX:CXT} {P:Program} {w:World} {K:PySem.W.Frag} {mg:Str→Option Value} {base:Heap} {N ps:List Str} {qual:Str} {scope:Scope} {f:Addr} {cd:Value} {A:Around} {outer:List Env} {s s1:Shared} {H:Hp} {E:XK} {us:List Value} {vs:List V}
  (S:FnScope N ps scope) (hd:A.handled=none) (e0:Env0 P w K mg base A outer s H) (hl:vs.length=ps.length) (r:Vals vs us)
  (x:InCallC s s.heap.objs.size (bindL (envOfC qual scope s.heap.objs.size f cd).kindOf (ps.zip us) fun _=>none) (cellsFrom (s.heap.objs.size + 1) scope.names []) (bindC (envOfC qual scope s.heap.objs.size f cd).kindOf (ps.zip us) fun _=>none) s1) :
  Inv (qb9 CX P w K mg base N qual scope f cd A outer s H E) [] (jV N vs) H s1:=by
 have hpl:ps.length≤N.length:=by have:=congrArg List.length S.pre;rw [List.length_take] at this;omega
 obtain ⟨h1,tk,rfl,hk⟩:=x.done
 have noA:∀ b:Addr,b∉(qb9 CX P w K mg base N qual scope f cd A outer s H E).ex:=fun b z=>absurd (show b∈([]:List Addr) from z) (by simp)
 refine ⟨⟨e0.mod,S.kind,rfl,rfl,Nat.le_refl _,fun y z c h1 h2=>?_,fun y hy=>?_,fun y c _ h=>?_,fun _=>hd,Around.frames_deeper e0.frames,.inr ⟨rfl,rfl⟩,fun b z=>absurd z (noA b),e0.bs,e0.bsz,fun b _ _=>noA b,fun b z=>absurd z (noA b),e0.funs,e0.frf⟩,
  rfl,e0.bare,Un.kept hk,⟨_,x.toInCall.ns,fun i y v h1 h2 h3=>?_⟩,fun y c h=>⟨_,x.cell y c h⟩,e0.hok.fresh (Nat.le_refl _),fun y c h=>?_,fun p hp=>absurd (show p∈([]:List (Addr×Obj)) from hp) (by simp),e0.hok.kept hk,?_⟩
 ·exact name_of_addr x.apart (PySem.mem_of_lookup h1) (PySem.mem_of_lookup h2)
 ·have hy:scope.names.lookup y=some .cell∨scope.names.lookup y=some .free:=hy
  rcases hy with hy | hy
  ·exact qdc hy
  ·exact absurd rfl (S.nofree _ (PySem.mem_of_lookup hy))
 ·exact Nat.le_of_lt (x.above y c (PySem.mem_of_lookup h))
 ·have hi:i < vs.length:=by
   unfold jV at h2
   by_cases hi:i < vs.length
   ·exact hi
   ·rw [List.getElem?_append_right (by simpa using hi)] at h2
    rw [List.getElem?_replicate] at h2
    split at h2<;>cases h2
  have ha:vs[i]?=some v:=by
   unfold jV at h2
   rw [List.getElem?_append_left (by simpa using hi),List.getElem?_map] at h2
   cases e:vs[i]? with
   | none=>rw [e] at h2;cases h2
   | some a=>rw [e] at h2;cases h2;rfl
  obtain ⟨u,hu,rv⟩:=r.get ha
  have hp:ps[i]?=some y:=by
   rw [← S.pre,List.getElem?_take_of_lt (by omega)];exact h1
  have ndP:ps.Nodup:=by rw [← S.pre];exact S.nd.sublist (List.take_sublist _ _)
  refine ⟨u,rv,?_⟩
  rcases S.par y (List.mem_of_getElem? hp) with k | k
  ·exact .inl ⟨k,qb7 ndP hp hu k⟩
  ·obtain ⟨c,e⟩:=qdc (n:=s.heap.objs.size + 1) k
   refine .inr ⟨.inl k,c,e,?_⟩
   have q:=x.cell y c e
   rw [qb8 ndP hp hu (by show scope.names.lookup y≠_;rw [k];decide)] at q
   exact q
 ·exact e0.hok.fresh (Nat.le_of_lt (x.above y c (PySem.mem_of_lookup h)))
 ·unfold jV
  show _=N.length
  rw [List.length_append,List.length_map,List.length_replicate]
  omega
theorem qf3 {CX:CXT} {P:Program} {w:World} {K:PySem.W.Frag} {mg:Str→Option Value} {base:Heap} {k:Nat} {f:Addr} {name qual:Str} {params:Arguments} {body:List Stmt} {scope:Scope} {dV kV doc pm cdv ct oc:Value} {an od:Option Addr}
  {osl:Array (Option Value)} {N ps:List Str} {sp:Sp} (lk:K.lookup f=some ⟨oc,od,.func (PySem.W.fnOf name qual params body scope dV kV doc pm an cdv ct),osl⟩) (hcd:PySem.W.codeIn K cdv qual=true) (S:FnScope N ps scope)
  (len:∀ vs H Q E,sp vs H Q E→vs.length=ps.length)
  (hbody:∀ (A:Around) (outer:List Env) (s:Shared) (H:Hp) (vs:List V) (Q:VK) (E:XK),Room k (A.deeper (envOfC qual scope s.heap.objs.size f cdv))→sp vs H Q E →
   ∃ t,PSs (qb9 CX P w K mg base N qual scope f cdv A outer s H E) body t∧t { nx:=fun _ H'=>Q .non H',rt:=Q } (jV N vs) H) :
  FnOk P w K mg base CX (k + 1) f (PySem.W.fnOf name qual params body scope dV kV doc pm an cdv ct) ps sp:=by
 refine ⟨len,fun A outer s H args us vs Q E hr e0 hb r hsp=>?_⟩
 have hl:=len _ _ _ _ hsp
 have KX:K.In s.heap:=e0.mod.kin.keeps fun b o e=>(e0.bs b o e).1
 have lim:s.heap.NoLimit:=e0.mod.nolimit.keeps fun b o e=>(e0.bs b o e).1
 have hkind:∀ y∈ps.zip us,scope.names.lookup y.1=some .local∨(scope.names.lookup y.1=some .cell∧((cellsFrom (s.heap.objs.size + 1) scope.names []).lookup y.1).isSome=true):=fun ⟨n,v⟩ hy=>by
  rcases S.par n (List.of_mem_zip hy).1 with q | q
  ·exact .inl q
  ·exact .inr ⟨q,PySem.W.cellsFrom_some _ _ _ (.inl q)⟩
 refine codeAny_call_function hr.depth (KX _ _ lk) rfl S.co S.gen rfl (PySem.W.codeRec_of KX hcd) (hb _ _ _ _ ?_)
 refine wpAny_newFunctionEnv_cells S.kind hkind fun env he s1 x=>?_
 subst he
 refine ⟨lim.keeps x.toInCall.keep,codeAny_func ?_⟩
 obtain ⟨t,ht,hq⟩:=hbody A outer s H vs Q E (hr.deeper _) hsp
 have I:Inv (qb9 CX P w K mg base N qual scope f cdv A outer s H E) [] (jV N vs) H s1:=qca S hr.hd e0 hl r x
 refine wpAny_mono (ht [] s1 (jV N vs) H _ I hq) (fun fl s' hs=>?_) fun e s' hs=>hs
 have fin:∀ {σ':St} {H':Hp} {v:V} {u:Value},Inv (qb9 CX P w K mg base N qual scope f cdv A outer s H E) [] σ' H' s'→RelV v u→Q v H'→CE outer P w H s Q u s':=
  fun {σ' H' v u} J rv q=>⟨v,H',J.os,J.bare,J.base,J.hok,rv,q⟩
 cases fl with
 | ret u =>
  obtain ⟨v,σ',H',J,rv,q⟩:=hs
  exact fin J rv q
 | next =>
  obtain ⟨σ',H',J,q⟩:=hs
  exact fin (v:=V.non) (u:=Value.none) J rfl q
 | brk =>
  obtain ⟨_,_,_,q⟩:=hs
  exact False.elim q
 | cont =>
  obtain ⟨_,_,_,q⟩:=hs
  exact False.elim q
section
variable {X:Cx} {x:Str} {p pos:Pos} {e:Expr} {es:List Expr} {t:TA} {id T:String} {r:List V→Hp→VK→Prop}
def tCB (r:List V→Hp→VK→Prop) (t:TA):TE:=fun σ H Q=>t σ H fun vs H1=>r vs H1 Q
theorem qm (hc:zE X (.builtin id) r) (hg:Gl X x) (hm:X.mg x=none) (hv:bootBuiltins x=some (.builtin id)) (ha:PA X (e::es) t) (hn:x≠"__name__":=by decide) (hdb:(x==("__debug__":Str))=false:=by decide)
  (he:starEach (e::es) X.env=(false,eval e X.env)::starEach es X.env:=by rfl) (hpl:(backTo pos (starEach es X.env)).any (·.1)=false:=by rfl):PE X (.Call (.Name x p) (e::es) [] pos) (tCB r t):=by
 intro pins s σ H Q I h
 refine wpAny_Call_Name_kw (qaY I hg hm hv ?_ hn hdb)
 exact PyProof.Rows.callWith_builtin1 (thn (ha pos pins s σ H _ I h) fun us s1 ⟨vs,H1,I1,r1,q1⟩=>hc pins s1 σ H1 vs us Q I1 r1 q1) he hpl
theorem zF (hc:zE X (.type T) r) (hg:Gl X x) (hm:X.mg x=none) (hv:bootBuiltins x=some (.type T)) (ha:PA X (e::es) t) (hn:x≠"__name__":=by decide) (hdb:(x==("__debug__":Str))=false:=by decide)
  (he:starEach (e::es) X.env=(false,eval e X.env)::starEach es X.env:=by rfl) (hpl:(backTo pos (starEach es X.env)).any (·.1)=false:=by rfl):PE X (.Call (.Name x p) (e::es) [] pos) (tCB r t):=by
 intro pins s σ H Q I h
 refine wpAny_Call_Name_kw (qaY I hg hm hv ?_ hn hdb)
 exact PyProof.Rows.callWith_type1 (thn (ha pos pins s σ H _ I h) fun us s1 ⟨vs,H1,I1,r1,q1⟩=>hc pins s1 σ H1 vs us Q I1 r1 q1) he hpl
end
end L2
namespace HT
open PySem PyProof.Rows
section
open PySem.SeqAt
open PySem.AutoSeq1 (wpAny_loadPart')
open PySem.MeetsSeq PySem.MeetsSeq2 PySem.MeetsSeq3
end
section
variable {prog:Program} {w:World} {A:Around} {E:Value→Shared→Prop} {s:Shared}
theorem cat_tup {t b:Addr} {vs ws:List Value} {Q:Value→Shared→Prop} (ht:IsTup s.heap t vs.toArray) (hb:IsTup s.heap b ws.toArray) (hv:vs≠[])
  (h1:ws=[]→Q (.ref t) s) (h2:ws≠[]→Q (.ref s.heap.objs.size) { s with heap:=s.heap.push { cls:=.type "tuple",data:=.seq (vs++ws).toArray } })
  (hsz:vs.length + ws.length≤sizeLine):wpAny (model prog w) A (binaryOp .Add (.ref t) (.ref b)) Q E s:=by
 obtain ⟨⟨cls,dd,data,sl⟩,ho,hc,n,hd⟩:=id ht
 obtain ⟨⟨cls2,dd2,data2,sl2⟩,ho2,hc2,n2,hd2⟩:=id hb
 simp only at hc hd hc2 hd2
 subst hc hd hc2 hd2
 have e:vs.toArray++ws.toArray=(vs++ws).toArray:=by simp
 by_cases hw:ws=[]
 ·exact concat_meets ⟨_,ho,rfl⟩ ⟨_,ho2,rfl⟩ noFill_tuple_add seq_tuple_add PySem.F.slot_tuple_add PySem.F.entry_tuple_add (PySem.F.args_tuple_add_2 _ _)
   (tuple_addW1 t b vs.toArray ws.toArray n n2 dd dd2 sl sl2 (by simpa using hv) (by simp [hw])) ⟨ho,ho2,h1 hw⟩
 ·refine concat_meets ⟨_,ho,rfl⟩ ⟨_,ho2,rfl⟩ noFill_tuple_add seq_tuple_add PySem.F.slot_tuple_add PySem.F.entry_tuple_add (PySem.F.args_tuple_add_2 _ _)
   (tuple_addW2 t b vs.toArray ws.toArray n n2 dd dd2 sl sl2 (by simpa using hv) (by simpa using hw) (by rw [List.size_toArray,List.size_toArray];exact hsz)) ⟨ho,ho2,?_⟩
  rw [e]
  exact h2 hw
def sIx (n d:Nat):Option Int→Nat
 | none=>d
 | some v=>if v < 0 then (v + (n:Int)).toNat else min v.toNat n
theorem sIx_none (n d:Nat):sIx n d none=d:=rfl
theorem sIx_nat (n d k:Nat):sIx n d (some (k:Int))=min k n:=by
 show (if (k:Int) < 0 then ((k:Int) + (n:Int)).toNat else min (k:Int).toNat n)=min k n
 rw [if_neg (by omega),Int.toNat_natCast]
theorem sIx_le (n d:Nat) (hd:d≤n) (o:Option Int):sIx n d o≤n:=by
 cases o with
 | none=>exact hd
 | some v =>
  show (if v < 0 then (v + (n:Int)).toNat else min v.toNat n)≤n
  by_cases hv:v < 0
  ·rw [if_pos hv];omega
  ·rw [if_neg hv];exact Nat.min_le_right _ _
theorem qd6 (v:Int) (n d:Nat):(if v < 0 then max (v + (n:Int)) 0 else min v (n:Int))=((sIx n d (some v):Nat):Int):=by
 show (if v < 0 then max (v + (n:Int)) 0 else min v (n:Int))=(((if v < 0 then (v + (n:Int)).toNat else min v.toNat n):Nat):Int)
 by_cases hv:v < 0
 ·simp only [if_pos hv];omega
 ·simp only [if_neg hv];omega
theorem adjust_gen (lo hi:Option Int) (n:Nat):Builtin.Slice.sliceAdjust lo hi 1 (n:Int)=(((sIx n 0 lo:Nat):Int),((sIx n n hi:Nat):Int)):=by
 have h1:¬ ((1:Int) < 0):=by omega
 unfold Builtin.Slice.sliceAdjust
 simp only [h1,if_false]
 refine Prod.ext ?_ ?_
 ·cases lo with
  | none=>rfl
  | some v=>exact qd6 v n 0
 ·cases hi with
  | none=>rfl
  | some v=>exact qd6 v n n
theorem places_gen (i j:Nat):Builtin.Slice.slicePlaces (i:Int) (j:Int) 1=j - i:=by
 unfold Builtin.Slice.slicePlaces
 have h1:(1:Int) > 0:=by omega
 simp only [h1,if_true,Int.ediv_one]
 split<;>omega
theorem qbu {v:Value} {o:Option Int} {Q:Option Int→Shared→Prop} (p:IsPart v o) (h:Q o s):wpAny (model prog w) A (Builtin.Slice.slicePartIndex v) Q E s:=by
 cases p with
 | none=>exact slicePart_none h
 | int i t=>exact slicePart_int h
theorem sliceApplied_gen {sl:Addr} {vl vu:Value} {lo hi:Option Int} {n:Nat} {Q:Int×Int×Nat→Shared→Prop} (hs:s.heap.IsSliceOf sl vl vu .none) (pl:IsPart vl lo) (pu:IsPart vu hi)
  (h:Q (((sIx n 0 lo:Nat):Int),1,sIx n n hi - sIx n 0 lo) s):wpAny (model prog w) A (Builtin.Slice.sliceApplied (.ref sl) (pure (n:Int))) Q E s:=by
 obtain ⟨os,hos,hcs,hds⟩:=id hs
 unfold Builtin.Slice.sliceApplied Builtin.Slice.sliceFields
 refine wpAny_bind (wpAny_bind (wpAny_field hos hds (x:=vl) rfl (wpAny_bind (wpAny_field hos hds (x:=vu) rfl (wpAny_bind (wpAny_field hos hds (x:=.none) rfl (wpAny_pure ?_)))))))
 refine wpAny_bind (slicePart_none ?_)
 show wpAny _ _ (if ((1:Int)==0)=true then _ else _) _ _ s
 rw [if_neg (by decide)]
 refine wpAny_bind (qbu pl (wpAny_bind (qbu pu (wpAny_bind (wpAny_pure ?_)))))
 show wpAny _ _ (match Builtin.Slice.sliceAdjust lo hi 1 (n:Int) with | (lo,hi)=>pure (lo,(1:Int),Builtin.Slice.slicePlaces lo hi 1)) _ _ s
 rw [adjust_gen lo hi n]
 show wpAny _ _ (pure (((sIx n 0 lo:Nat):Int),(1:Int),Builtin.Slice.slicePlaces ((sIx n 0 lo:Nat):Int) ((sIx n n hi:Nat):Int) 1)) _ _ s
 rw [places_gen]
 exact wpAny_pure h
theorem pick_gen (xs:Array Value) (i k:Nat):((List.range k).filterMap fun (m:Nat)=>xs[((i:Int) + (m:Int) * 1).toNat]?).toArray=((xs.toList.drop i).take k).toArray:=by
 have e:(fun (m:Nat)=>xs[((i:Int) + (m:Int) * 1).toNat]?)=fun m=>xs[i + m]?:=by
  funext m
  have:((i:Int) + (m:Int) * 1).toNat=i + m:=by omega
  rw [this]
 rw [e]
 have:=pick_run xs i k
 rw [List.filterMap_map] at this
 have e2:((fun x=>xs[x]?) ∘ fun x=>i + x)=fun m=>xs[i + m]?:=rfl
 rw [e2] at this
 rw [this]
theorem getItem_tuple_cut {t sl:Addr} {items:Array Value} {vl vu:Value} {lo hi:Option Int} {Q:Value→Shared→Prop} (ht:IsTup s.heap t items) (hs:s.heap.IsSliceOf sl vl vu .none) (pl:IsPart vl lo) (pu:IsPart vu hi)
  (hw:¬ (sIx items.size 0 lo=0∧sIx items.size items.size hi=items.size))
  (h:Q (.ref s.heap.objs.size) { s with heap:=s.heap.push { cls:=.type "tuple",data:=.seq ((items.toList.drop (sIx items.size 0 lo)).take (sIx items.size items.size hi - sIx items.size 0 lo)).toArray } })
  (hsz:items.size≤sizeLine):wpAny (model prog w) A (getItem (.ref t) (.ref sl)) Q E s:=by
 have htake:sizeOk (.seq ((items.toList.drop (sIx items.size 0 lo)).take (sIx items.size items.size hi - sIx items.size 0 lo)).toArray):=by
  show ((items.toList.drop (sIx items.size 0 lo)).take (sIx items.size items.size hi - sIx items.size 0 lo)).toArray.size≤sizeLine
  rw [List.size_toArray,List.length_take,List.length_drop,Array.length_toList]
  omega
 have hj:sIx items.size items.size hi≤items.size:=sIx_le _ _ (Nat.le_refl _) hi
 obtain ⟨os,hos,hcs,hds⟩:=id hs
 have hTs:s.TypeIs (.ref sl) "slice":=⟨os,hos,hcs⟩
 unfold getItem
 try with_reducible refine wpAny_holding ?_
 first | refine wpAny_bind (wpAny_pure ?_) | skip
 refine wpAny_bind (wpAny_sequenceKey ht.typeIs (by decide) ?_)
 refine wpAny_bind (wpAny_callSpecial?_slot (name:=Str.ofString "__getitem__") ht.typeIs PyProof.Rows.slot_tuple_getitem
  (wpAny_call_entry PyProof.Rows.slot_tuple_getitem ht.typeIs entry_tuple_getitem ?_ (args_tuple_getitem _ _)))
 show wpAny _ _ (Builtin.Tuple.tupleItemsOf (.ref t)>>=_) _ _ s
 refine wpAny_bind (tupleItemsOf_ ht ?_)
 refine wpAny_bind (wpAny_typeOf hTs ?_)
 rw [if_pos (by decide)]
 refine wpAny_bind (sliceApplied_gen hs pl pu ?_)
 have hno:¬ ((((sIx items.size 0 lo:Nat):Int)==0&&(1:Int)==1&&(sIx items.size items.size hi - sIx items.size 0 lo)==items.size)=true):=by
  intro q
  rw [Bool.and_eq_true,Bool.and_eq_true] at q
  have q1:((sIx items.size 0 lo:Nat):Int)=0:=eq_of_beq q.1.1
  have q2:sIx items.size items.size hi - sIx items.size 0 lo=items.size:=eq_of_beq q.2
  exact hw ⟨by omega,by omega⟩
 show wpAny _ _ (if (((sIx items.size 0 lo:Nat):Int)==0&&(1:Int)==1&&(sIx items.size items.size hi - sIx items.size 0 lo)==items.size)=true then _ else _) _ _ s
 rw [if_neg hno,pick_gen]
 first
  | exact wpAny_bind (m:=Builtin.Tuple.tupleExact _) (wpAny_newObj_type (wpAny_pure ⟨_,rfl,wpAny_pure h⟩) htake)
  | exact wpAny_bind (m:=Builtin.Tuple.tupleExact _) (wpAny_newObj_type (wpAny_bind (wpAny_pure (wpAny_pure ⟨_,rfl,wpAny_pure h⟩))) htake)
  | exact wpAny_bind (wpAny_bind (m:=Builtin.Tuple.tupleExact _) (wpAny_newObj_type (wpAny_pure (wpAny_pure ⟨_,rfl,wpAny_pure h⟩)) htake))
  | exact wpAny_bind (wpAny_bind (m:=Builtin.Tuple.tupleExact _) (wpAny_newObj_type (wpAny_pure ⟨_,rfl,wpAny_pure h⟩) htake))
end
end HT
namespace L2
open PySem PySem.Spec PyProof.Rows
abbrev TO:=St→Hp→(Option Int→Hp→Prop)→Prop
def PO (X:Cx) (e:Option Expr) (t:TO):Prop:=
 ∀ (pins:List (Addr×Obj)) (s:Shared) (σ:St) (H:Hp) (Q:Option Int→Hp→Prop),Inv X pins σ H s→t σ H Q →
  wpAny (model X.prog X.w) X.A (evalPart e X.env) (fun u s'=>∃ o H',Inv X pins σ H' s'∧IsPart u o∧Q o H') X.xe s
def qd7:TO:=fun _ H Q=>Q none H
def qf4 (t:TE):TO:=fun σ H Q=>t σ H fun x H1=>∃ i,x=.int i∧Q (some i) H1
section
variable {X:Cx} {e:Expr} {te:TE} {lo hi:Option Expr} {tl th:TO} {pos p2:Pos}
theorem qS:PO X none qd7:=by
 intro pins s σ H Q I h
 rw [evalPart_none]
 exact wpAny_pure ⟨none,H,I,.none,h⟩
theorem qD (h:PE X e te):PO X (some e) (qf4 te):=by
 intro pins s σ H Q I hw
 rw [evalPart_some]
 refine thn (h pins s σ H _ I hw) fun u s1 ⟨x,H1,I1,r1,q1⟩=>?_
 obtain ⟨i,rfl,q⟩:=q1
 obtain ⟨t,rfl⟩:=r1
 exact ⟨some i,H1,I1,.int i t,q⟩
def SlR (X:Cx) (r:V→Option Int→Option Int→Hp→VK→Prop):Prop:=
 ∀ (pins:List (Addr×Obj)) (s:Shared) (σ:St) (H:Hp) (x:V) (v vl vu:Value) (lo hi:Option Int) (sl:Addr) (Q:VK),Inv X pins σ H s→RelV x v→s.heap.IsSliceOf sl vl vu .none→IsPart vl lo→IsPart vu hi→r x lo hi H Q →
  ∃ T id,typeLookup (.type T) "__getitem__"=pure (some (.builtin id))∧s.TypeIs v T∧wpAny (model X.prog X.w) X.A (getItem v (.ref sl)) (EP X pins σ Q) X.xe s
def tSl (r:V→Option Int→Option Int→Hp→VK→Prop) (te:TE) (tl th:TO):TE:=fun σ H Q=>te σ H fun x H1=>tl σ H1 fun l H2=>th σ H2 fun u H3=>r x l u H3 Q
theorem qz {r:V→Option Int→Option Int→Hp→VK→Prop} (hr:SlR X r) (he:PE X e te) (hl:PO X lo tl) (hu:PO X hi th):PE X (.Subscript e (.Slice lo hi none p2) pos) (tSl r te tl th):=by
 intro pins s σ H Q I h
 refine Subscript_ (thn (he pins s σ H _ I h) fun v s1 ⟨x,H1,I1,r1,q1⟩=>?_)
 refine wpAny_Slice (thn (hl pins s1 σ H1 _ I1 q1) fun vl s2 ⟨l,H2,I2,pl,q2⟩=>thn (hu pins s2 σ H2 _ I2 q2) fun vu s3 ⟨u,H3,I3,pu,q3⟩=>?_)
 rw [evalPart_none]
 refine wpAny_pure ?_
 have I4:Inv X pins σ H3 { s3 with heap:=s3.heap.push { cls:=.type "slice",data:=.fields #[vl,vu,.none] } }:=I3.kept (t':=s3.toks) fun b ob q=>Heap.get?_push_of_some _ q
 obtain ⟨T,id,hT,ht,hg⟩:=hr pins { s3 with heap:=s3.heap.push { cls:=.type "slice",data:=.fields #[vl,vu,.none] } } σ H3 x v vl vu l u s3.heap.objs.size Q I4 r1 (Heap.IsSliceOf.new ..) pl pu q3
 show wpAny (model X.prog X.w) X.A (subscriptTail e (.Slice lo hi none p2) v (.ref s3.heap.objs.size)) (EP X pins σ Q) X.xe { s3 with heap:=s3.heap.push { cls:=.type "slice",data:=.fields #[vl,vu,.none] } }
 exact tail_any (ops:=[.ref s3.heap.objs.size,v]) ht hT hg (by with_unfolding_all rfl)
def qaP (xs:List V) (lo hi:Option Int):List V:=(xs.drop (HT.sIx xs.length 0 lo)).take (HT.sIx xs.length xs.length hi - HT.sIx xs.length 0 lo)
theorem qbd (xs:List V) (lo hi:Option Int):(qaP xs lo hi).length≤xs.length:=by
 unfold qaP
 rw [List.length_take,List.length_drop]
 omega
def qg9 (K:PySem.W.Frag):V→Option Int→Option Int→Hp→VK→Prop:=fun x lo hi H Q=>∃ a xs,x=.ref a∧SqT K H a xs ∧
 ¬ (HT.sIx xs.length 0 lo=0∧HT.sIx xs.length xs.length hi=xs.length)∧∀ p,H p=none→Q (.ref p) (upd H p (.tup (qaP xs lo hi)))
theorem sl_tup:SlR X (qg9 X.K):=by
 intro pins s σ H x v vl vu lo hi sl Q I rx hs pl pu h
 obtain ⟨a,xs,rfl,hx,hw,q⟩:=h
 cases rx
 obtain ⟨its,r,ht,hz⟩:=I.tuple hx
 have hlen:its.toArray.size=xs.length:=by rw [List.size_toArray];exact r.length.symm
 refine ⟨"tuple",_,PyProof.Rows.slot_tuple_getitem.lookup,ht.typeIs,?_⟩
 refine HT.getItem_tuple_cut ht hs pl pu (by rw [hlen];exact hw) ?_ (by rw [hlen];exact hz)
 rw [hlen]
 refine ⟨.ref s.heap.objs.size,_,I.laid (t':=s.toks) (o:=.tup (qaP xs lo hi)) (fun b ob q=>Heap.get?_push_of_some _ q) (Nat.le_refl _) ?_,rfl,q _ (I.hok.fresh (Nat.le_refl _))⟩
 exact ⟨Nat.le_trans (qbd xs lo hi) hz,_,(r.drop (HT.sIx xs.length 0 lo)).take (HT.sIx xs.length xs.length hi - HT.sIx xs.length 0 lo),IsTup.new _ _⟩
def qf5 (K:PySem.W.Frag):R2:=fun x y H Q=>∃ a b xs ys,x=.ref a∧y=.ref b∧SqT K H a xs∧SqT K H b ys∧xs≠[]∧xs.length + ys.length≤sizeLine ∧
 (ys=[]→Q (.ref a) H)∧(ys≠[]→∀ p,H p=none→Q (.ref p) (upd H p (.tup (xs++ys))))
theorem Vals.nil_iff {xs:List V} {us:List Value} (r:Vals xs us):us=[]↔xs=[]:=by
 cases r with
 | nil=>simp
 | cons _ _=>simp
theorem op_catT:OpR X (binaryOp .Add) (qf5 X.K):=by
 intro pins s σ H x y v u Q I rx ry h
 obtain ⟨a,b,xs,ys,rfl,rfl,ha,hb,hx,hz,q1,q2⟩:=h
 cases rx
 cases ry
 obtain ⟨its,r1,p1,_⟩:=I.tuple ha
 obtain ⟨its2,r2,p2,_⟩:=I.tuple hb
 refine HT.cat_tup p1 p2 (fun z=>hx (r1.nil_iff.mp z)) (fun z=>⟨.ref a,H,I,rfl,q1 (r2.nil_iff.mp z)⟩) (fun z=>?_) (by rw [← r1.length,← r2.length];exact hz)
 refine ⟨.ref s.heap.objs.size,_,I.laid (t':=s.toks) (o:=.tup (xs++ys)) (fun b ob q=>Heap.get?_push_of_some _ q) (Nat.le_refl _) ?_,rfl,q2 (fun w=>z (r2.nil_iff.mpr w)) _ (I.hok.fresh (Nat.le_refl _))⟩
 exact ⟨by rw [List.length_append];exact hz,_,r1.append r2,IsTup.new _ _⟩
end
def ixN (n:Nat) (i:Int):Option Nat:=if 0≤i then (if i < n then some i.toNat else none) else if -(n:Int)≤i then some (i + n).toNat else none
def atI {α:Type} (xs:List α) (i:Int):Option α:=(ixN xs.length i).bind fun j=>xs[j]?
theorem qcI {n:Nat} {i:Int} {j:Nat} (h:ixN n i=some j):seqIndex? i n=some j∧j < n∧-(n:Int)≤i∧i < n:=by
 unfold ixN at h
 by_cases h0:0≤i
 ·rw [if_pos h0] at h
  by_cases h1:i < n
  ·rw [if_pos h1] at h
   have e:i.toNat=j:=Option.some.inj h
   exact ⟨by rw [seqIndex_of h0 h1,e],by omega,by omega,h1⟩
  ·rw [if_neg h1] at h;cases h
 ·rw [if_neg h0] at h
  by_cases h1:-(n:Int)≤i
  ·rw [if_pos h1] at h
   have e:(i + n).toNat=j:=Option.some.inj h
   exact ⟨by rw [seqIndex_neg (by omega) h1,e],by omega,h1,by omega⟩
  ·rw [if_neg h1] at h;cases h
theorem qcJ {α:Type} {xs:List α} {i:Int} {v:α} (h:atI xs i=some v):∃ j,seqIndex? i xs.length=some j∧xs[j]?=some v∧j < xs.length∧-(xs.length:Int)≤i∧i < xs.length:=by
 unfold atI at h
 cases e:ixN xs.length i with
 | none=>rw [e] at h;cases h
 | some j =>
  rw [e] at h
  obtain ⟨h1,h2,h3,h4⟩:=qcI e
  exact ⟨j,h1,h,h2,h3,h4⟩
theorem qJ {α:Type} {xs:List α} {j:Nat} {v:α} (h:xs[j]?=some v):atI xs (j:Int)=some v:=by
 have hj:j < xs.length:=(List.getElem?_eq_some_iff.mp h).1
 have e:ixN xs.length (j:Int)=some j:=by
  unfold ixN
  rw [if_pos (by omega),if_pos (by omega)];simp
 unfold atI;rw [e];exact h
def PlainIx (b:Expr):Prop:=∀ o i,subscripted b false o i=operate [o,i] (getItem o i)
def IxR (X:Cx) (r:R2):Prop:=
 ∀ (value slice:Expr) (pins:List (Addr×Obj)) (s:Shared) (σ:St) (H:Hp) (x y:V) (v u:Value) (Q:VK),Inv X pins σ H s→RelV x v→RelV y u→r x y H Q →
  subscripted slice false v u=operate [v,u] (getItem v u)→wpAny (model X.prog X.w) X.A (subscriptTail value slice v u) (EP X pins σ Q) X.xe s
def MtR (X:Cx) (id:String) (r:V→List V→Hp→VK→Prop):Prop:=
 ∀ (pins:List (Addr×Obj)) (s:Shared) (σ:St) (H:Hp) (x:V) (xs:List V) (v:Value) (us:List Value) (Q:VK),Inv X pins σ H s→RelV x v→Vals xs us→r x xs H Q →
  wpAny (model X.prog X.w) X.A (call (.builtin id) (v::us)) (EP X pins σ Q) X.xe s
section
variable {X:Cx} {a b:Expr} {ta tb:TE} {pos:Pos}
theorem IxR.or {r r':R2} (h:IxR X r) (h':IxR X r'):IxR X (fun x y H Q=>r x y H Q∨r' x y H Q):=by
 intro value slice pins s σ H x y v u Q I rx ry q hs
 rcases q with q | q
 ·exact h value slice pins s σ H x y v u Q I rx ry q hs
 ·exact h' value slice pins s σ H x y v u Q I rx ry q hs
theorem qO {r:R2} (hr:IxR X r) (ha:PE X a ta) (hb:PE X b tb) (hs:PlainIx b):PE X (.Subscript a b pos) (tOp r ta tb):=by
 intro pins s σ H Q I h
 exact Subscript_ (qgU ha hb I h fun v u s2 x y H2 I2 rx ry q=>hr a b pins s2 σ H2 x y v u Q I2 rx ry q (hs _ _))
def qha (K:PySem.W.Frag):R2:=fun x y H Q=>∃ p xs i v,x=.ref p∧y=.int i∧SqL K H p xs∧atI xs i=some v∧Q v H
def qhb (K:PySem.W.Frag):R2:=fun x y H Q=>∃ p xs i v,x=.ref p∧y=.int i∧SqT K H p xs∧atI xs i=some v∧Q v H
def qhc:R2:=fun x y H Q=>∃ z i c,x=.str z∧y=.int i∧z.length≤sizeLine∧atI z.cps.toList i=some c∧Q (.str ⟨#[c]⟩) H
theorem ix_list:IxR X (qha X.K):=by
 intro value slice pins s σ H x y v u Q I rx ry h hs
 obtain ⟨p,xs,i,z,rfl,rfl,hq,he,q⟩:=h
 cases rx
 obtain ⟨t,rfl⟩:=ry
 obtain ⟨its,r,pl,hz⟩:=I.list hq
 obtain ⟨j,h1,h2,h3,h4,h5⟩:=qcJ he
 obtain ⟨w,ew,rw'⟩:=r.get h2
 have hl:=r.length
 have hn:=qbt
 have fin:EP X pins σ Q w s:=⟨z,H,I,rw',q⟩
 by_cases h0:0≤i
 ·have hj:i.toNat=j:=by
   rw [seqIndex_of h0 h5] at h1
   exact Option.some.inj h1
  exact item_listR pl.isList h0 (by omega) (by rw [hj];simpa using ew) fin hs
 ·have hj:(i + (its.toArray.size:Int)).toNat=j:=by
   rw [seqIndex_neg (by omega) h4] at h1
   rw [List.size_toArray,← hl]
   exact Option.some.inj h1
  exact subscriptTail_builtinR (x:=w) pl.isList.typeIs slot_list_getitem.lookup
   (wpAny_getItem_list_neg (Q:=fun r s'=>r=w∧EP X pins σ Q r s') pl.isList (by omega) (by rw [List.size_toArray]<;>omega) (by omega) (by rw [hj];simpa using ew) ⟨rfl,fin⟩) hs
theorem ix_tup:IxR X (qhb X.K):=by
 intro value slice pins s σ H x y v u Q I rx ry h hs
 obtain ⟨p,xs,i,z,rfl,rfl,hq,he,q⟩:=h
 cases rx
 obtain ⟨t,rfl⟩:=ry
 obtain ⟨its,r,pl,hz⟩:=I.tuple hq
 obtain ⟨j,h1,h2,h3,h4,h5⟩:=qcJ he
 obtain ⟨w,ew,rw'⟩:=r.get h2
 have hl:=r.length
 have hn:=qbt
 have fin:EP X pins σ Q w s:=⟨z,H,I,rw',q⟩
 exact subscriptTail_builtinR (x:=w) pl.typeIs slot_tuple_getitem.lookup
  (getItem_tuple (j:=j) (Q:=fun r s'=>r=w∧EP X pins σ Q r s') pl (by omega) (by omega) (by rw [List.size_toArray,← hl];exact h1) (by simpa using ew) ⟨rfl,fin⟩) hs
theorem ix_str:IxR X qhc:=by
 intro value slice pins s σ H x y v u Q I rx ry h hs
 obtain ⟨z,i,c,rfl,rfl,hz,he,q⟩:=h
 obtain ⟨t,rfl⟩:=rx
 obtain ⟨t',rfl⟩:=ry
 obtain ⟨j,h1,h2,h3,h4,h5⟩:=qcJ he
 have hl:z.cps.toList.length=z.length:=by simp [Str.length]
 rw [hl] at h1 h4 h5
 have hn:=qbt
 exact tail_any (typeIs_str s z t) slot_str_getitem.lookup (getItem_str (c:=c) (by
  have e1:decide (i < -(2 ^ 63:Int))=false:=decide_eq_false (by omega)
  have e2:decide (i ≥ 2 ^ 63)=false:=decide_eq_false (by omega)
  rw [e1,e2,Bool.or_false]) (by rw [h1];simpa using h2) ⟨.str ⟨#[c]⟩,H,I.tok _,⟨_,rfl⟩,q⟩) hs
def rIx (K:PySem.W.Frag):R2:=fun x y H Q=>qha K x y H Q∨qhb K x y H Q∨qhc x y H Q
theorem ix_seq:IxR X (rIx X.K):=ix_list.or (ix_tup.or ix_str)
theorem mapSeq_set (its:List Value) (n j:Nat) (u:Value):Obj.mapSeq (·.setIfInBounds j u) { cls:=.type "list",data:=.seq its.toArray n }={ cls:=.type "list",data:=.seq (its.set j u).toArray n }:=by
 simp [Obj.mapSeq]
theorem Inv.lst {pins:List (Addr×Obj)} {σ:St} {H:Hp} {s:Shared} {p:Addr} {xs:List V} (I:Inv X pins σ H s) (h:H p=some (.lst xs)) :
  ∃ (its:List Value) (n:Nat),Vals xs its∧s.heap.get? p=some { cls:=.type "list",data:=.seq its.toArray n }∧xs.length≤sizeLine:=by
 obtain ⟨z,its,n,r,e⟩:=I.hok p _ h
 exact ⟨its,n,r,e,z⟩
theorem Inv.lstUpd {pins:List (Addr×Obj)} {σ:St} {H:Hp} {s:Shared} {p:Addr} {xs ys:List V} {its its':List Value} {n n':Nat} {f:Obj→Obj} (I:Inv X pins σ H s) (h:H p=some (.lst xs))
  (ho:s.heap.get? p=some { cls:=.type "list",data:=.seq its.toArray n }) (hf:f { cls:=.type "list",data:=.seq its.toArray n }={ cls:=.type "list",data:=.seq its'.toArray n' }) (r:Vals ys its') (hz:ys.length≤sizeLine) (t:Nat) :
  Inv X pins σ (upd H p (.lst ys)) { s with heap:=s.heap.update p f,toks:=t }:=by
 have e:(s.heap.update p f).get? p=some { cls:=.type "list",data:=.seq its'.toArray n' }:=by
  rw [Heap.get?_update_self f ho (by rw [hf]<;>rfl),hf]
 refine I.write (x:=p) (e:=p) (by rw [h];trivial) (.inl rfl) (fun b u hb q=>(Heap.get?_update_other _ _ (Ne.symm hb)).trans q) ⟨_,e⟩ ?_
 exact ⟨hz,its',n',r,e⟩
def qfG:V→V→V→Hp→(Hp→Prop)→Prop:=fun o i v H Q=>∃ p xs k j,o=.ref p∧i=.int k∧H p=some (.lst xs)∧ixN xs.length k=some j∧Q (upd H p (.lst (xs.set j v)))
theorem set_list:qgR X qfG:=by
 intro pins s σ H o i v ov iv u Q I ro ri rv h
 obtain ⟨p,xs,k,j,rfl,rfl,hp,hj,q⟩:=h
 cases ro
 obtain ⟨t,rfl⟩:=ri
 obtain ⟨its,n,r,ho,hz⟩:=I.lst hp
 obtain ⟨h1,h2,h3,h4⟩:=qcI hj
 have hl:=r.length
 have hn:=qbt
 have I':Inv X pins σ (upd H p (.lst (xs.set j v))) { s with heap:=s.heap.update p (Obj.mapSeq (·.setIfInBounds j u)) }:=
  I.lstUpd hp ho (mapSeq_set its n j u) (r.set rv j) (by rw [List.length_set];exact hz) s.toks
 by_cases h0:0≤k
 ·have hk:k.toNat=j:=by
   rw [seqIndex_of h0 h4] at h1
   exact Option.some.inj h1
  exact PySem.W.ki_setAt ho h0 (by omega) (by rw [List.size_toArray,← hl];exact h4) (by rw [hk];exact ⟨_,I',q⟩)
 ·have hk:(k + (its.toArray.size:Int)).toNat=j:=by
   rw [seqIndex_neg (by omega) h3] at h1
   rw [List.size_toArray,← hl]
   exact Option.some.inj h1
  exact PySem.W.ki_setBack ho (by omega) (by rw [List.size_toArray,← hl];exact h3) (by omega) (by rw [hk];exact ⟨_,I',q⟩)
theorem slice_bounds (lo hi:Option Int) (n:Nat):(sliceBounds lo hi none n).1=((HT.sIx n 0 lo:Nat):Int)∧(sliceBounds lo hi none n).2.1=((HT.sIx n n hi:Nat):Int)∧(sliceBounds lo hi none n).2.2=1:=by
 refine ⟨?_,?_,rfl⟩
 ·cases lo with
  | none=>simp [sliceBounds,HT.sIx]
  | some i =>
   simp only [sliceBounds,HT.sIx,Option.getD_none,show (1:Int) > 0 by decide,if_true]
   by_cases h:i < 0
   ·simp only [h,if_true]<;>omega
   ·simp only [h,if_false]<;>omega
 ·cases hi with
  | none=>simp [sliceBounds,HT.sIx]
  | some i =>
   simp only [sliceBounds,HT.sIx,Option.getD_none,show (1:Int) > 0 by decide,if_true]
   by_cases h:i < 0
   ·simp only [h,if_true]<;>omega
   ·simp only [h,if_false]<;>omega
theorem slicePick_cut (its:List Value) (lo hi:Option Int):slicePick its.toArray lo hi none=((its.drop (HT.sIx its.length 0 lo)).take (HT.sIx its.length its.length hi - HT.sIx its.length 0 lo)).toArray:=by
 obtain ⟨h1,h2,h3⟩:=slice_bounds lo hi its.toArray.size
 unfold slicePick
 rw [h1,h2,h3]
 simp only [sliceRange_one,pick_run,List.size_toArray]<;>rfl
def qhd (K:PySem.W.Frag):V→Option Int→Option Int→Hp→VK→Prop:=fun x lo hi H Q=>∃ a xs,x=.ref a∧SqL K H a xs∧∀ p,H p=none→Q (.ref p) (upd H p (.lst (qaP xs lo hi)))
theorem sl_list:SlR X (qhd X.K):=by
 intro pins s σ H x v vl vu lo hi sl Q I rx hs pl pu h
 obtain ⟨a,xs,rfl,hx,q⟩:=h
 cases rx
 obtain ⟨its,r,ht,hz⟩:=I.list hx
 have hlen:=r.length
 refine ⟨"list",_,slot_list_getitem.lookup,ht.isList.typeIs,?_⟩
 refine wpAny_getItem_list_slice ht.isList hs pl pu .none (by simp) ?_ (by rw [List.size_toArray]<;>omega)
 rw [slicePick_cut,← hlen]
 refine ⟨.ref s.heap.objs.size,_,I.laid (t':=s.toks) (o:=.lst (qaP xs lo hi)) (fun b ob q=>Heap.get?_push_of_some _ q) (Nat.le_refl _) ?_,rfl,q _ (I.hok.fresh (Nat.le_refl _))⟩
 exact ⟨Nat.le_trans (qbd xs lo hi) hz,_,0,(r.drop (HT.sIx xs.length 0 lo)).take (HT.sIx xs.length xs.length hi - HT.sIx xs.length 0 lo),Heap.get?_push_size _ rfl⟩
def zB:V→Bool
 | .non=>true
 | .bl _=>true
 | .int _=>true
 | .str _=>true
 | _=>false
def eqV:V→V→Bool
 | .non,.non=>true
 | .bl a,.bl b=>a==b
 | .bl a,.int b=>(if a then 1 else 0)==b
 | .int a,.bl b=>a==(if b then 1 else 0)
 | .int a,.int b=>a==b
 | .str a,.str b=>a==b
 | _,_=>false
theorem qd8 {A:Around} {s:Shared} {y x:V} {u v:Value} (ry:RelV y u) (rx:RelV x v) (fy:zB y=true) (fx:zB x=true):SeqAt.EqAt A s u v (eqV y x):=by
 cases y with
 | non =>
  cases ry
  cases x with
  | non=>cases rx;exact SeqAt.EqAt.same _
  | bl b=>cases rx;exact SeqAt.EqAt.none_bool b
  | int b=>obtain ⟨t,rfl⟩:=rx;exact SeqAt.EqAt.none_int b t
  | str b=>obtain ⟨t,rfl⟩:=rx;exact SeqAt.EqAt.none_str b t
  | _=>exact absurd (show false=true from fx) Bool.false_ne_true
 | bl a =>
  cases ry
  cases x with
  | non=>cases rx;exact SeqAt.EqAt.bool_none a
  | bl b=>cases rx;exact SeqAt.EqAt.bool_bool a b
  | int b=>obtain ⟨t,rfl⟩:=rx;exact SeqAt.EqAt.bool_int a b t
  | str b=>obtain ⟨t,rfl⟩:=rx;exact SeqAt.EqAt.bool_str a b t
  | _=>exact absurd (show false=true from fx) Bool.false_ne_true
 | int a =>
  obtain ⟨t',rfl⟩:=ry
  cases x with
  | non=>cases rx;exact SeqAt.EqAt.int_none a t'
  | bl b=>cases rx;exact SeqAt.EqAt.int_bool a t' b
  | int b=>obtain ⟨t,rfl⟩:=rx;exact SeqAt.EqAt.int_int a t' b t
  | str b=>obtain ⟨t,rfl⟩:=rx;exact SeqAt.EqAt.int_str a t' b t
  | _=>exact absurd (show false=true from fx) Bool.false_ne_true
 | str a =>
  obtain ⟨t',rfl⟩:=ry
  cases x with
  | non=>cases rx;exact SeqAt.EqAt.str_none a t'
  | bl b=>cases rx;exact SeqAt.EqAt.str_bool a t' b
  | int b=>obtain ⟨t,rfl⟩:=rx;exact SeqAt.EqAt.str_int a t' b t
  | str b=>obtain ⟨t,rfl⟩:=rx;exact SeqAt.EqAt.str_str a t' b t
  | _=>exact absurd (show false=true from fx) Bool.false_ne_true
 | _=>exact absurd (show false=true from fy) Bool.false_ne_true
def eqU (x:V) (u:Value):Bool:=match u with
 | .none=>eqV .non x
 | .bool b=>eqV (.bl b) x
 | .int i _=>eqV (.int i) x
 | .str z _=>eqV (.str z) x
 | _=>false
theorem qe0 {x y:V} {u:Value} (r:RelV y u) (f:zB y=true):eqU x u=eqV y x:=by
 cases y with
 | non=>cases r;rfl
 | bl b=>cases r;rfl
 | int i=>obtain ⟨t,rfl⟩:=r;rfl
 | str z=>obtain ⟨t,rfl⟩:=r;rfl
 | _=>exact absurd (show false=true from f) Bool.false_ne_true
theorem qbe {x:V}:∀ {xs:List V} {us:List Value},Vals xs us→xs.all zB=true→us.any (eqU x)=xs.any fun y=>eqV y x
 | _,_,.nil,_=>rfl
 | y::xs,u::us,.cons r t,f=>by
  rw [List.all_cons,Bool.and_eq_true] at f
  rw [List.any_cons,List.any_cons,qe0 r f.1,qbe t f.2]
theorem qay {A:Around} {s:Shared} {x:V} {v:Value} (rx:RelV x v) (fx:zB x=true):∀ {xs:List V} {us:List Value},Vals xs us→xs.all zB=true→∀ u∈us,SeqAt.EqAt A s u v (eqU x u)
 | _,_,.nil,_=>fun u hu=>by cases hu
 | y::xs,u::us,.cons r t,f=>fun u' hu=>by
  rw [List.all_cons,Bool.and_eq_true] at f
  rcases List.mem_cons.mp hu with rfl | hu
  ·rw [qe0 r f.1];exact qd8 r rx f.1 fx
  ·exact qay rx fx t f.2 u' hu
def inV (x:V) (xs:List V):Bool:=xs.any fun y=>eqV y x
def rIn (K:PySem.W.Frag) (neg:Bool):R2:=fun x y H Q=>∃ p xs,y=.ref p∧(SqL K H p xs∨SqT K H p xs)∧zB x=true∧xs.all zB=true∧Q (.bl (if neg then !inV x xs else inV x xs)) H
theorem op_in_seq:OpR X (compareOp .In) (rIn X.K false):=by
 intro pins s σ H x y v u Q I rx ry h
 obtain ⟨p,xs,rfl,hq,fx,fs,q⟩:=h
 cases ry
 rcases hq with hq | hq
 ·obtain ⟨its,r,pl,hz⟩:=I.list hq
  refine SeqAt.in_listAt (eqU x) pl.isList (fun w hw=>qay rx fx r fs w (by simpa using hw)) ⟨.bl _,H,I,rfl,?_⟩
  rw [show its.toArray.any (eqU x)=its.any (eqU x) by simp,qbe r fs]
  exact q
 ·obtain ⟨its,r,pl,hz⟩:=I.tuple hq
  refine SeqAt.in_tupleAt (eqU x) pl (fun w hw=>qay rx fx r fs w (by simpa using hw)) ⟨.bl _,H,I,rfl,?_⟩
  rw [show its.toArray.any (eqU x)=its.any (eqU x) by simp,qbe r fs]
  exact q
theorem op_notIn_seq:OpR X (compareOp .NotIn) (rIn X.K true):=by
 intro pins s σ H x y v u Q I rx ry h
 obtain ⟨p,xs,rfl,hq,fx,fs,q⟩:=h
 cases ry
 rcases hq with hq | hq
 ·obtain ⟨its,r,pl,hz⟩:=I.list hq
  refine SeqAt.notIn_listAt (eqU x) pl.isList (fun w hw=>qay rx fx r fs w (by simpa using hw)) ⟨.bl _,H,I,rfl,?_⟩
  rw [show its.toArray.any (eqU x)=its.any (eqU x) by simp,qbe r fs]
  exact q
 ·obtain ⟨its,r,pl,hz⟩:=I.tuple hq
  refine SeqAt.notIn_tupleAt (eqU x) pl (fun w hw=>qay rx fx r fs w (by simpa using hw)) ⟨.bl _,H,I,rfl,?_⟩
  rw [show its.toArray.any (eqU x)=its.any (eqU x) by simp,qbe r fs]
  exact q
theorem call_len_seq:zE X (.builtin "len") (fun xs H Q=>∃ p ys,xs=[.ref p]∧(SqL X.K H p ys∨SqT X.K H p ys)∧Q (.int ys.length) H):=by
 intro pins s σ H xs us Q I r h
 obtain ⟨p,ys,rfl,hq,q⟩:=h
 obtain ⟨u,rfl,rx⟩:=qbb r
 cases rx
 have hn:=qbt
 rcases hq with hq | hq
 ·obtain ⟨its,r',pl,hz⟩:=I.list hq
  have hlen:=r'.length
  exact Calls.call_len_list pl.isList (by simp only [List.size_toArray]<;>omega) ⟨.int ys.length,H,I.tok _,⟨s.toks + 1,by rw [List.size_toArray,hlen]⟩,q⟩
 ·obtain ⟨its,r',pl,hz⟩:=I.tuple hq
  have hlen:=r'.length
  exact len_tuple pl (by simp only [List.size_toArray]<;>omega) ⟨.int ys.length,H,I.tok _,⟨s.toks + 1,by rw [List.size_toArray,hlen]⟩,q⟩
theorem call_len_str:zE X (.builtin "len") (fun xs H Q=>∃ z,xs=[.str z]∧z.length≤sizeLine∧Q (.int z.length) H):=by
 intro pins s σ H xs us Q I r h
 obtain ⟨z,rfl,hz,q⟩:=h
 obtain ⟨u,rfl,t,rfl⟩:=qbb r
 have hn:=qbt
 exact len_str (by omega) ⟨.int z.length,H,I.tok _,⟨_,rfl⟩,q⟩
theorem call_list_of:zE X (.type "list") (fun xs H Q=>∃ p ys,xs=[.ref p]∧(SqL X.K H p ys∨SqT X.K H p ys)∧∀ l,H l=none→Q (.ref l) (upd H l (.lst ys))):=by
 intro pins s σ H xs us Q I r h
 obtain ⟨p,ys,rfl,hq,q⟩:=h
 obtain ⟨u,rfl,rx⟩:=qbb r
 cases rx
 have fin:∀ (its:List Value),Vals ys its→ys.length≤sizeLine→∀ (h':Heap) (c':Nat),(∀ b o',s.heap.get? b=some o'→h'.get? b=some o') →
   h'.get? s.heap.objs.size=some { cls:=.type "list",dict:=none,data:=.seq its.toArray c',slots:=#[] }→EP X pins σ Q (.ref s.heap.objs.size) { s with heap:=h' }:=fun its r' hz h' c' kp e =>
  ⟨.ref s.heap.objs.size,_,I.laid (t':=s.toks) kp (Nat.le_refl _) (show ObjOk X.prog X.w _ h' _ (.lst ys) from ⟨hz,its,c',r',e⟩),rfl,q _ (I.hok.fresh (Nat.le_refl _))⟩
 rcases hq with hq | hq
 ·obtain ⟨its,r',pl,hz⟩:=I.list hq
  have hlen:=r'.length
  obtain ⟨o,ho,hc,n,hd⟩:=pl.isList
  exact call_list_seq p (.inl rfl) ho hc hd (fun h' c' kp e=>fin its r' hz h' c' kp e) (by simp only [List.size_toArray]<;>omega)
 ·obtain ⟨its,r',pl,hz⟩:=I.tuple hq
  have hlen:=r'.length
  obtain ⟨o,ho,hc,n,hd⟩:=pl
  exact call_list_seq p (.inr rfl) ho hc hd (fun h' c' kp e=>fin its r' hz h' c' kp e) (by simp only [List.size_toArray]<;>omega)
theorem call_tuple_of:zE X (.type "tuple") (fun xs H Q=>∃ p ys,xs=[.ref p]∧((SqL X.K H p ys∧∀ l,H l=none→Q (.ref l) (upd H l (.tup ys)))∨(SqT X.K H p ys∧Q (.ref p) H))):=by
 intro pins s σ H xs us Q I r h
 obtain ⟨p,ys,rfl,h⟩:=h
 obtain ⟨u,rfl,rx⟩:=qbb r
 cases rx
 rcases h with ⟨hq,q⟩ | ⟨hq,q⟩
 ·obtain ⟨its,r',pl,hz⟩:=I.list hq
  have hlen:=r'.length
  refine call_tuple_list pl.isList (fun h' kp=>?_) (by simp only [List.size_toArray]<;>omega)
  have I1:Inv X pins σ H { s with heap:=h' }:=I.kept (t':=s.toks) kp
  have I2:Inv X pins σ (upd H h'.objs.size (.tup ys)) { s with heap:=h'.push { cls:=.type "tuple",data:=.seq its.toArray } }:=
   I1.laid (t':=s.toks) (fun b o e=>Heap.get?_push_of_some _ e) (Nat.le_refl _) (show ObjOk X.prog X.w _ _ _ (.tup ys) from ⟨hz,its,r',IsTup.new _ _⟩)
  exact ⟨.ref h'.objs.size,_,I2,rfl,q _ (I1.hok.fresh (Nat.le_refl _))⟩
 ·obtain ⟨its,r',pl,hz⟩:=I.tuple hq
  exact call_tuple_same pl ⟨.ref p,H,I,rfl,q⟩
def tyV (K:PySem.W.Frag) (T:String) (x:V) (H:Hp):Prop:=match x with
 | .str _=>T="str"
 | .int _=>T="int"
 | .ref p=>(T="list"∧∃ xs,SqL K H p xs)∨(T="tuple"∧∃ o,K.lookup p=some o∧o.cls=.type "tuple"∧o.dict=none) ∨
   (T="dict"∧((∃ kvs,H p=some (.dK kvs))∨∃ kvs,H p=some (.dT kvs)))∨(T="set"∧∃ S n,H p=some (.set S n))
 | _=>False
theorem qe1 {pins:List (Addr×Obj)} {σ:St} {H:Hp} {s:Shared} {T:String} {x:V} {v:Value} (I:Inv X pins σ H s) (r:RelV x v) (ty:tyV X.K T x H) :
  s.TypeIs v T∧∀ a,v=.ref a→∃ ob,s.heap.get? a=some ob∧ob.dict=none:=by
 cases x with
 | str z =>
  obtain ⟨t,rfl⟩:=r
  cases (show T="str" from ty)
  exact ⟨typeIs_str s z t,fun _ e=>nomatch e⟩
 | int i =>
  obtain ⟨t,rfl⟩:=r
  cases (show T="int" from ty)
  exact ⟨typeIs_int s i t,fun _ e=>nomatch e⟩
 | ref p =>
  cases r
  rcases ty with ⟨rfl,xs,hq⟩ | ⟨rfl,o,hk,hc,hd⟩ | ⟨rfl,hk⟩ | ⟨rfl,S,n,hk⟩
  ·obtain ⟨its,_,pl,_⟩:=I.list hq
   refine ⟨pl.isList.typeIs,fun a e=>?_⟩
   cases e
   obtain ⟨o,n,e,c,hd,_⟩:=pl
   exact ⟨o,e,hd⟩
  ·refine ⟨⟨o,I.kIn p o hk,hc⟩,fun a e=>?_⟩
   cases e
   exact ⟨o,I.kIn _ o hk,hd⟩
  ·have z:∃ o,s.heap.get? p=some o∧o.ExactDict:=by
    rcases hk with ⟨kvs,hk⟩ | ⟨kvs,hk⟩
    ·obtain ⟨_,_,_,_,o,_,_,e,ex,_⟩:=I.hok p _ hk
     exact ⟨o,e,ex⟩
    ·obtain ⟨_,_,_,_,o,_,_,e,ex,_⟩:=I.hok p _ hk
     exact ⟨o,e,ex⟩
   obtain ⟨o,e,ex⟩:=z
   refine ⟨⟨o,e,ex.1⟩,fun a e2=>?_⟩
   cases e2
   exact ⟨o,e,ex.2.1⟩
  ·obtain ⟨o,_,_,_,e,ex,_⟩:=I.hok p _ hk
   refine ⟨⟨o,e,ex.1⟩,fun a e2=>?_⟩
   cases e2
   exact ⟨o,e,ex.2.1⟩
 | _=>exact False.elim ty
def qgX (K:PySem.W.Frag) (T:String) (r:V→List V→Hp→VK→Prop) (to:TE):TE:=fun σ H Q=>to σ H fun x H1=>tyV K T x H1∧r x [] H1 Q
def tBM (K:PySem.W.Frag) (T:String) (r:V→List V→Hp→VK→Prop) (to:TE) (t:TA):TE:=fun σ H Q=>to σ H fun x H1=>tyV K T x H1∧t σ H1 fun xs H2=>r x xs H2 Q
variable {o e:Expr} {es:List Expr} {to:TE} {t:TA} {name:Str} {apos cpos:Pos} {T id:String} {r:V→List V→Hp→VK→Prop}
theorem pe_bm0 (pa:PlainAttrs T) (slot:Slot T name id) (hty:typeOf (.builtin id)=pure (.type "method_descriptor")) (hm:MtR X id r) (ho:PE X o to)
  (hbase:attributeBase o name X.env (eval o X.env)=eval o X.env:=by rfl) (hline:(apos.endLine==cpos.line)=true:=by rfl):PE X (.Call (.Attribute o name apos) [] [] cpos) (qgX X.K T r to):=by
 intro pins s σ H Q I h
 refine wpAny_Call_method0_late hbase hline (thn (ho pins s σ H _ I h) fun v s1 ⟨x,H1,I1,r1,ty,q1⟩=>?_)
 obtain ⟨h1,h2⟩:=qe1 I1 r1 ty
 exact ⟨T,id,pa,slot,hty,h1,h2,Calls.callWith_builtin rfl (PySem.evalArgs_none (hm pins s1 σ H1 x [] v [] Q I1 r1 .nil q1))⟩
theorem pe_bm (pa:PlainAttrs T) (slot:Slot T name id) (hty:typeOf (.builtin id)=pure (.type "method_descriptor")) (hm:MtR X id r) (ho:PE X o to) (ha:PA X (e::es) t)
  (hbase:attributeBase o name X.env (eval o X.env)=eval o X.env:=by rfl)
  (hfew:((backTo cpos (starEach (e::es) X.env)).all (fun x=>!x.1)&&(backToKw cpos (keywordEach [] X.env)).all (fun x=>x.1.isSome)
   && decide ((e::es).length + ([]:List Keyword).length + (if ([]:List Keyword).isEmpty then 0 else 1) < 30))=true:=by rfl)
  (hline:(apos.endLine==cpos.line)=true:=by rfl) (hs:starEach (e::es) X.env=(false,eval e X.env)::starEach es X.env:=by rfl) (hplain:(backTo cpos (starEach es X.env)).any (·.1)=false:=by rfl) :
  PE X (.Call (.Attribute o name apos) (e::es) [] cpos) (tBM X.K T r to t):=by
 intro pins s σ H Q I h
 refine wpAny_Call_method_late hbase hfew hline rfl (thn (ho pins s σ H _ I h) fun v s1 ⟨x,H1,I1,r1,ty,q1⟩=>?_)
 obtain ⟨h1,h2⟩:=qe1 I1 r1 ty
 refine ⟨T,id,pa,slot,hty,h1,h2,?_⟩
 have hA:=ha cpos pins s1 σ H1 _ I1 q1
 rw [hs] at hA ⊢
 refine Calls.callWith_builtin (by show (false||(backTo cpos (starEach es X.env)).any (·.1))=false;rw [hplain]<;>rfl) (Calls.evalArgs_plain ?_)
 exact thn hA fun us s2 ⟨vs,H2,I2,r2,q2⟩=>hm pins s2 σ H2 x vs v us Q I2 r1 r2 q2
end
def MtM (X:Cx) (id:String) (r:V→List V→Hp→VK→Prop):Prop:=
 ∀ (pins:List (Addr×Obj)) (s:Shared) (σ:St) (H:Hp) (x:V) (xs:List V) (v:Value) (us:List Value) (Q:VK),Inv X pins σ H s→RelV x v→Vals xs us→r x xs H Q →
  wpAny (model X.prog X.w) X.A (call (.builtin id) (v::us)) (EP X pins σ Q) X.xe s
theorem Vals.one:∀ {x:V} {us:List Value},Vals [x] us→∃ u,us=[u]∧RelV x u
 | _,_,.cons r .nil=>⟨_,rfl,r⟩
theorem Vals.zero:∀ {us:List Value},Vals [] us→us=[]
 | _,.nil=>rfl
theorem Vals.dropLast {xs:List V} {us:List Value} (h:Vals xs us):Vals xs.dropLast us.dropLast:=by
 induction h with
 | nil=>exact .nil
 | cons r t ih =>
  cases t with
  | nil=>exact .nil
  | cons q t'=>exact .cons r ih
theorem Vals.eraseIdx:∀ {xs:List V} {us:List Value} (i:Nat),Vals xs us→Vals (xs.eraseIdx i) (us.eraseIdx i)
 | _,_,_,.nil=>.nil
 | _,_,0,.cons _ t=>t
 | _,_,i + 1,.cons r t=>.cons r (Vals.eraseIdx i t)
theorem Vals.reverse {xs:List V} {us:List Value} (h:Vals xs us):Vals xs.reverse us.reverse:=by
 induction h with
 | nil=>exact .nil
 | cons r t ih=>rw [List.reverse_cons,List.reverse_cons];exact Vals.append ih (.cons r .nil)
theorem Vals.rep {xs:List V} {us:List Value} (h:Vals xs us):∀ k:Nat,Vals (List.replicate k xs).flatten (List.replicate k us).flatten
 | 0=>.nil
 | k + 1=>by
  rw [List.replicate_succ,List.replicate_succ,List.flatten_cons,List.flatten_cons]
  exact Vals.append h (Vals.rep h k)
theorem erase_last {α:Type} (l:List α):l.eraseIdx (l.length - 1)=l.dropLast:=by
 induction l with
 | nil=>rfl
 | cons a r ih =>
  cases r with
  | nil=>rfl
  | cons b r =>
   have e:(a::b::r).length - 1=((b::r).length - 1) + 1:=by
    have h1:(a::b::r).length=r.length + 2:=rfl
    have h2:(b::r).length=r.length + 1:=rfl
    omega
   rw [e,List.eraseIdx_cons_succ,ih]
   all_goals rfl
theorem qcb {α:Type}:∀ (l:List α) (i:Nat),(l.eraseIdx i).length≤l.length
 | [],_=>Nat.le_refl _
 | _::_,0=>Nat.le_succ _
 | _::r,i + 1=>Nat.succ_le_succ (qcb r i)
theorem qcc (its:List Value):∀ (k:Nat) (acc:List Value),
  List.foldl (fun x1 x2=>x1++x2) acc.toArray (List.replicate k its.toArray)=(acc++(List.replicate k its).flatten).toArray
 | 0,acc=>by simp
 | k + 1,acc=>by
  have e:acc.toArray++its.toArray=(acc++its).toArray:=by simp
  have e2:(acc++its)++(List.replicate k its).flatten=acc++(List.replicate (k + 1) its).flatten:=by
   rw [List.replicate_succ,List.flatten_cons,List.append_assoc]
  rw [← e2,← qcc its k (acc++its),← e,List.replicate_succ,List.foldl_cons]
section
variable {X:Cx} {pins:List (Addr×Obj)} {σ:St} {H:Hp} {s:Shared} {l b:Addr} {xs ys zs:List V}
theorem Inv.lset {its its':List Value} {n:Nat} {f:Array Value→Array Value} {t':Nat} (I:Inv X pins σ H s) (hH:H l=some (.lst xs))
  (e:s.heap.get? l=some { cls:=.type "list",data:=.seq its.toArray n }) (hf:f its.toArray=its'.toArray) (hv:Vals ys its') (hz:ys.length≤sizeLine) :
  Inv X pins σ (upd H l (.lst ys)) { s with heap:=s.heap.update l (Obj.mapSeq f),toks:=t' }:=by
 have q:=PySem.IsL.update e f
 rw [hf] at q
 refine I.write (x:=l) (e:=l) (by rw [hH];exact trivial) (.inl rfl) (fun b' u hb hu=>(Heap.get?_update_other s.heap (Obj.mapSeq f) (Ne.symm hb)).trans hu) ⟨_,q⟩ ?_
 exact ⟨hz,its',_,hv,q⟩
theorem Inv.lnew {its:List Value} {t':Nat} (I:Inv X pins σ H s) (hv:Vals ys its) (hz:ys.length≤sizeLine) :
  Inv X pins σ (upd H s.heap.objs.size (.lst ys)) { s with heap:=s.heap.push { cls:=.type "list",data:=.seq its.toArray },toks:=t' }:=
 I.laid (fun _ _ q=>Heap.get?_push_of_some _ q) (Nat.le_refl _) ⟨hz,its,0,hv,Heap.get?_push_size _ rfl⟩
theorem Inv.fresh (I:Inv X pins σ H s):H s.heap.objs.size=none:=I.hok.fresh (Nat.le_refl _)
theorem Inv.lstM (I:Inv X pins σ H s) (hH:H l=some (.lst xs)):xs.length≤sizeLine∧∃ (its:List Value) (n:Nat),Vals xs its∧xs.length=its.length∧s.heap.get? l=some { cls:=.type "list",data:=.seq its.toArray n }:=by
 obtain ⟨z,its,n,r,e⟩:=I.hok l _ hH
 exact ⟨z,its,n,r,r.length,e⟩
theorem qdd {n:Nat} (h:n≤sizeLine):Builtin.List.listTooLong n=false:=by
 unfold Builtin.List.listTooLong
 exact decide_eq_false (by omega)
end
section
variable {X:Cx}
def qcK:V→List V→Hp→VK→Prop:=fun x vs H Q=>∃ l xs y,x=.ref l∧vs=[y]∧H l=some (.lst xs)∧xs.length < sizeLine∧Q .non (upd H l (.lst (xs++[y])))
theorem mt_append:MtM X "list.append" qcK:=by
 intro pins s σ H x vs v us Q I rx rv h
 obtain ⟨l,xs,y,rfl,rfl,hH,hz,q⟩:=h
 cases rx
 obtain ⟨u,rfl,ru⟩:=rv.one
 obtain ⟨z,its,n,r,hl,e⟩:=I.lstM hH
 refine call_meets F.slot_list_append ⟨_,e,rfl⟩ F.entry_list_append (F.args_list_append_2 _ _) (PySem.list_append l its.toArray n u (by rw [List.size_toArray];omega)) ⟨e,?_⟩
 refine ⟨.non,_,I.lset (its':=its++[u]) hH e (by simp) (r.append (.cons ru .nil)) ?_,rfl,q⟩
 rw [List.length_append,List.length_singleton]
 omega
def qd9:V→List V→Hp→VK→Prop:=fun x vs H Q=>∃ l b xs zs,x=.ref l∧vs=[.ref b]∧H l=some (.lst xs)∧H b=some (.lst zs)∧xs.length + zs.length≤sizeLine∧Q .non (upd H l (.lst (xs++zs)))
theorem mt_extend:MtM X "list.extend" qd9:=by
 intro pins s σ H x vs v us Q I rx rv h
 obtain ⟨l,b,xs,zs,rfl,rfl,hH,hB,hz,q⟩:=h
 cases rx
 obtain ⟨u,rfl,ru⟩:=rv.one
 cases ru
 obtain ⟨z,its,n,r,hl,e⟩:=I.lstM hH
 obtain ⟨z2,its2,n2,r2,hl2,e2⟩:=I.lstM hB
 have hsz:its.toArray.size + its2.toArray.size≤sizeLine:=by rw [List.size_toArray,List.size_toArray];omega
 have hlong:¬ (!its.toArray.isEmpty&&Builtin.List.listTooLong (its.toArray.size + its2.toArray.size))=true:=by
  rw [qdd hsz,Bool.and_false]
  exact Bool.false_ne_true
 refine call_meets F.slot_list_extend ⟨_,e,rfl⟩ F.entry_list_extend (F.args_list_extend_2 _ _)
  (AutoSeq1.list_extend_list_list_0 l its.toArray n b its2.toArray n2 hlong (by rw [List.size_toArray];omega) (by omega)) ⟨e,e2,?_⟩
 refine ⟨.non,_,I.lset (its':=its++its2) hH e (by simp) (r.append r2) ?_,rfl,q⟩
 rw [List.length_append]
 omega
def qhe:V→List V→Hp→VK→Prop:=fun x vs H Q=>∃ l xs y,x=.ref l∧vs=[]∧H l=some (.lst xs)∧xs[xs.length - 1]?=some y∧Q y (upd H l (.lst xs.dropLast))
theorem mt_pop:MtM X "list.pop" qhe:=by
 intro pins s σ H x vs v us Q I rx rv h
 obtain ⟨l,xs,y,rfl,rfl,hH,hy,q⟩:=h
 cases rx
 have hus:=rv.zero
 subst hus
 obtain ⟨z,its,n,r,hl,e⟩:=I.lstM hH
 obtain ⟨u,hu,ru⟩:=r.get hy
 have hy':its.toArray[its.toArray.size - 1]?=some u:=by
  show its.toArray[its.length - 1]?=some u
  rw [← Array.getElem?_toList,← hl]
  exact hu
 refine call_meets F.slot_list_pop ⟨_,e,rfl⟩ F.entry_list_pop (F.args_list_pop_1 _) (MeetsSeq.list_pop_last l its.toArray n u hy' (by rw [List.size_toArray];omega)) ⟨e,?_⟩
 refine ⟨y,_,I.lset (its':=its.dropLast) hH e ?_ r.dropLast ?_,ru,q⟩
 ·show its.toArray.eraseIdxIfInBounds (its.toArray.size - 1)=its.dropLast.toArray
  rw [List.size_toArray,List.eraseIdxIfInBounds_toArray,erase_last]
 ·rw [List.length_dropLast]
  omega
def qe2:V→List V→Hp→VK→Prop:=fun x vs H Q=>∃ l xs i k y,x=.ref l∧vs=[.int i]∧H l=some (.lst xs)∧-(2 ^ 63)≤i∧i < 2 ^ 63∧seqIndex? i xs.length=some k∧xs[k]?=some y∧Q y (upd H l (.lst (xs.eraseIdx k)))
theorem mt_popAt:MtM X "list.pop" qe2:=by
 intro pins s σ H x vs v us Q I rx rv h
 obtain ⟨l,xs,i,k,y,rfl,rfl,hH,h1,h2,hk,hy,q⟩:=h
 cases rx
 obtain ⟨u,rfl,ru⟩:=rv.one
 obtain ⟨t,rfl⟩:=ru
 obtain ⟨z,its,n,r,hl,e⟩:=I.lstM hH
 obtain ⟨w,hw,rw'⟩:=r.get hy
 refine call_meets F.slot_list_pop ⟨_,e,rfl⟩ F.entry_list_pop (F.args_list_pop_2 _ _)
  (MeetsSeq.list_pop_at l its.toArray n i t k w (fitsIndex_both h1 h2) (by rw [List.size_toArray,← hl];exact hk) (by rw [← Array.getElem?_toList];exact hw) (by rw [List.size_toArray];omega)) ⟨e,?_⟩
 refine ⟨y,_,I.lset (its':=its.eraseIdx k) hH e ?_ (r.eraseIdx k) ?_,rw',q⟩
 ·show its.toArray.eraseIdxIfInBounds k=(its.eraseIdx k).toArray
  rw [List.eraseIdxIfInBounds_toArray]
 ·have:=qcb xs k
  omega
def qde:V→List V→Hp→VK→Prop:=fun x vs H Q=>∃ l xs,x=.ref l∧vs=[]∧H l=some (.lst xs)∧Q .non (upd H l (.lst xs.reverse))
theorem mt_reverse:MtM X "list.reverse" qde:=by
 intro pins s σ H x vs v us Q I rx rv h
 obtain ⟨l,xs,rfl,rfl,hH,q⟩:=h
 cases rx
 have hus:=rv.zero
 subst hus
 obtain ⟨z,its,n,r,hl,e⟩:=I.lstM hH
 refine call_meets F.slot_list_reverse ⟨_,e,rfl⟩ F.entry_list_reverse (F.args_list_reverse_1 _) (AutoSeq1.list_reverse_list_0 l its.toArray n (by rw [List.size_toArray];omega)) ⟨e,?_⟩
 refine ⟨.non,_,I.lset (its':=its.reverse) hH e (by simp) r.reverse ?_,rfl,q⟩
 rw [List.length_reverse]
 omega
def qhf:R2:=fun x y H Q=>∃ l b xs zs,x=.ref l∧y=.ref b∧H l=some (.lst xs)∧H b=some (.lst zs)∧xs.length + zs.length≤sizeLine∧∀ p,H p=none→Q (.ref p) (upd H p (.lst (xs++zs)))
theorem op_cat:OpR X (binaryOp .Add) qhf:=by
 intro pins s σ H x y v u Q I rx ry h
 obtain ⟨l,b,xs,zs,rfl,rfl,hH,hB,hz,q⟩:=h
 cases rx
 cases ry
 obtain ⟨z,its,n,r,hl,e⟩:=I.lstM hH
 obtain ⟨z2,its2,n2,r2,hl2,e2⟩:=I.lstM hB
 refine PySem.P.add_list e e2 ?_ (by rw [List.size_toArray,List.size_toArray];omega)
 have ea:its.toArray++its2.toArray=(its++its2).toArray:=by simp
 rw [ea]
 exact ⟨.ref _,_,I.lnew (t':=s.toks) (r.append r2) (by rw [List.length_append];omega),rfl,q _ I.fresh⟩
def qhg:R2:=fun x y H Q=>∃ l k xs,x=.ref l∧y=.int k∧H l=some (.lst xs)∧-(2 ^ 63)≤k∧k < 2 ^ 63∧xs.length * k.toNat≤sizeLine ∧
 ∀ p,H p=none→Q (.ref p) (upd H p (.lst (List.replicate k.toNat xs).flatten))
theorem len_rep {α:Type} (xs:List α) (k:Nat):(List.replicate k xs).flatten.length=k * xs.length:=by
 induction k with
 | zero=>simp
 | succ k ih=>rw [List.replicate_succ,List.flatten_cons,List.length_append,ih,Nat.succ_mul,Nat.add_comm]
theorem op_rep:OpR X (binaryOp .Mult) qhg:=by
 intro pins s σ H x y v u Q I rx ry h
 obtain ⟨l,k,xs,rfl,rfl,hH,h1,h2,hz,q⟩:=h
 cases rx
 obtain ⟨t,rfl⟩:=ry
 obtain ⟨z,its,n,r,hl,e⟩:=I.lstM hH
 have hlen:its.toArray.size * k.toNat≤sizeLine:=by rw [List.size_toArray,← hl];exact hz
 have hcap:¬ its.toArray.size * k.toNat > (2 ^ 63 - 1) / 8:=by
  have:(sizeLine:Nat)≤(2 ^ 63 - 1) / 8:=by decide
  omega
 have hfit:¬ (!Builtin.List.listFitsIndex k)=true:=by
  rw [fitsIndex_both h1 h2]
  exact Bool.false_ne_true
 have hlong:¬ Builtin.List.listTooLong (its.toArray.size * k.toNat)=true:=by
  rw [qdd hlen]
  exact Bool.false_ne_true
 have hnew:List.foldl (fun x1 x2=>x1++x2) #[] (List.replicate (if its.toArray.isEmpty=true then 0 else k.toNat) its.toArray)=(List.replicate k.toNat its).flatten.toArray:=by
  have f0:∀ m:Nat,List.foldl (fun x1 x2=>x1++x2) #[] (List.replicate m its.toArray)=(List.replicate m its).flatten.toArray:=fun m=>by
   have:=qcc its m []
   rw [List.nil_append] at this
   exact this
  rw [f0]
  cases its with
  | nil=>simp
  | cons a r'=>rw [if_neg (by simp)]
 refine wpAny_binaryOp_repeat_ref (T:="list") (U:="int") (by decide) ⟨_,e,rfl⟩ (fun s'=>typeIs_int s' k t) noFill_list_mul F.fills_int_mul F.slot_int_rmul repeat_list F.slot_int_index.lookup
  (call_meets F.slot_int_rmul (typeIs_int s k t) F.entry_int_rmul (F.args_int_rmul_2 _ _) (int___rmul___int_list k t l its.toArray n)
   ⟨e,rfl,⟨_,e,rfl⟩,call_meets F.slot_list_mul ⟨_,e,rfl⟩ F.entry_list_mul (F.args_list_mul_2 _ _) (AutoListH.list___mul___list_int_3 l its.toArray n k t hfit hcap hlong) ⟨e,?_⟩⟩)
 rw [hnew]
 exact ⟨.ref _,_,I.lnew (t':=s.toks) (r.rep k.toNat) (by rw [len_rep,Nat.mul_comm];exact hz),rfl,q _ I.fresh⟩
end
section
variable {prog:Program} {w:World} {A:Around} {E:Value→Shared→Prop} {s:Shared}
set_option maxRecDepth 100000 in
end
section
variable {X:Cx}
end
section
variable {κ:Type} [DecidableEq κ]
def qbW (kvs:List (κ×V)) (k:κ):Option V:=(kvs.find? fun kv=>decide (kv.1=k)).map (·.2)
def qcd (kvs:List (κ×V)) (k:κ) (v:V):List (κ×V):=
 if (kvs.any fun kv=>decide (kv.1=k))=true then kvs.map (fun kv=>if kv.1=k then (kv.1,v) else kv) else kvs++[(k,v)]
def dropK (kvs:List (κ×V)) (k:κ):List (κ×V):=kvs.filter fun kv=>decide (kv.1≠k)
theorem qa3 {p:κ×V} {r:List (κ×V)} {k:κ} (e:p.1=k):qbW (p::r) k=some p.2:=by simp [qbW,List.find?_cons,e]
theorem qaz {p:κ×V} {r:List (κ×V)} {k:κ} (e:¬ p.1=k):qbW (p::r) k=qbW r k:=by simp [qbW,List.find?_cons,e]
theorem qbG (k:κ):∀ kvs:List (κ×V),(kvs.any fun kv=>decide (kv.1=k))=(qbW kvs k).isSome
 | []=>rfl
 | p::r=>by
  rw [List.any_cons]
  by_cases e:p.1=k
  ·simp only [qa3 e,decide_eq_true e,Bool.true_or,Option.isSome_some]
  ·rw [qaz e,decide_eq_false e,Bool.false_or];exact qbG k r
theorem qao (kvs:List (κ×V)) (k:κ) (v:V):(qcd kvs k v).length≤kvs.length + 1:=by
 unfold qcd
 split
 ·rw [List.length_map];omega
 ·rw [List.length_append,List.length_cons,List.length_nil];omega
theorem putK_new {kvs:List (κ×V)} {k:κ} (v:V) (h:qbW kvs k=none):qcd kvs k v=kvs++[(k,v)]:=by
 unfold qcd
 rw [qbG,h]
 exact if_neg (by decide)
theorem RelO.isSome_eq {o:Option V} {u:Option Value} (r:RelO o u):o.isSome=u.isSome:=by
 cases o with
 | none=>cases u with
  | none=>rfl
  | some _=>exact (show False from r).elim
 | some _=>cases u with
  | none=>exact (show False from r).elim
  | some _=>rfl
theorem KV.val {kvs:List (κ×V)} {vs:List (κ×Value)} (r:KV kvs vs) (k:κ):RelO (qbW kvs k) (valueAt vs k):=by
 unfold KV at r
 induction r with
 | nil=>exact True.intro
 | @cons p q ps qs h t ih =>
  obtain ⟨h1,h2⟩:=h
  by_cases e:p.1=k
  ·have e':q.1=k:=h1.symm.trans e
   have b:valueAt (q::qs) k=some q.2:=by simp [valueAt,List.find?_cons,e']
   rw [qa3 e,b];exact h2
  ·have e':¬ q.1=k:=fun z=>e (h1.trans z)
   have b:valueAt (q::qs) k=valueAt qs k:=by simp [valueAt,List.find?_cons,e']
   rw [qaz e,b];exact ih
theorem KV.any {kvs:List (κ×V)} {vs:List (κ×Value)} (r:KV kvs vs) (k:κ):(kvs.any fun kv=>decide (kv.1=k))=vs.any fun kv=>decide (kv.1=k):=by
 unfold KV at r
 induction r with
 | nil=>rfl
 | cons h t ih=>rw [List.any_cons,List.any_cons,ih,h.1]
theorem KV.repl {kvs:List (κ×V)} {vs:List (κ×Value)} (r:KV kvs vs) (k:κ) {y:V} {u:Value} (ry:RelV y u) :
  KV (kvs.map fun kv=>if kv.1=k then (kv.1,y) else kv) (vs.map fun kv=>if kv.1=k then (kv.1,u) else kv):=by
 unfold KV at r ⊢
 induction r with
 | nil=>exact .nil
 | @cons p q ps qs h t ih =>
  rw [List.map_cons,List.map_cons]
  refine .cons ?_ ih
  obtain ⟨h1,h2⟩:=h
  by_cases e:p.1=k
  ·rw [if_pos e,if_pos (h1.symm.trans e)];exact ⟨h1,ry⟩
  ·rw [if_neg e,if_neg (fun z=>e (h1.trans z))];exact ⟨h1,h2⟩
theorem KV.put {kvs:List (κ×V)} {vs:List (κ×Value)} (r:KV kvs vs) (k:κ) {y:V} {u:Value} (ry:RelV y u):KV (qcd kvs k y) (stored vs k u):=by
 unfold qcd stored
 rw [r.any k]
 by_cases e:(vs.any fun kv=>decide (kv.1=k))=true
 ·rw [if_pos e,if_pos e];exact r.repl k ry
 ·rw [if_neg e,if_neg e];exact Paired.snoc r ⟨rfl,ry⟩
theorem KV.length {kvs:List (κ×V)} {vs:List (κ×Value)} (r:KV kvs vs):kvs.length=vs.length:=Paired.length r
end
theorem qdM {P:Program} {w:World} {k:Key} {u:Value} (r:RelV (kV k) u):(jD P w).is k u=true:=by
 cases k with
 | inl i=>obtain ⟨t,e⟩:=(show ∃ t,u=Value.int i t from r);subst e;exact mixKind_int P w i t
 | inr x=>obtain ⟨t,e⟩:=(show ∃ t,u=Value.str x t from r);subst e;exact mixKind_str P w x t
theorem qce {P:Program} {w:World}:∀ {ks:List Key} {us:List Value},Vals (ks.map kV) us→ItemsAre (jD P w) ks us
 | [],_,r=>by rw [List.map_nil] at r;cases r;exact .nil
 | k::ks,_,r=>by
  rw [List.map_cons] at r
  cases r with
  | cons h t=>exact .cons (qdM h) (qce t)
abbrev KT (H:Hp):List (List Key×V)→List (List Key×Addr×Value)→Prop:=Paired fun p q=>p.1=q.1∧H q.2.1=some (.tup (p.1.map kV))∧RelV p.2 q.2.2
theorem KT.val {H:Hp} {kvs:List (List Key×V)} {xs:List (List Key×Addr×Value)} (r:KT H kvs xs) (k:List Key):RelO (qbW kvs k) ((atKey xs k).map (·.2)):=by
 induction r with
 | nil=>exact True.intro
 | @cons p q ps qs h t ih =>
  obtain ⟨h1,_,h2⟩:=h
  by_cases e:p.1=k
  ·have e':q.1=k:=h1.symm.trans e
   have b:atKey (q::qs) k=some q.2:=by simp [atKey,List.find?_cons,e']
   rw [qa3 e,b];exact h2
  ·have e':¬ q.1=k:=fun z=>e (h1.trans z)
   have b:atKey (q::qs) k=atKey qs k:=by simp [atKey,List.find?_cons,e']
   rw [qaz e,b];exact ih
theorem KT.repl {H:Hp} {kvs:List (List Key×V)} {xs:List (List Key×Addr×Value)} (r:KT H kvs xs) (k:List Key) {y:V} {u:Value} (ry:RelV y u) :
  KT H (kvs.map fun kv=>if kv.1=k then (kv.1,y) else kv) (xs.map (putAt k u)):=by
 induction r with
 | nil=>exact .nil
 | @cons p q ps qs h t ih =>
  rw [List.map_cons,List.map_cons]
  refine .cons ?_ ih
  obtain ⟨h1,h2,h3⟩:=h
  unfold putAt
  by_cases e:p.1=k
  ·rw [if_pos e,if_pos (h1.symm.trans e)];exact ⟨h1,h2,ry⟩
  ·rw [if_neg e,if_neg (fun z=>e (h1.trans z))];exact ⟨h1,h2,h3⟩
theorem KT.put {H:Hp} {kvs:List (List Key×V)} {xs:List (List Key×Addr×Value)} (r:KT H kvs xs) (k:List Key) {b:Addr} {y:V} {u:Value} (hb:H b=some (.tup (k.map kV))) (ry:RelV y u) :
  KT H (qcd kvs k y) (storedH xs k b u):=by
 have e:(kvs.any fun kv=>decide (kv.1=k))=(atKey xs k).isSome:=by
  rw [qbG,(r.val k).isSome_eq,Option.isSome_map]
 unfold qcd storedH
 rw [e]
 by_cases q:(atKey xs k).isSome=true
 ·rw [if_pos q,if_pos q];exact r.repl k ry
 ·rw [if_neg q,if_neg q];exact Paired.snoc r ⟨rfl,hb,ry⟩
theorem KT.keeps {H H':Hp} {kvs:List (List Key×V)} {xs:List (List Key×Addr×Value)} (r:KT H kvs xs) (ht:∀ b ys,H b=some (.tup ys)→H' b=some (.tup ys)):KT H' kvs xs:=
 Paired.mapP r fun _ _ z=>⟨z.1,ht _ _ z.2.1,z.2.2⟩
section
variable {P:Program} {w:World} {H:Hp} {h:Heap} {a:Addr}
theorem qf6 {u:HO} (ok:HOk P w H h) (e:Rd H a u):ObjOk P w H h a u:=e.ok ok
theorem qdN {kvs:List (Key×V)} (ok:HOk P w H h) (e:Rd H a (.dK kvs)):kvs.length≤sizeLine∧(a==sysModules)=false∧∃ vs,KV kvs vs∧h.DictOf (jD P w) a vs:=
 show ObjOk P w H h a (.dK kvs) from qf6 ok e
theorem qfH {kvs:List (Key×V)} (ok:HOk P w H h) (e:H a=some (.dK kvs)):kvs.length≤sizeLine∧(a==sysModules)=false∧∃ vs,KV kvs vs∧h.DictOf (jD P w) a vs:=qdN ok (.inl e)
theorem qcf {ks:List Key} (ok:HOk P w H h) (e:H a=some (.tup (ks.map kV))):(tupleKind (jD P w)).is h ks a:=by
 obtain ⟨_,its,r,o,h1,h2,n,h3⟩:=(show ObjOk P w H h a (.tup (ks.map kV)) from ok a _ e)
 exact ⟨o,its.toArray,n,h1,h2,h3,by simpa using qce r⟩
theorem qea {kvs:List (List Key×V)} (ok:HOk P w H h) (e:Rd H a (.dT kvs)):kvs.length≤sizeLine∧(a==sysModules)=false ∧
  ∃ xs,KT H kvs xs∧h.DictOfH (tupleKind (jD P w)) a xs:=by
 obtain ⟨z,y,xs,r,o,es,ep,h1,h2,h3,h4,h5⟩:=(show ObjOk P w H h a (.dT kvs) from qf6 ok e)
 refine ⟨z,y,xs,r,o,es,ep,h1,h2,h3,h4,fun x hx=>?_,h5⟩
 have all:∀ {l:List (List Key×V)} {m:List (List Key×Addr×Value)},KT H l m→∀ x∈m,(tupleKind (jD P w)).is h x.1 x.2.1:=by
  intro l m q
  induction q with
  | nil=>intro x hx;exact nomatch hx
  | @cons p q ps qs hq t ih =>
   intro x hx
   rcases List.mem_cons.mp hx with e | hx
   ·subst e
    exact qcf ok (by rw [← hq.1];exact hq.2.1)
   ·exact ih x hx
 exact all r x hx
theorem dt_of {kvs:List (List Key×V)} (ok:HOk P w H h) (e:H a=some (.dT kvs)):kvs.length≤sizeLine∧(a==sysModules)=false ∧
  ∃ xs,KT H kvs xs∧h.DictOfH (tupleKind (jD P w)) a xs:=qea ok (.inl e)
end
def DGet (H:Hp) (a:Addr) (y:V) (r:Option V):Prop:=
 (∃ kvs k,Rd H a (.dK kvs)∧y=kV k∧r=qbW kvs k)∨∃ kvs k b,Rd H a (.dT kvs)∧y=.ref b∧H b=some (.tup (k.map kV))∧r=qbW kvs k
def DPut (H:Hp) (a:Addr) (y v:V) (H':Hp):Prop:=
 (∃ kvs k,H a=some (.dK kvs)∧y=kV k∧kvs.length < sizeLine∧H'=upd H a (.dK (qcd kvs k v))) ∨
 ∃ kvs k b,H a=some (.dT kvs)∧y=.ref b∧H b=some (.tup (k.map kV))∧kvs.length < sizeLine∧H'=upd H a (.dT (qcd kvs k v))
theorem DGet.k {H:Hp} {a:Addr} {kvs:List (Key×V)} {k:Key} (e:H a=some (.dK kvs)):DGet H a (kV k) (qbW kvs k):=.inl ⟨kvs,k,.inl e,rfl,rfl⟩
theorem DPut.k {H:Hp} {a:Addr} {kvs:List (Key×V)} {k:Key} {v:V} (e:H a=some (.dK kvs)) (hl:kvs.length < sizeLine):DPut H a (kV k) v (upd H a (.dK (qcd kvs k v))):=.inl ⟨kvs,k,e,rfl,hl,rfl⟩
section
variable {X:Cx} {pins:List (Addr×Obj)} {σ:St} {H:Hp} {s:Shared} {a:Addr} {y v:V} {u r:Value} {o:Option V} {A:Around} {E:Value→Shared→Prop}
theorem Inv.big (I:Inv X pins σ H s):sysModules < s.heap.objs.size:=by
 have h:mainGlobals < s.heap.objs.size:=(I.mod.glob.keeps I.bk).lt
 exact Nat.lt_trans (by decide) h
theorem d_getItem {Q:Value→Shared→Prop} (hu:A.units + 1 < cLine) (I:Inv X pins σ H s) (g:DGet H a y (some v)) (ry:RelV y u) (h:∀ w' s',Inv X pins σ H s'→RelV v w'→Q w' s') :
  wpAny (model X.prog X.w) A (getItem (.ref a) u) Q E s:=by
 rcases g with ⟨kvs,k,e,ey,l⟩ | ⟨kvs,k,b,e,ey,eb,l⟩
 ·subst ey
  obtain ⟨z,hd,vs,rel,dd⟩:=qdN I.hok e
  obtain ⟨w',hw,rw'⟩:=RelO.some_of (v:=v) (o:=valueAt vs k) (by rw [l];exact rel.val k)
  exact wpAny_getItem_of (qdM ry) dd.mapOf hw (h w' _ (I.tok _) rw')
 ·subst ey
  cases (show u=Value.ref b from ry)
  obtain ⟨z,hd,xs,rel,dd⟩:=qea I.hok e
  obtain ⟨w',hw,rw'⟩:=RelO.some_of (v:=v) (o:=(atKey xs k).map (·.2)) (by rw [l];exact rel.val k)
  obtain ⟨p,hp,hp2⟩:=Option.map_eq_some_iff.mp hw
  refine wpAny_getItem_heap (tupleKind_room_in1 hu) (qcf I.hok eb) dd hp ?_
  rw [hp2]
  exact h w' _ (I.tok _) rw'
theorem d_in {Q:Value→Shared→Prop} (hu:A.units + 1 < cLine) (I:Inv X pins σ H s) (g:DGet H a y o) (ry:RelV y u) (h:∀ s',Inv X pins σ H s'→Q (.bool o.isSome) s') :
  wpAny (model X.prog X.w) A (compareOp .In u (.ref a)) Q E s:=by
 rcases g with ⟨kvs,k,e,ey,l⟩ | ⟨kvs,k,b,e,ey,eb,l⟩
 ·subst ey
  obtain ⟨z,hd,vs,rel,dd⟩:=qdN I.hok e
  refine wpAny_in_of (qdM ry) hd dd.mapOf ?_
  rw [← (rel.val k).isSome_eq,← l]
  exact h _ (I.tok _)
 ·subst ey
  cases (show u=Value.ref b from ry)
  obtain ⟨z,hd,xs,rel,dd⟩:=qea I.hok e
  refine wpAny_in_heap (tupleKind_room_in1 hu) (qcf I.hok eb) hd dd ?_
  have q:=(rel.val k).isSome_eq
  rw [Option.isSome_map] at q
  rw [← q,← l]
  exact h _ (I.tok _)
theorem d_notIn {Q:Value→Shared→Prop} (hu:A.units + 1 < cLine) (I:Inv X pins σ H s) (g:DGet H a y o) (ry:RelV y u) (h:∀ s',Inv X pins σ H s'→Q (.bool (!o.isSome)) s') :
  wpAny (model X.prog X.w) A (compareOp .NotIn u (.ref a)) Q E s:=by
 rcases g with ⟨kvs,k,e,ey,l⟩ | ⟨kvs,k,b,e,ey,eb,l⟩
 ·subst ey
  obtain ⟨z,hd,vs,rel,dd⟩:=qdN I.hok e
  refine wpAny_notIn_of (qdM ry) hd dd.mapOf ?_
  rw [← (rel.val k).isSome_eq,← l]
  exact h _ (I.tok _)
 ·subst ey
  cases (show u=Value.ref b from ry)
  obtain ⟨z,hd,xs,rel,dd⟩:=qea I.hok e
  refine wpAny_notIn_heap (tupleKind_room_in1 hu) (qcf I.hok eb) hd dd ?_
  have q:=(rel.val k).isSome_eq
  rw [Option.isSome_map] at q
  rw [← q,← l]
  exact h _ (I.tok _)
theorem qcL {h':Heap} {t':Nat} {ob:HO} (I:Inv X pins σ H s) (mu:Mut (H a)) (hs:Heap.SameBut a s.heap h') (he:∃ q,h'.get? a=some q) (new:ObjOk X.prog X.w (upd H a ob) h' a ob) :
  Inv X pins σ (upd H a ob) { s with heap:=h',toks:=t' }:=
 I.write (x:=a) (e:=a) mu (.inl rfl) (fun b q hb z=>(hs.2 b hb).trans z) he new
theorem qe3 {P:Program} {w:World} {H':Hp} {h':Heap} {kvs:List (Key×V)} {vs:List (Key×Value)} (z:kvs.length≤sizeLine) (hd:(a==sysModules)=false) (rel:KV kvs vs) (dd:h'.DictOf (jD P w) a vs) :
  ObjOk P w H' h' a (.dK kvs):=⟨z,hd,vs,rel,dd⟩
theorem d_setItem {H':Hp} {Q:Unit→Shared→Prop} (hu:A.units + 1 < cLine) (I:Inv X pins σ H s) (g:DPut H a y v H') (ry:RelV y u) (rv:RelV v r) (h:∀ s',Inv X pins σ H' s'→Q () s') :
  wpAny (model X.prog X.w) A (setItem (.ref a) u r) Q E s:=by
 rcases g with ⟨kvs,k,e,ey,l,eH⟩ | ⟨kvs,k,b,e,ey,eb,l,eH⟩
 ·subst ey eH
  obtain ⟨z,hd,vs,rel,dd⟩:=qfH I.hok e
  have hz:vs.length≤sizeLine:=by rw [← rel.length];exact z
  have hl:(qcd kvs k v).length≤sizeLine:=by have:=qao kvs k v;omega
  refine wpAny_setItem_pairs (hsz:=hz) (qdM ry) dd fun h' dd' hs=>h _ ?_
  have he:∃ q,h'.get? a=some q:=let ⟨q,_,_,hq,_⟩:=dd';⟨q,hq⟩
  exact qcL I (by rw [e];exact True.intro) hs he (qe3 hl hd (rel.put k rv) dd')
 ·subst ey eH
  cases (show u=Value.ref b from ry)
  obtain ⟨z,hd,xs,rel,dd⟩:=dt_of I.hok e
  have hz:xs.length≤sizeLine:=by rw [← Paired.length rel];exact z
  have hl:(qcd kvs k v).length≤sizeLine:=by have:=qao kvs k v;omega
  refine wpAny_setItem_heap (hsz:=hz) (tupleKind_room_in1 hu) (qcf I.hok eb) dd fun h' dd' hs=>h _ ?_
  obtain ⟨q,es,ep,hq,h2,h3,h4,_,h5⟩:=dd'
  refine qcL I (by rw [e];exact True.intro) hs ⟨q,hq⟩ ⟨hl,hd,_,(rel.put k eb rv).keeps fun c ys ec=>?_,q,es,ep,hq,h2,h3,h4,h5⟩
  rw [qk (zo ec e (fun z=>nomatch z))]
  exact ec
end
section
variable {X:Cx} {pins:List (Addr×Obj)} {σ:St} {H:Hp} {s:Shared} {a:Addr} {kvs:List (Key×V)} {k:Key} {u:Value} {A:Around} {E:Value→Shared→Prop}
theorem d_len {Q:Value→Shared→Prop} (I:Inv X pins σ H s) (e:Rd H a (.dK kvs)) (h:∀ t s',Inv X pins σ H s'→Q (.int kvs.length t) s'):wpAny (model X.prog X.w) A (call (.builtin "len") [.ref a]) Q E s:=by
 obtain ⟨z,hd,vs,rel,dd⟩:=qdN I.hok e
 refine call_len_dict hd dd (by rw [← rel.length];rw [sizeLine_eq] at z;omega) ?_
 rw [← rel.length]
 exact h _ _ (I.tok _)
end
theorem dict_typeIs {X:Cx} {pins:List (Addr×Obj)} {σ:St} {H:Hp} {s:Shared} {a:Addr} {y:V} {o:Option V} (I:Inv X pins σ H s) (g:DGet H a y o):s.TypeIs (.ref a) "dict":=by
 rcases g with ⟨kvs,k,e,_,_⟩ | ⟨kvs,k,b,e,_,_,_⟩
 ·obtain ⟨_,_,vs,_,dd⟩:=qdN I.hok e
  exact dd.typeIs
 ·obtain ⟨_,_,xs,_,dd⟩:=qea I.hok e
  exact dd.typeIs
section
variable {X:Cx} {o i e value:Expr} {pos pos' tpos:Pos} {td ty tv:TE}
end
theorem qdf {P:Program} {w:World} {H:Hp} (h:Heap) (hb:sysModules < h.objs.size):ObjOk P w H (h.push { cls:=.type "dict",data:=.dict #[] }) h.objs.size (.dK []):=
 ⟨Nat.zero_le _,beq_eq_false_iff_ne.mpr (Ne.symm (Nat.ne_of_lt hb)),[],.nil,Heap.DictOf.new h⟩
def tDNewK:TE:=fun _ H Q=>∀ p,H p=none→Q (.ref p) (upd H p (.dK []))
section
variable {X:Cx} {pos:Pos}
theorem qdg:PE X (.Dict [] [] pos) tDNewK:=fun pins s σ H Q I h =>
 wpAny_Dict_empty ⟨.ref s.heap.objs.size,_,I.laid (a:=s.heap.objs.size) (o:=.dK []) (t':=s.toks) (fun _ _ q=>Heap.get?_push_of_some _ q) (Nat.le_refl _) (qdf s.heap I.big),rfl,h _ (I.hok.fresh (Nat.le_refl _))⟩
end
def qdh:List (TE×TE)→St→Hp→(List (V×V)→Hp→Prop)→Prop
 | [],_,H,Q=>Q [] H
 | (tk,tv)::r,σ,H,Q=>tk σ H fun x H1=>tv σ H1 fun y H2=>qdh r σ H2 fun ps H3=>Q ((x,y)::ps) H3
abbrev VV:List (V×V)→List (Value×Value)→Prop:=Paired fun p q=>RelV p.1 q.1∧RelV p.2 q.2
def PPs (X:Cx) (pos:Pos) (keys:List (Option Expr)) (values:List Expr) (trs:List (TE×TE)):Prop:=
 ∀ (pins:List (Addr×Obj)) (s:Shared) (σ:St) (H:Hp) (Q:List (V×V)→Hp→Prop),Inv X pins σ H s→qdh trs σ H Q →
  wpAny (model X.prog X.w) X.A (evalPairs (pairTrees keys values X.env pos)) (fun vs s'=>∃ ps H',Inv X pins σ H' s'∧VV ps vs∧Q ps H') X.xe s
theorem pps_nil {X:Cx} {pos:Pos}:PPs X pos [] [] []:=fun pins s σ H Q I h=>pairTrees_nil_walk ⟨[],H,I,.nil,h⟩
theorem pps_cons {X:Cx} {pos:Pos} {k v:Expr} {ks:List (Option Expr)} {vs:List Expr} {tk tv:TE} {trs:List (TE×TE)} (hk:PE X k tk) (hv:PE X v tv) (hr:PPs X pos ks vs trs) :
  PPs X pos (some k::ks) (v::vs) ((tk,tv)::trs):=fun pins s σ H Q I h =>
 pairTrees_cons_walk (thn (hk pins s σ H _ I h) fun u s1 ⟨x,H1,I1,rx,q1⟩=>thn (hv pins s1 σ H1 _ I1 q1) fun w2 s2 ⟨y,H2,I2,ry,q2⟩ =>
  thn (hr pins s2 σ H2 _ I2 q2) fun ws s3 ⟨ps,H3,I3,rel,q3⟩=>⟨(x,y)::ps,H3,I3,.cons ⟨rx,ry⟩ rel,q3⟩)
def qaA (kvs more:List (Key×V)):List (Key×V):=more.foldl (fun acc kv=>qcd acc kv.1 kv.2) kvs
theorem KV.merge:∀ {more:List (Key×V)} {rs:List (Key×Value)} {kvs:List (Key×V)} {vs:List (Key×Value)},KV more rs→KV kvs vs→KV (qaA kvs more) (merged vs rs):=by
 intro more rs kvs vs r
 unfold KV at r
 induction r generalizing kvs vs with
 | nil=>intro q;exact q
 | @cons p q ps qs h t ih =>
  intro r0
  have e:KV (qcd kvs p.1 p.2) (stored vs q.1 q.2):=by
   have:=r0.put p.1 h.2
   rw [← h.1];exact this
  exact ih e
theorem qaB:∀ (more kvs:List (Key×V)),(qaA kvs more).length≤kvs.length + more.length
 | [],kvs=>by show kvs.length≤kvs.length + 0;omega
 | p::r,kvs=>by
  have h1:=qaB r (qcd kvs p.1 p.2)
  have h2:=qao kvs p.1 p.2
  show (qaA (qcd kvs p.1 p.2) r).length≤_
  rw [List.length_cons];omega
theorem qbv {P:Program} {w:World}:∀ {kvs:List (Key×V)} {ws:List (Value×Value)},VV (kvs.map fun kv=>(kV kv.1,kv.2)) ws→∃ rs,Carries (jD P w) ws rs∧KV kvs rs
 | [],_,r=>by rw [List.map_nil] at r;cases r;exact ⟨[],True.intro,.nil⟩
 | p::kvs,_,r=>by
  rw [List.map_cons] at r
  cases r with
  | @cons a b as bs h t =>
   obtain ⟨rs,c,q⟩:=qbv (P:=P) (w:=w) t
   obtain ⟨b1,b2⟩:=b
   exact ⟨(p.1,b2)::rs,⟨qdM h.1,rfl,c⟩,.cons ⟨rfl,h.2⟩ q⟩
def tDisp (trs:List (TE×TE)):TE:=fun σ H Q=>∀ p,H p=none→qdh trs σ (upd H p (.dK [])) fun ps H2=>H2 p=some (.dK [])∧∃ kvs:List (Key×V),ps=kvs.map (fun kv=>(kV kv.1,kv.2))∧kvs.length≤15∧Q (.ref p) (upd H2 p (.dK (qaA [] kvs)))
theorem pe_disp {X:Cx} {pos:Pos} {keys:List (Option Expr)} {values:List Expr} {trs:List (TE×TE)} (h:PPs X pos keys values trs) (hall:keys.all (·.isSome)=true) (hl:keys.length=values.length) (h0:keys≠[])
  (h15:keys.length≤15):PE X (.Dict keys values pos) (tDisp trs):=by
 intro pins s σ H Q I q
 have hn:=I.hok.fresh (Nat.le_refl s.heap.objs.size)
 have I1:=I.laid (a:=s.heap.objs.size) (o:=.dK []) (h':=s.heap.push { cls:=.type "dict",data:=.dict #[] }) (t':=s.toks) (fun _ _ q=>Heap.get?_push_of_some _ q) (Nat.le_refl _) (qdf s.heap I.big)
 refine wpAny_Dict_walk (knd:=jD X.prog X.w) hall hl h0 h15 (thn (h pins _ σ _ _ I1 (q _ hn)) fun ws s2 ⟨ps,H2,I2,rel,e,kvs,ep,lk,q2⟩=>?_)
 subst ep
 obtain ⟨rs,c,rk⟩:=qbv (P:=X.prog) (w:=X.w) rel
 obtain ⟨z,hd,vs0,r0,dd⟩:=qfH I2.hok e
 cases r0
 refine ⟨rs,c,dd,fun h' dd' hs=>⟨.ref s.heap.objs.size,_,?_,rfl,q2⟩⟩
 have hz:(qaA [] kvs).length≤sizeLine:=by
  have h1:=qaB kvs []
  rw [List.length_nil] at h1
  rw [sizeLine_eq];omega
 have he:∃ q,h'.get? s.heap.objs.size=some q:=let ⟨q,_,_,hq,_⟩:=dd';⟨q,hq⟩
 exact qcL I2 (by rw [e];exact True.intro) hs he (qe3 hz hd (rk.merge .nil) dd')
structure M1 (X:Cx) (o:Expr) (m:Str) (apos:Pos) (e:Expr) (cpos:Pos):Prop where
 base:attributeBase o m X.env (eval o X.env)=eval o X.env
 few:((backTo cpos (starEach [e] X.env)).all (fun x=>!x.1)&&(backToKw cpos (keywordEach [] X.env)).all (fun x=>x.1.isSome)
  && decide (([e]:List Expr).length + ([]:List Keyword).length + (if ([]:List Keyword).isEmpty then 0 else 1) < 30))=true
 line:(apos.endLine==cpos.line)=true
 trees:backTo cpos (starEach [e] X.env)=[(false,eval e X.env)]
structure M2 (X:Cx) (o:Expr) (m:Str) (apos:Pos) (e f:Expr) (cpos:Pos):Prop where
 base:attributeBase o m X.env (eval o X.env)=eval o X.env
 few:((backTo cpos (starEach [e,f] X.env)).all (fun x=>!x.1)&&(backToKw cpos (keywordEach [] X.env)).all (fun x=>x.1.isSome)
  && decide (([e,f]:List Expr).length + ([]:List Keyword).length + (if ([]:List Keyword).isEmpty then 0 else 1) < 30))=true
 line:(apos.endLine==cpos.line)=true
 trees:backTo cpos (starEach [e,f] X.env)=[(false,eval e X.env),(false,eval f X.env)]
def IsD (H:Hp) (a:Addr):Prop:=(∃ kvs,Rd H a (.dK kvs))∨∃ kvs,Rd H a (.dT kvs)
section
variable {X:Cx} {pins:List (Addr×Obj)} {σ:St} {H:Hp} {s:Shared} {a:Addr} {y d:V} {u r:Value} {o:Option V} {A:Around} {E:Value→Shared→Prop}
end
def tDGet2 (td ty tx:TE):TE:=fun σ H Q=>td σ H fun x H1=>∃ a,x=.ref a∧IsD H1 a∧ty σ H1 fun y H2=>tx σ H2 fun z H3=>∃ o,DGet H3 a y o∧Q (o.getD z) H3
section
variable {X:Cx} {o e f:Expr} {apos cpos:Pos} {td ty tx:TE}
end
section
variable {X:Cx} {pins:List (Addr×Obj)} {σ:St} {H:Hp} {s:Shared} {a:Addr} {kvs:List (Key×V)} {A:Around} {E:Value→Shared→Prop}
end
section
variable {X:Cx} {pins:List (Addr×Obj)} {σ:St} {H:Hp} {s:Shared} {a:Addr} {y:V} {u:Value} {A:Around} {E:Value→Shared→Prop}
end
end L2
namespace Att
open PySem PySem.W PySem.Calls PyProof.Rows
theorem ints_of_wellAll {P:Params} {h:Heap}:∀ (ns:List Int) (vs:List Value),WellAll P h vs (ns.map WData.int)→IntsAre vs ns:=by
 intro ns
 induction ns with
 | nil =>
  intro vs w
  rw [List.map_nil] at w
  cases w
  exact .nil
 | cons n ns ih =>
  intro vs w
  rw [List.map_cons] at w
  cases w with
  | cons a b =>
   cases a
   exact .cons _ _ (ih _ b)
theorem script_of {l:OpenLaw} {n:Nat} (hn:l.most=some n) {P:Params} {h:Heap} {args:List WData} {vals:List Value}
  (hpre:l.row.toRowW.claim.pre args=true) (hwl:WellAll P h vals args) :
  ∃ a vs ns,vals=[Value.ref a]∧args=[WData.list (ns.map WData.int)]∧h.get? a=some { cls:=.type "list",data:=.seq vs.toArray }∧IntsAre vs ns∧ns.length≤n:=by
 have hsh:WShape.hasAll [] args [.list .int]=true:=(pre_splitW hpre).1
 have hc:l.pre.holds [] { args:=args }=true:=(pre_splitW hpre).2
 obtain ⟨d,r,rfl,h1,h2⟩:=hasAllW_cons hsh
 obtain rfl:=hasAllW_nil h2
 obtain ⟨xs,rfl,h3⟩:=hasW_list h1
 obtain ⟨ns,rfl⟩:=items_int h3
 have hlen:ns.length≤n:=by
  unfold OpenLaw.pre at hc
  have h4:(WTm.not (.lt (.lit (.int (n:Int))) (.len (.arg 0)))).holds [] { args:=[.list (ns.map .int)] }=true:=by
   have h4:=(holds_andW hc).1
   rw [hn] at h4
   exact h4
  have h5:=condW_of h4 (w_not (w_lt w_lit (w_len_list (w_arg rfl))))
  rw [List.length_map] at h5
  refine Nat.le_of_not_lt fun q=>?_
  have q':(n:Int) < ((ns.length:Nat):Int):=by omega
  first
   | (rw [decide_eq_true q'] at h5;exact absurd h5 (by decide))
   | (simp at h5;omega)
 cases hwl with
 | cons w1 w2 =>
  cases w2
  cases w1 with
  | list ho hall=>exact ⟨_,_,ns,rfl,rfl,ho,ints_of_wellAll ns _ hall,hlen⟩
theorem post_true (l:OpenLaw) (args:List WData):l.row.toRowW.claim.post args (.bool true) args=true:=
 postW_of (r:=l.row.toRowW) (X:=(true==true))
  (show WShape.has [] (.bool true) .bool=true by first | rfl | decide | simp [WShape.has,WShape.arms,WShape.armsAll])
  (show (WTm.eq .res (.lit (.bool true))).value [] { args:=args,res:=some (.bool true),after:=args }=some (.bool (true==true)) from w_eq_bool (w_res rfl) w_lit) rfl
theorem attach_call {l:OpenLaw} {n:Nat} {q:Program} {loose:List Str} {XP:(Str→Option Value)→Heap→Prop} {YP:World→Heap→Prop} {d:DefRec}
  (hn:l.most=some n) (hdf:d.params.defaults=[])
  (call:∀ (w:World) (s₀ s₁:Shared) (mg mb:Str→Option Value) (fa:Addr) (o:Obj) (pm cd doc:Value) (a:Addr) (vs:List Value) (ns:List Int),
   Ground q loose [] XP w s₀ mg mb s₁.heap→YP w s₁.heap →
   s₁.heap.get? fa=some o→o.data=.func (docDef d.name d.params d.body d.scope pm cd doc)→s₁.heap.CodeRec cd d.name→mg d.name=some (.ref fa) →
   s₁.heap.get? a=some { cls:=.type "list",data:=.seq vs.toArray }→IntsAre vs ns→ns.length≤n→s₁.gens=#[] →
   codeAny (model l.prog w) callerA (.call (.ref fa) ⟨[.ref a],[]⟩) (fun r s'=>r=.ok (.ret (.bool true))∧OldK s₁.heap s'.heap∧s'.os=s₁.os∧AllBare s'.gens) s₁) :
  WalkO q loose XP YP l.row.toRowW d [] (fun f vs=>PySem.call f vs):=by
 intro w s₀ s₁ mg mb G Y fa o pm cd doc dV kV ho hd hcd hD hmg hg args vals as hpre hlay hrd hwl hlo
 obtain rfl:dV=.none:=Dflts.none hD hdf
 obtain rfl:kV=.none:=Dflts.noKw hD
 obtain ⟨a,vs,ns,rfl,rfl,hobj,hints,hlen⟩:=script_of hn hpre hwl
 refine enter_call (codeAny_mono (call w s₀ s₁ mg mb fa o pm cd doc a vs ns G Y ho (fd_plain hd) hcd hmg hobj hints hlen hg) fun r s' hq=>?_)
 obtain ⟨rfl,h2,h3,h4⟩:=hq
 exact ⟨.inl ⟨.bool true,.bool true,[],rfl,fun _=>rfl,.bool true,post_true l _,fun _=>⟨List.Pairwise.nil,fun _ hm=>(nomatch hm)⟩⟩,h2,h3,h4⟩
section
variable {prog:Program} {w:World} {A:Around} {E:Value→Shared→Prop} {s:Shared} {K:Frag}
def ledger (h:Heap) (L d:Addr):List (Addr×Obj):=(List.range h.objs.size).filterMap fun a=>if a=L∨a=d then none else (h.get? a).map fun o=>(a,o)
end
end Att
namespace L2
open PySem PySem.Spec PyProof.Rows
theorem qcg:∀ {vs:List Value} {ns:List Int},IntsAre vs ns→Vals (ns.map V.int) vs
 | _,_,.nil=>.nil
 | _,_,.cons n t h=>.cons ⟨t,rfl⟩ (qcg h)
def qgY (H:Hp):Prop:=∀ b,H b=none∨∃ o xs,H b=some (.frz o (.lst xs))
theorem law_call {P:Program} {w:World} {K:PySem.W.Frag} {mg mb:Str→Option Value} {CX:CXT} {k:Nat} {fa a:Addr} {fd:FuncData} {x:Str} {sp:Sp} {s₁:Shared} {vs:List Value} {ns:List Int}
  (KX:K.In s₁.heap) (hns:s₁.heap.Ns mainGlobals mg) (hb:s₁.heap.Ns builtinsNs mb) (hbb:∀ x:Str,x≠"__name__"→mb x=bootBuiltins x) (hlim:s₁.heap.NoLimit) (hg:s₁.gens=#[])
  (ha:s₁.heap.get? a=some { cls:=.type "list",data:=.seq vs.toArray }) (hi:IntsAre vs ns) (hl:ns.length≤sizeLine) (hr:Room k callerA)
  (F:∀ base:Heap,K.In base→base.Ns mainGlobals mg→FnOk P w K mg base CX k fa fd [x] sp) (hbind:∀ (s:Shared) (u:Value),BindsTo s fd ⟨[u],[]⟩ [(x,u)])
  (hsp:∀ H:Hp,qgY H→SqL K H a (ns.map V.int)→sp [.ref a] H (fun v _=>v=.bl true) fun _ _ _=>False)
  (hCX:∀ H e s',CX [] H s₁ (fun _ _ _=>False) e s'→False) :
  codeAny (model P w) callerA (.call (.ref fa) ⟨[.ref a],[]⟩) (fun r s'=>r=.ok (.ret (.bool true))∧OldK s₁.heap s'.heap∧s'.os=s₁.os∧AllBare s'.gens) s₁:=by
 have rv:=qcg hi
 have lenV:=hi.length
 have core:∀ H:Hp,qgY H→SqL K H a (ns.map V.int)→HOk P w H s₁.heap→(∀ b,H b≠none→b=a)→(H a≠none→K.lookup a=none) →
   codeAny (model P w) callerA (.call (.ref fa) ⟨[.ref a],[]⟩) (fun r s'=>r=.ok (.ret (.bool true))∧OldK s₁.heap s'.heap∧s'.os=s₁.os∧AllBare s'.gens) s₁:=by
  intro H hO hS hok hA hK
  have base_of:∀ {b:Addr} {o:Obj},s₁.heap.get? b=some o→H b=none→(qeJ s₁.heap H).get? b=some o:=fun e n=>hidT_get e n
  have noA:∀ {b:Addr} {o:Obj} {es:Array DictEntry} {ep:Nat},s₁.heap.get? b=some o→o.data=.dict es ep→H b=none:=fun {b o es ep} e d=>by
   cases q:H b with
   | none=>rfl
   | some u =>
    have e':b=a:=hA b (by rw [q];simp)
    subst e'
    rw [ha] at e;cases e
    have d':Data.seq vs.toArray _=Data.dict es ep:=d
    cases d'
  have nsK:∀ {b:Addr} {m:Str→Option Value},s₁.heap.Ns b m→(qeJ s₁.heap H).Ns b m:=fun {b m} ⟨o,es,ep,e,d,r⟩=>⟨o,es,ep,base_of e (noA e d),d,r⟩
  have hKb:K.In (qeJ s₁.heap H):=fun b o e=>base_of (KX b o e) (by
   cases q:H b with
   | none=>rfl
   | some u =>
    have e':b=a:=hA b (by rw [q];simp)
    subst e'
    rw [hK (by rw [q];simp)] at e;cases e)
  have hM:Mod K mg (qeJ s₁.heap H):=⟨hKb,nsK hns,⟨mb,nsK hb,hbb⟩,let ⟨mc,h1,h2⟩:=hlim;⟨mc,nsK h1,h2⟩⟩
  have e0:Env0 P w K mg (qeJ s₁.heap H) callerA [] s₁ H:=⟨rfl,hM,fun b o e=>of_hidT e,Nat.le_of_eq (hidT_size _ _),trivial,fun b hb=>absurd (show b∈([]:List Addr) from hb) (by simp),hok,.of_eq hg⟩
  refine codeAny_mono ((F _ hKb (nsK hns)).run callerA [] s₁ H ⟨[.ref a],[]⟩ [.ref a] [.ref a] _ _ hr e0 (hbind s₁ (.ref a)) (.cons rfl .nil) (hsp H hO hS)) fun r s' h=>?_
  cases r with
  | error e=>exact (hCX H e s' h).elim
  | ok fl =>
   cases fl with
   | next=>exact False.elim h
   | brk=>exact False.elim h
   | cont=>exact False.elim h
   | ret u =>
    obtain ⟨v,H',os,bare,un,hok',r',q⟩:=h
    have q':v=.bl true:=q
    subst q'
    obtain rfl:u=Value.bool true:=r'
    refine ⟨rfl,OldK.of_keep fun b o e=>?_,os,bare⟩
    cases q:H b with
    | none=>exact un.keep b o e q (by intro z;exact absurd (show b∈([]:List Addr) from z) (by simp)) (by simp)
    | some u =>
     rcases hO b with z | ⟨ob,xs,z⟩
     ·rw [q] at z;cases z
     ·have z2:=un.frzs b ob _ z
      obtain ⟨e1,_⟩:=hok b _ z
      obtain ⟨e2,_⟩:=hok' b _ z2
      rw [e] at e1;cases e1
      exact e2
 cases hk:K.lookup a with
 | some o =>
  have e:=KX a o hk
  rw [ha] at e
  cases e
  refine core (fun _=>none) (fun _=>.inl rfl) (.inr ⟨_,vs.toArray,_,hk,rfl,rfl,rfl,by rw [List.size_toArray,lenV];exact hl,by simpa using rv⟩) (fun b u z=>by have z':(none:Option HO)=some u:=z;cases z') (fun b z=>absurd rfl z) fun z=>absurd rfl z
 | none =>
  refine core (fun b=>if b=a then some (.frz { cls:=.type "list",data:=.seq vs.toArray } (.lst (ns.map V.int))) else none) (fun b=>?_) (.inl (.inr ⟨{ cls:=.type "list",data:=.seq vs.toArray },if_pos rfl⟩)) (fun b u z=>?_) (fun b z=>?_) fun _=>hk
  ·by_cases hb:b=a
   ·exact .inr ⟨_,_,if_pos hb⟩
   ·exact .inl (if_neg hb)
  ·by_cases hb:b=a
   ·have z':=(if_pos hb).symm.trans z
    cases z'
    subst hb
    exact ⟨ha,by rw [List.length_map];exact hl,vs,_,rv,ha⟩
   ·have z':=(if_neg hb).symm.trans z
    cases z'
  ·by_cases hb:b=a
   ·exact hb
   ·exact absurd (if_neg hb) z
abbrev KOf {K:PySem.W.Frag} {h:Heap} (_:K.In h):PySem.W.Frag:=K
theorem walk_of {l:PySem.W.OpenLaw} {n k:Nat} {q:Program} {loose:List Str} {XP:(Str→Option Value)→Heap→Prop} {YP:World→Heap→Prop} {d:DefRec} {K:Params→PySem.W.Frag} {CX:World→CXT} {sp:World→Sp} {x:Str}
  (hn:l.most=some n) (hn2:n≤sizeLine) (hdf:d.params.defaults=[]) (hr:Room k callerA)
  (hY:∀ (w:World) (h:Heap),YP w h→(K w.params).In h)
  (F:∀ (w:World) (mg:Str→Option Value) (fa:Addr) (h:Heap),(K w.params).In h→h.Ns mainGlobals mg→mg d.name=some (.ref fa) →
   ∃ fd:FuncData,(∀ (s:Shared) (u:Value),BindsTo s fd ⟨[u],[]⟩ [(x,u)]) ∧
    ∀ base:Heap,(K w.params).In base→base.Ns mainGlobals mg→FnOk l.prog w (K w.params) mg base (CX w) k fa fd [x] (sp w))
  (hsp:∀ (w:World) (H:Hp) (a:Addr) (ns:List Int),ns.length≤n→qgY H→SqL (K w.params) H a (ns.map V.int)→sp w [.ref a] H (fun v _=>v=.bl true) fun _ _ _=>False)
  (hCX:∀ (w:World) (H:Hp) (s:Shared) (e:Value) (s':Shared),CX w [] H s (fun _ _ _=>False) e s'→False) :
  PySem.W.WalkO q loose XP YP l.row.toRowW d [] (fun f vs=>PySem.call f vs):=by
 refine Att.attach_call hn hdf fun w s₀ s₁ mg mb fa o pm cd doc a vs ns G Y ho hd hcd hmg hobj hints hlen hg=>?_
 have KX:=hY w _ Y
 obtain ⟨fd,hb,hF⟩:=F w mg fa _ KX G.T.g hmg
 exact law_call KX G.T.g G.T.b G.T.builtins G.T.nolimit hg hobj hints (Nat.le_trans hlen hn2) hr hF hb (fun H hO hS=>hsp w H a ns hlen hO hS) fun H e s'=>hCX w H s₁ e s'
abbrev CX0:CXT:=fun _ _ _ _ _ _=>False
abbrev E0:XK:=fun _ _ _=>False
theorem qE {X:Cx}:zR CX0 X E0:=fun _ _ _ _ _ _ _ h=>h.elim
structure Fun (K:PySem.W.Frag) (x qual:Str) (st:Stmt) (f:Addr) (fd:FuncData):Prop where
 ex:∃ (oc:Value) (od:Option Addr) (kV doc pm:Value) (an:Option Addr) (cdv ct:Value) (osl:Array (Option Value)),
  fd=PySem.W.fnOf x qual (qj st) (qi st) (qd st) .none kV doc pm an cdv ct∧K.lookup f=some ⟨oc,od,.func fd,osl⟩∧PySem.W.codeIn K cdv qual=true
 kp:PySem.W.keepIn K (.ref f)=true
section
variable {P:Program} {w:World} {K:PySem.W.Frag} {mg:Str→Option Value} {base:Heap}
theorem Fun.ok {x qual:Str} {st:Stmt} {f:Addr} {fd:FuncData} {N ps:List Str} {k:Nat} {sp:Sp} (F:Fun K x qual st f fd) (S:FnScope N ps (qd st)) (len:∀ vs H Q E,sp vs H Q E→vs.length=ps.length)
  (hbody:∀ (cdv:Value) (A:Around) (outer:List Env) (s:Shared) (H:Hp) (vs:List V) (Q:VK) (E:XK),Room k (A.deeper (envOfC qual (qd st) s.heap.objs.size f cdv))→sp vs H Q E →
   ∃ t,PSs (qb9 CX0 P w K mg base N qual (qd st) f cdv A outer s H E).nox (qi st) t∧t { nx:=fun _ H'=>Q .non H',rt:=Q } (jV N vs) H):FnOk P w K mg base CX0 (k + 1) f fd ps sp:=by
 obtain ⟨oc,od,kV,doc,pm,an,cdv,ct,osl,rfl,lk,hcd⟩:=F.ex
 refine qf3 lk hcd S len fun A outer s H vs Q E hr hsp=>?_
 obtain ⟨t,h,q⟩:=hbody cdv A outer s H vs Q E hr hsp
 exact ⟨t,h.nox,q⟩
theorem Fun.binds {x qual:Str} {st:Stmt} {f:Addr} {fd:FuncData} {ps:List Str} (F:Fun K x qual st f fd)
  (h:∀ (kV doc pm:Value) (an:Option Addr) (cdv ct:Value) (us:List Value),us.length=ps.length→bindArgs (PySem.W.fnOf x qual (qj st) (qi st) (qd st) .none kV doc pm an cdv ct) ⟨us,[]⟩=pure (ps.zip us)):Binds K fd ps []:=by
 obtain ⟨oc,od,kV,doc,pm,an,cdv,ct,osl,rfl,lk,hcd⟩:=F.ex
 exact .all (h kV doc pm an cdv ct)
theorem fun_mk {x qual:Str} {st:Stmt} {f:Addr} {oc:Value} {od an:Option Addr} {osl:Array (Option Value)} {kV doc pm cdv ct:Value} (l:K.lookup f=some ⟨oc,od,.func (PySem.W.fnOf x qual (qj st) (qi st) (qd st) .none kV doc pm an cdv ct),osl⟩)
  (c:PySem.W.codeIn K cdv qual=true) (k:PySem.W.keepIn K (.ref f)=true):Fun K x qual st f (PySem.W.fnOf x qual (qj st) (qi st) (qd st) .none kV doc pm an cdv ct):=⟨⟨oc,od,kV,doc,pm,an,cdv,ct,osl,rfl,l,c⟩,k⟩
end
theorem qq {n:Nat} (h:n≤1000):n < sizeLine:=Nat.lt_of_le_of_lt h (by decide)
section
variable {X:Cx}
theorem pv (i:Nat) {x:Str} {pos:Pos} (hN:X.N[i]?=some x:=by rfl) (hv:Vis X.env.scope x:=by first | exact Or.inl rfl | exact Or.inr (Or.inl rfl) | exact Or.inr (Or.inr rfl)) (hd:(x==("__debug__":Str))=false:=by decide)
  (hcd:(x==("__classdict__":Str))=false:=by decide):PE X (.Name x pos) (qfD i):=pe_var hN hv hd hcd
theorem call_lenD:zE X (.builtin "len") (fun xs H Q=>∃ a kvs,xs=[V.ref a]∧H a=some (.dK kvs)∧Q (.int kvs.length) H):=by
 intro pins s σ H xs us Q I r h
 obtain ⟨a,kvs,rfl,ha,q⟩:=h
 obtain ⟨u,rfl,ru⟩:=qbb r
 cases ru
 exact d_len I (.inl ha) fun t s' I'=>⟨.int kvs.length,H,I',⟨t,rfl⟩,q⟩
end
theorem qbH {A B:Prop} (h:A):if true=true then A else B:=by
 rw [if_pos rfl]
 exact h
theorem qY {c A B:Prop} [Decidable c] (h1:c→A) (h2:¬ c→B):if c then A else B:=by
 by_cases h:c
 ·rw [if_pos h]
  exact h1 h
 ·rw [if_neg h]
  exact h2 h
def Same (H H':Hp):Prop:=∀ b o,H b=some o→H' b=some o
theorem Same.refl (H:Hp):Same H H:=fun _ _ h=>h
theorem Same.trans {H H1 H2:Hp} (a:Same H H1) (b:Same H1 H2):Same H H2:=fun c o h=>b c o (a c o h)
theorem Same.free {H H':Hp} (e:Same H H') {l:Addr} (h:H' l=Option.none):H l=Option.none:=by
 cases q:H l with
 | none=>rfl
 | some o =>
  rw [e l o q] at h
  cases h
theorem Same.seq {K:PySem.W.Frag} {H H':Hp} {a:Addr} {xs:List V} (e:Same H H') (h:SqL K H a xs):SqL K H' a xs:=by
 rcases h with (h | ⟨o,h⟩) | h
 ·exact .inl (.inl (e _ _ h))
 ·exact .inl (.inr ⟨o,e _ _ h⟩)
 ·exact .inr h
section
variable {κ:Type} [DecidableEq κ]
end
end L2
set_option maxHeartbeats 4000000
namespace L2
open PySem PySem.Spec PyProof.Rows
section
variable {prog:Program} {w:World} {A:Around} {R:Result→Shared→Prop} {s:Shared}
theorem qaZ {elt target iter:Expr} {ifs:List Expr} {scope:Scope} {pos:Pos} {it acc:Value} {env:Env} (I:Nat→Shared→Prop)
  (turn:∀ n s,I n s→wpAny (model prog w) A (pyNext it) (fun r s1=>match r with
   | none=>R (.ok .next) s1
   | some v=>wpAny (model prog w) A (letOwnedTupleGo target it v) (fun _ s1'=>wpAny (model prog w) A (assign target env v) (fun _ s2 =>
     wpAny (model prog w) A (forIn ifs true fun c r=>if r=true then do let ok ← isTrue c env (eval c env);pure (ForInStep.yield ok) else pure (ForInStep.yield r)) (fun ok s3 =>
      if ok=true then wpAny (model prog w) A (eval elt env) (fun x s4 =>
       wpAny (model prog w) A (call (.builtin "list.append") [acc,x]) (fun _ s5=>∃ m,m < n∧I m s5) (fun _ _=>False) s4) (fun _ _=>False) s3
      else ∃ m,m < n∧I m s3) (fun _ _=>False) s2) (fun _ _=>False) s1') (fun _ _=>False) s1) (fun _ _=>False) s)
  (n:Nat) (h:I n s) :
  codeAny (model prog w) A (.compLoop (.ListComp elt [⟨target,iter,ifs,0⟩] scope pos) 0 it acc env) R s:=by
 refine codeAny_loop rfl I (fun n s hI=>?_) n h
 show wpAny _ A ((compTurn (.ListComp elt [⟨target,iter,ifs,0⟩] scope pos) 0 it acc env).onRaise (fun x=>do noteFrame x env;theTreesLotGoes x)) _ _ s
 refine wpAny_noted ?_
 rw [compTurn_list]
 refine wpAny_bind (wpAny_standAt (wpAny_bind (wpAny_mono (turn n s hI) (fun r s1 h1=>?_) fun _ _ h'=>h'.elim)))
 cases r with
 | none=>exact wpAny_pure h1
 | some v =>
  refine wpAny_bind (wpAny_mono h1 (fun _ s1' h1'=>?_) fun _ _ h'=>h'.elim)
  refine wpAny_bind (wpAny_mono h1' (fun _ s2 h2=>wpAny_bind (wpAny_mono h2 (fun ok s3 h3=>?_) fun _ _ h'=>h'.elim)) fun _ _ h'=>h'.elim)
  cases ok with
  | false=>exact wpAny_pure ⟨rfl,h3⟩
  | true =>
   exact wpAny_bind (wpAny_bind (wpAny_mono h3 (fun x s4 h4=>wpAny_bind (wpAny_mono h4 (fun _ s5 h5=>wpAny_pure (wpAny_pure ⟨rfl,h5⟩)) fun _ _ h'=>h'.elim)) fun _ _ h'=>h'.elim))
end
def qW (env:Env):List (Str×NameKind)→List (Str×Addr)→List (Str×Addr)
 | [],acc=>acc
 | (n,k)::r,acc=>qW env r (if (k==.free)=true then (n,(env.cells.lookup n).getD 0)::acc else acc)
theorem zf {env:Env}:∀ {names:List (Str×NameKind)} {acc:List (Str×Addr)} {x:Str} {c:Addr},(qW env names acc).lookup x=some c →
  ((x,NameKind.free)∈names∧c=(env.cells.lookup x).getD 0)∨acc.lookup x=some c
 | [],_,_,_,h=>.inr h
 | (n,k)::r,acc,x,c,h=>by
  unfold qW at h
  rcases zf h with ⟨h1,h2⟩ | h1
  ·exact .inl ⟨List.mem_cons_of_mem _ h1,h2⟩
  ·by_cases hk:(k==NameKind.free)=true
   ·rw [if_pos hk,List.lookup_cons] at h1
    cases hx:x==n with
    | true =>
     rw [hx] at h1
     have e:x=n:=beq_iff_eq.mp hx
     have e2:k=.free:=beq_iff_eq.mp hk
     subst e e2
     exact .inl ⟨List.mem_cons_self,(Option.some.inj h1).symm⟩
    | false =>
     rw [hx] at h1
     exact .inr h1
   ·rw [if_neg hk] at h1
    exact .inr h1
theorem qaC {env:Env}:∀ {names:List (Str×NameKind)} {acc:List (Str×Addr)} {x:Str},(∃ c,acc.lookup x=some c)→∃ c,(qW env names acc).lookup x=some c
 | [],_,_,h=>h
 | (n,k)::r,acc,x,h=>by
  unfold qW
  apply qaC
  by_cases hk:(k==NameKind.free)=true
  ·rw [if_pos hk,List.lookup_cons]
   cases hx:x==n with
   | true=>exact ⟨_,rfl⟩
   | false=>exact h
  ·rw [if_neg hk]
   exact h
theorem zL {env:Env}:∀ {names:List (Str×NameKind)} {acc:List (Str×Addr)} {x:Str},(x,NameKind.free)∈names→∃ c,(qW env names acc).lookup x=some c
 | [],_,_,h=>by cases h
 | (n,k)::r,acc,x,h=>by
  unfold qW
  rcases List.mem_cons.mp h with e | e
  ·cases e
   apply qaC
   rw [show (NameKind.free==NameKind.free)=true from rfl,if_pos rfl,List.lookup_cons,beq_self_eq_true]
   exact ⟨_,rfl⟩
  ·exact zL e
theorem qaD {scope:Scope} {env:Env} (h:∀ n,(n,NameKind.free)∈scope.names→∃ c,env.cells.lookup n=some c):closureFor scope env=pure (qW env scope.names []):=by
 have key:∀ (names:List (Str×NameKind)) (acc:List (Str×Addr)),(∀ n,(n,NameKind.free)∈names→∃ c,env.cells.lookup n=some c) →
   (forIn names acc (fun (x:Str×NameKind) (r:List (Str×Addr))=>(if (x.2==NameKind.free)=true then (cellOf env x.1>>=fun c=>pure (ForInStep.yield ((x.1,c)::r))) else pure (ForInStep.yield r):Sem (ForInStep (List (Str×Addr))))))=(pure (qW env names acc):Sem (List (Str×Addr))):=by
  intro names
  induction names with
  | nil=>intro acc _;rfl
  | cons x r ih =>
   intro acc hn
   obtain ⟨n,k⟩:=x
   rw [List.forIn_cons]
   unfold qW
   by_cases hk:(k==NameKind.free)=true
   ·have e2:k=.free:=beq_iff_eq.mp hk
    subst e2
    obtain ⟨c,hc⟩:=hn n List.mem_cons_self
    have e3:cellOf env n=pure c:=by unfold cellOf;rw [hc]
    simp only [hk,if_true,e3,hc,Option.getD_some]
    exact ih _ fun m hm=>hn m (List.mem_cons_of_mem _ hm)
   ·simp only [hk,if_false]
    exact ih _ fun m hm=>hn m (List.mem_cons_of_mem _ hm)
 have e:=key scope.names [] h
 unfold closureFor
 exact Eq.trans (congrArg (fun m=>m>>=pure) e) rfl
@[reducible] def Cx.comp (X:Cx) (N:List Str) (scope:Scope) (C:Addr) (s0:Shared) (H0:Hp) (ex:List Addr):Cx where
 prog:=X.prog
 w:=X.w
 K:=X.K
 mg:=X.mg
 base:=X.base
 A:=X.A
 N:=N
 s₀:=s0
 H₀:=H0
 env:=compEnvC scope (qW X.env scope.names []) C X.env
 outer:=X.stack
 stack:=X.stack
 ex:=ex
 fn:=fun _=>false
 calm:=X.calm
 pn:=[]
 xe:=fun _ _=>False
structure CompOk (sc scope:Scope):Prop where
 kind:scope.kind=.function
 nocell:∀ y∈scope.names,y.2≠.cell
 loc:∀ y∈scope.names,y.2=.local→scope.names.lookup y.1=some .local
 free:∀ y∈scope.names,y.2=.free→sc.names.lookup y.1=some .cell∨sc.names.lookup y.1=some .free
 once:∀ y∈scope.names,y.2=.free→scope.names.lookup y.1=some .free
def qeK (sc scope:Scope):Bool:=decide (scope.kind=.function)&&scope.names.all fun y=>match y.2 with
 | .local=>scope.names.lookup y.1==some .local
 | .free=>(sc.names.lookup y.1==some .cell||sc.names.lookup y.1==some .free)&&scope.names.lookup y.1==some .free
 | .cell=>false
 | _=>true
theorem qdi {sc scope:Scope} (h:qeK sc scope=true):CompOk sc scope:=by
 unfold qeK at h
 rw [Bool.and_eq_true] at h
 have ha:=List.all_eq_true.mp h.2
 refine ⟨of_decide_eq_true h.1,fun y hy e=>?_,fun y hy e=>?_,fun y hy e=>?_,fun y hy e=>?_⟩
 ·have:=ha y hy
  rw [e] at this
  cases this
 ·have:=ha y hy
  rw [e] at this
  exact beq_iff_eq.mp this
 ·have:=ha y hy
  rw [e,Bool.and_eq_true,Bool.or_eq_true] at this
  exact this.1.imp beq_iff_eq.mp beq_iff_eq.mp
 ·have:=ha y hy
  rw [e,Bool.and_eq_true] at this
  exact beq_iff_eq.mp this.2
def qgZ (nl:Nat) (ixs:List Nat) (N XN:List Str) (names:List (Str×NameKind)):Bool:=(List.range ixs.length).all fun k=>match ixs[k]?,N[nl + k]? with
 | some j,some x=>XN[j]?==some x&&names.any fun y=>y.1==x&&y.2==.free
 | _,_=>true
theorem qeb {nl:Nat} {ixs:List Nat} {N XN:List Str} {names:List (Str×NameKind)} (h:qgZ nl ixs N XN names=true) (k j:Nat) (x:Str) (h1:ixs[k]?=some j) (h2:N[nl + k]?=some x):XN[j]?=some x∧(x,NameKind.free)∈names:=by
 have hk:k < ixs.length:=(List.getElem?_eq_some_iff.mp h1).1
 have:=List.all_eq_true.mp h k (List.mem_range.mpr hk)
 rw [h1,h2] at this
 simp only [Bool.and_eq_true] at this
 refine ⟨beq_iff_eq.mp this.1,?_⟩
 obtain ⟨⟨n,kd⟩,hy,e⟩:=List.any_eq_true.mp this.2
 rw [Bool.and_eq_true] at e
 have e1:n=x:=beq_iff_eq.mp e.1
 have e2:kd=.free:=beq_iff_eq.mp e.2
 subst e1 e2
 exact hy
def qcD (nl:Nat) (ixs:List Nat) (σ:St):St:=List.replicate nl none++ixs.map fun j=>(σ[j]?).getD none
theorem capS_len (nl:Nat) (ixs:List Nat) (σ:St):(qcD nl ixs σ).length=nl + ixs.length:=by
 unfold qcD;rw [List.length_append,List.length_replicate,List.length_map]
theorem qbI {nl:Nat} {ixs:List Nat} {σ:St} {i:Nat} {v:V} (h:(qcD nl ixs σ)[i]?=some (some v)):nl≤i∧∃ j,ixs[i - nl]?=some j∧σ[j]?=some (some v):=by
 unfold qcD at h
 by_cases hi:i < nl
 ·rw [List.getElem?_append_left (by rw [List.length_replicate];exact hi),List.getElem?_replicate] at h
  split at h<;>cases h
 ·rw [List.getElem?_append_right (by rw [List.length_replicate];omega),List.length_replicate,List.getElem?_map] at h
  refine ⟨by omega,?_⟩
  cases e:ixs[i - nl]? with
  | none=>rw [e] at h;cases h
  | some j =>
   rw [e] at h
   have h':(σ[j]?).getD none=some v:=Option.some.inj h
   cases q:σ[j]? with
   | none=>rw [q] at h';cases h'
   | some u =>
    rw [q] at h'
    exact ⟨j,rfl,by rw [q];exact congrArg some h'⟩
def qeL (env:Env) (y:Str×NameKind):Str×NameKind:=if (y.2==NameKind.free&&env.scope.kind==.function&&env.kindOf y.1==some .cell)=true then (y.1,NameKind.cell) else (y.1,y.2)
theorem relF_fst (env:Env) (y:Str×NameKind):(qeL env y).1=y.1:=by unfold qeL;split<;>rfl
theorem relF_snd (env:Env) (y:Str×NameKind):(qeL env y).2=y.2∨((qeL env y).2=.cell∧y.2=.free):=by
 unfold qeL
 split
 ·rename_i h
  rw [Bool.and_eq_true,Bool.and_eq_true] at h
  exact .inr ⟨rfl,beq_iff_eq.mp h.1.1⟩
 ·exact .inl rfl
theorem zv {env:Env}:∀ {names:List (Str×NameKind)} {x:Str} {k:NameKind},(names.map (qeL env)).lookup x=some k→∃ k0,names.lookup x=some k0∧(x,k0)∈names∧(k=k0∨(k=.cell∧k0=.free))
 | [],_,_,h=>by cases h
 | (n,k1)::r,x,k,h=>by
  rw [List.map_cons,show qeL env (n,k1)=((qeL env (n,k1)).1,(qeL env (n,k1)).2) from rfl,List.lookup_cons,relF_fst] at h
  rw [List.lookup_cons]
  cases hx:x==n with
  | true =>
   have e:x=n:=beq_iff_eq.mp hx
   subst e
   have hx':(x==(x,k1).1)=true:=hx
   rw [hx'] at h
   have h':=Option.some.inj h
   refine ⟨k1,rfl,List.mem_cons_self,?_⟩
   rcases relF_snd env (x,k1) with z | ⟨z1,z2⟩
   ·exact .inl (h'.symm.trans z)
   ·exact .inr ⟨h'.symm.trans z1,z2⟩
  | false =>
   have hx':(x==(n,k1).1)=false:=hx
   rw [hx'] at h
   obtain ⟨k0,e1,e2,e3⟩:=zv h
   exact ⟨k0,e1,List.mem_cons_of_mem _ e2,e3⟩
section
variable {X:Cx} {pins:List (Addr×Obj)} {σ:St} {H:Hp} {s:Shared}
theorem comp_free_of {scope:Scope} {x:Str} (O:CompOk X.env.scope scope) {C:Addr} {cl:List (Str×Addr)} (h:(compEnvC scope cl C X.env).kindOf x=some .cell∨(compEnvC scope cl C X.env).kindOf x=some .free):(x,NameKind.free)∈scope.names:=by
 rcases h with h | h
 ·obtain ⟨k0,_,hm,e | ⟨_,e⟩⟩:=zv (env:=X.env) (names:=scope.names) h
  ·exact absurd e.symm (O.nocell _ hm)
  ·rw [e] at hm
   exact hm
 ·obtain ⟨k0,_,hm,e | ⟨e,_⟩⟩:=zv (env:=X.env) (names:=scope.names) h
  ·rw [← e] at hm
   exact hm
  ·cases e
theorem Inv.comp {N:List Str} {scope:Scope} {nl:Nat} {ixs:List Nat} {C D:Addr} {fp:List Addr} {ob:Obj} {h1:Heap} {tk:Nat} (I:Inv X pins σ H s) (O:CompOk X.env.scope scope)
  (hN:N.length=nl + ixs.length) (hcap:∀ (k j:Nat) (x:Str),ixs[k]?=some j→N[nl + k]?=some x→X.N[j]?=some x∧(x,NameKind.free)∈scope.names)
  (hf:∀ b∈fp,qbo X pins H b) (hfl:∀ b∈fp,b < s.heap.objs.size) (hC:s.heap.objs.size≤C) (hD:s.heap.objs.size≤D) (hDC:D≠C) (hns:h1.Ns C fun _=>none) (k:∀ b o,s.heap.get? b=some o→h1.get? b=some o)
  (hob:h1.get? D=some ob) (hcl:∀ v,ob.data≠.cell v):Inv (X.comp N scope C s H fp) [(D,ob)] (qcD nl ixs σ) H { s with heap:=h1,toks:=tk }:=by
 have cells:∀ x c,(qW X.env scope.names []).lookup x=some c→X.env.cells.lookup x=some c∧(x,NameKind.free)∈scope.names:=fun x c h=>by
  rcases zf h with ⟨h1,h2⟩ | h1
  ·obtain ⟨c',hc'⟩:=I.ok.has x (by
    rcases O.free _ h1 rfl with z | z
    ·exact .inl z
    ·exact .inr z)
   rw [hc'] at h2
   exact ⟨by rw [hc',h2];rfl,h1⟩
  ·cases h1
 refine ⟨⟨I.ok.mod,O.kind,I.ok.glob,I.ok.blt,hC,fun x y c h1 h2=>I.ok.inj x y c (cells x c h1).1 (cells y c h2).1,fun x hx=>zL (comp_free_of O hx),fun x c z _=>(by cases z),I.ok.hd,I.ok.frames,.inl rfl,
   fun b hb=>⟨Nat.ne_of_lt (Nat.lt_of_lt_of_le (hfl b hb) hC),fun x c e=>(hf b hb).2.2.2.2.1 x c (cells x c e).1⟩,I.bs,Nat.le_trans I.ok.bsz I.sz,fun b o e hb=>?_,fun b hb z=>?_,I.stack,I.stkFree⟩,
  rfl,I.bare,Un.kept k,⟨_,hns,fun i x v e1 e2 e3=>?_⟩,fun x c e=>?_,I.hok.fresh hC,fun x c e=>I.freeC x c (cells x c e).1,fun p hp=>?_,I.hok.kept k,?_⟩
 ·rcases (hf b hb).2.2.2.1 with z | z
  ·exact I.ok.noex b o e z
  ·have:=(I.ok.bs b o e).1
   exact absurd (Nat.lt_of_lt_of_le (Heap.lt_size this) z) (Nat.lt_irrefl _)
 ·rcases List.mem_cons.mp (I.stkSub b z) with e | e
  ·exact (hf b hb).2.1 e
  ·exact (hf b hb).2.2.1 e
 ·obtain ⟨hi,j,hj,hv⟩:=qbI e2
  obtain ⟨hx,hfr⟩:=hcap (i - nl) j x hj (by rw [Nat.add_sub_cancel' hi];exact e1)
  obtain ⟨m,hn,hl⟩:=I.loc
  have hk:=O.free _ hfr rfl
  obtain ⟨u,ru,lk⟩:=hl j x v hx hv (by
   rcases hk with z | z
   ·exact .inr (.inl z)
   ·exact .inr (.inr z))
  refine ⟨u,ru,?_⟩
  rcases lk with ⟨hk2,_⟩ | ⟨_,c,hc,hcell⟩
  ·have hk2':X.env.scope.names.lookup x=some .local:=hk2
   rcases hk with z | z<;>· rw [z] at hk2';cases hk2'
  ·obtain ⟨c',hc'⟩:=zL (env:=X.env) (acc:=[]) hfr
   have e:c'=c:=by
    have:=(cells x c' hc').1
    rw [hc] at this
    exact (Option.some.inj this).symm
   subst e
   refine .inr ⟨?_,c',hc',?_⟩
   ·rcases e3 with z | z | z
    ·obtain ⟨k0,z3,_,e | ⟨e,_⟩⟩:=zv (env:=X.env) (names:=scope.names) z
     ·rw [O.once _ hfr rfl] at z3
      cases z3
      cases e
     ·cases e
    ·exact .inl z
    ·exact .inr z
   ·obtain ⟨o,ho,hd⟩:=hcell
    exact ⟨o,k _ _ ho,hd⟩
 ·obtain ⟨v,o,ho,hd⟩:=I.cell x c (cells x c e).1
  exact ⟨v,o,k _ _ ho,hd⟩
 ·have e:p=(D,ob):=by simpa using hp
  subst e
  refine ⟨hob,I.hok.fresh hD,hDC,fun z=>?_,hcl⟩
  rcases List.mem_cons.mp (I.stkSub D z) with e | e
  ·exact absurd (show X.env.locals < D from Nat.lt_of_lt_of_le I.lt hD) (by rw [e];exact Nat.lt_irrefl _)
  ·exact I.nofs hD e
 ·show (qcD nl ixs σ).length=N.length
  rw [capS_len,hN]
theorem Inv.compBack {N:List Str} {scope:Scope} {C D:Addr} {fp:List Addr} {its:List Value} {n:Nat} {s':Shared} {H':Hp} {σ':St} {ys:List V} (I:Inv X pins σ H s) (hf:∀ b∈fp,qbo X pins H b) (hC:s.heap.objs.size≤C) (hD:s.heap.objs.size≤D)
  (J:Inv (X.comp N scope C s H fp) [(D,{ cls:=.type "list",data:=.seq its.toArray n })] σ' H' s') (hv:Vals ys its) (hz:ys.length≤sizeLine):Inv X pins σ (upd H' D (.lst ys)) s':=by
 obtain ⟨pD,nD,neD,_,_⟩:=J.pin (D,{ cls:=.type "list",data:=.seq its.toArray n }) (List.mem_append_right _ (List.mem_singleton.mpr rfl))
 have ltD:∀ b o,s.heap.get? b=some o→b≠D:=fun b o e=>Nat.ne_of_lt (Nat.lt_of_lt_of_le (Heap.lt_size e) hD)
 have J0:=J.base
 refine I.call' (ch:=fp) J.os ⟨J0.keep,J0.slot,fun b o e n hx=>?_,J0.there,fun b xs e=>?_,fun b o u e=>?_,fun b ps e=>?_⟩ (fun b u e=>?_) J.bare fun b hb=>⟨(hf b hb).2.2.2.1,(hf b hb).2.1,(hf b hb).2.2.2.2.1,(hf b hb).2.2.2.2.2⟩
 ·rw [qk (ltD b o e)]
  exact J0.free b o e n hx
 ·have q:=J0.tups b xs e
  rw [qk (qy q nD)]
  exact q
 ·have q:=J0.frzs b o u e
  rw [qk (qy q nD)]
  exact q
 ·obtain ⟨more,q⟩:=J0.tbls b ps e
  exact ⟨more,by rw [qk (qy q nD)];exact q⟩
 ·by_cases hb:b=D
  ·subst hb
   rw [qb] at e
   cases e
   exact ⟨hz,its,n,hv,pD⟩
  ·rw [qk hb] at e
   exact (J.hok b u e).stay (fun c v _ q=>q) (fun c q=>by rw [qk (qy q nD)];exact q) fun c xs q=>by rw [qk (qy q nD)];exact q
end
def qhh:TT:=fun _ H Q=>Q true H
def qfI (wi:TI) (g:TG) (tc:TT) (te:TE) (nl:Nat) (ixs:List Nat):TE:=fun σ H Q=>wi σ H fun J H1 =>
 ∃ W:Nat→Nat→List V→Hp→Prop,(∃ m,W 0 m [] H1)∧∀ i m ys H,W i m ys H →
  (J.stop i H∧ys.length≤sizeLine∧∀ p,H p=none→Q (.ref p) (upd H p (.lst ys))) ∨
  (J.go i H∧∃ M:List V→Hp→Prop,(∀ ys' H',M ys' H'→∃ m',m' < m∧W (i + 1) m' ys' H')∧∀ x H',J.yld i H x H'→g x (qcD nl ixs σ) H' fun σ2 H2=>tc σ2 H2 fun b H3 =>
   if b=true then te σ2 H3 fun v H4=>ys.length < sizeLine∧M (ys++[v]) H4 else M ys H3)
def qec (nl:Nat) (g:TG):Prop:=∀ x σ H Q,g x σ H Q→g x σ H fun σ2 H2=>Q σ2 H2∧σ2.length=σ.length∧∀ i,nl≤i→σ2[i]?=σ[i]?
theorem zC {nl i:Nat} (h:i < nl:=by decide):qec nl (qdY i):=fun x σ H Q q=>⟨q,List.length_set ..,fun j hj=>List.getElem?_set_ne (by omega)⟩
def qfV (X:Cx) (ifs:List Expr) (tc:TT):Prop:=
 ∀ (pins:List (Addr×Obj)) (s:Shared) (σ:St) (H:Hp) (Q:Bool→Hp→Prop),Inv X pins σ H s→tc σ H Q →
  wpAny (model X.prog X.w) X.A (forIn ifs true fun c r=>if r=true then do let ok ← isTrue c X.env (eval c X.env);pure (ForInStep.yield ok) else pure (ForInStep.yield r)) (TP X pins σ Q) X.xe s
theorem qaE {X:Cx}:qfV X [] qhh:=fun pins s σ H Q I h=>wpAny_tests_nil ⟨H,I,h⟩
theorem qaF {X:Cx} {c:Expr} {tc:TT} (h:PT X c tc):qfV X [c] tc:=fun pins s σ H Q I q=>wpAny_tests_one (h pins s σ H Q I q)
section
variable {X:Cx} {pins:List (Addr×Obj)} {σ:St} {H:Hp} {s:Shared}
theorem comp_block {N:List Str} {scope:Scope} {nl:Nat} {ixs:List Nat} {fp:List Addr} {it:Addr} {tn:Nat→Heap→Prop} {J:It} {tg elt iter:Expr} {ifs:List Expr} {pos:Pos} {g:TG} {tc:TT} {te:TE} {Q:V→Hp→Prop} {E:Value→Shared→Prop}
  {RR:Value→Addr→Result→Shared→Prop} (I:Inv X pins σ H s) (hc:X.calm=true) (O:CompOk X.env.scope scope)
  (hN:N.length=nl + ixs.length) (hcap:∀ (k j:Nat) (x:Str),ixs[k]?=some j→N[nl + k]?=some x→X.N[j]?=some x∧(x,NameKind.free)∈scope.names)
  (T:Turn X.prog X.w X.K tg J fp it tn) (st:tn 0 s.heap) (hf:∀ b∈fp,qbo X pins H b)
  (hg:∀ C s0 H0 ex,PG (X.comp N scope C s0 H0 ex) tg g) (gk:qec nl g) (hi:∀ C s0 H0 ex,qfV (X.comp N scope C s0 H0 ex) ifs tc) (he:∀ C s0 H0 ex,PE (X.comp N scope C s0 H0 ex) elt te)
  (h:∃ W:Nat→Nat→List V→Hp→Prop,(∃ m,W 0 m [] H)∧∀ i m ys H,W i m ys H →
   (J.stop i H∧ys.length≤sizeLine∧∀ p,H p=none→Q (.ref p) (upd H p (.lst ys))) ∨
   (J.go i H∧∃ M:List V→Hp→Prop,(∀ ys' H',M ys' H'→∃ m',m' < m∧W (i + 1) m' ys' H')∧∀ x H',J.yld i H x H'→g x (qcD nl ixs σ) H' fun σ2 H2=>tc σ2 H2 fun b H3 =>
    if b=true then te σ2 H3 fun v H4=>ys.length < sizeLine∧M (ys++[v]) H4 else M ys H3))
  (hRR:∀ (D C:Addr) (s':Shared) (H':Hp) (σ':St) (ys:List V) (its:List Value) (n:Nat),s.heap.objs.size≤C→s.heap.objs.size≤D→Inv (X.comp N scope C s H fp) [(D,{ cls:=.type "list",data:=.seq its.toArray n })] σ' H' s'→Vals ys its→ys.length≤sizeLine →
   (∀ p,H' p=none→Q (.ref p) (upd H' p (.lst ys)))→RR (.ref D) C (.ok .next) s') :
  wpAny (model X.prog X.w) X.A (newList []) (fun acc s3=>wpAny (model X.prog X.w) X.A (newFunctionEnv scope X.env.globals (qW X.env scope.names []) [] X.env.qual none .none (some X.env)) (fun cenv s4 =>
   codeAny (model X.prog X.w) X.A (.compStart (.ListComp elt [⟨tg,iter,ifs,0⟩] scope pos) 0 (.ref it) acc { cenv with scope:=relabel scope X.env }) (RR acc cenv.locals) s4) E s3) E s:=by
 obtain ⟨W,⟨m0,w0⟩,turn⟩:=h
 refine wpAny_newObj_type (wpAny_newFunctionEnv O.nocell (by intro y hy;simp at hy) (fun h1 hns1 hsb1=>?_) O.kind)
 dsimp only at hns1 hsb1 ⊢
 generalize hH2:s.heap.push { cls:=.type "list",dict:=none,data:=.seq ([]:List Value).toArray }=H2 at hns1 hsb1 ⊢
 have hC:H2.objs.size=s.heap.objs.size + 1:=by rw [← hH2,Heap.size_push]
 have hDC:s.heap.objs.size≠H2.objs.size:=by rw [hC];exact Nat.ne_of_lt (Nat.lt_succ_self _)
 have hCle:s.heap.objs.size≤H2.objs.size:=by rw [hC];exact Nat.le_succ _
 have below:∀ b,b < s.heap.objs.size→b≠H2.objs.size∧b≠s.heap.objs.size:=fun b hb=>⟨by rw [hC];exact Nat.ne_of_lt (Nat.lt_succ_of_lt hb),Nat.ne_of_lt hb⟩
 have old:∀ b o,s.heap.get? b=some o→h1.get? b=some o:=fun b o e=>hsb1.extBut b o (below b (Heap.lt_size e)).1 (Heap.get?_push_of_some _ (hH2 ▸ Heap.get?_push_of_some _ e))
 have hacc:h1.get? s.heap.objs.size=some { cls:=.type "list",data:=.seq ([]:List Value).toArray }:=hsb1.extBut _ _ hDC (Heap.get?_push_of_some _ (hH2 ▸ Heap.get?_push_size _ rfl))
 have hfl:∀ b∈fp,b < s.heap.objs.size:=fun b hb=>by
  obtain ⟨o,ho,_⟩:=T.obj 0 _ st b hb
  exact Heap.lt_size ho
 have loop:∀ s3:Shared,s3={ s with heap:=h1,toks:=s.toks + ([]:List (Str×Value)).length } →
   codeAny (model X.prog X.w) X.A (.compLoop (.ListComp elt [⟨tg,iter,ifs,0⟩] scope pos) 0 (.ref it) (.ref s.heap.objs.size) (compEnvC scope (qW X.env scope.names []) H2.objs.size X.env)) (RR (.ref s.heap.objs.size) H2.objs.size) s3:=by
  rintro s3 rfl
  have I0:=I.comp (N:=N) (C:=H2.objs.size) (D:=s.heap.objs.size) (h1:=h1) (tk:=s.toks + ([]:List (Str×Value)).length) O hN hcap hf hfl hCle (Nat.le_refl _) hDC hns1 old hacc (fun v z=>by cases z)
  have stat:∀ {H':Hp} {σ':St} {s':Shared} {pl:List (Addr×Obj)},Inv (X.comp N scope H2.objs.size s H fp) pl σ' H' s'→(∀ p∈pl,p.1=s.heap.objs.size)→(∀ b∈fp,H' b=none)→∀ b∈fp,qbo (X.comp N scope H2.objs.size s H fp) pl H' b:=fun {H' σ' s' pl} J hpl hn b hb =>
   ⟨hn b hb,(below b (hfl b hb)).1,fun z=>(by
     rcases List.mem_cons.mp (I.stkSub b z) with e | e
     ·exact (hf b hb).2.1 e
     ·exact (hf b hb).2.2.1 e),.inl hb,J.ok.exf b hb |>.2,fun p hp z=>by
    have e:=hpl p (by simpa using hp)
    rw [e] at z
    exact (below b (hfl b hb)).2 z.symm⟩
  refine qaZ (fun k s'=>∃ i H' ys its n,Inv (X.comp N scope H2.objs.size s H fp) [(s.heap.objs.size,{ cls:=.type "list",data:=.seq its.toArray n })] (qcD nl ixs σ) H' s'∧tn i s'.heap∧(∀ b∈fp,H' b=none)∧Vals ys its∧W i k ys H') ?_ m0
   ⟨0,H,[],[],0,I0,T.keep _ _ _ st fun b _ o e=>old b o e,fun b hb=>(hf b hb).1,.nil,w0⟩
  rintro k s' ⟨i,H',ys,its,n,J1,st1,fr1,v1,w1⟩
  have one:∀ p∈[((s.heap.objs.size,{ cls:=.type "list",data:=.seq its.toArray n }):Addr×Obj)],p.1=s.heap.objs.size:=fun p hp=>by
   have e:p=_:=List.mem_singleton.mp hp
   rw [e]
  rcases turn i k ys H' w1 with ⟨stop,hz,q⟩ | ⟨go,M,hM,step⟩
  ·refine thn (T.done (X.comp N scope H2.objs.size s H fp) rfl rfl rfl hc i _ s' _ H' _ J1 (stat J1 one fr1) st1 stop) fun r s4 ⟨hr,J4⟩=>?_
   subst hr
   exact hRR _ _ s4 H' _ ys its n hCle (Nat.le_refl _) J4 v1 hz q
  ·refine thn (T.item (X.comp N scope H2.objs.size s H fp) rfl rfl rfl hc i _ s' _ H' _ J1 (stat J1 one fr1) st1 go) fun r s4 ⟨u,hr,h4⟩=>?_
   subst hr
   refine thn h4 fun _ s5 ⟨x,H5,J5,r5,y5,st5,fr5⟩=>?_
   have J5':=J5.pinned (stat J5 one fr5) (T.obj _ _ st5)
   refine thn (hg _ _ _ _ _ s5 _ H5 x u _ J5' r5 (gk _ _ _ _ (step x H5 y5))) fun _ s6 ⟨σ6,H6,J6,q6,l6,k6⟩=>?_
   refine thn (hi _ _ _ _ _ s6 σ6 H6 _ J6 q6) fun ok s7 ⟨H7,J7,q7⟩=>?_
   have again:∀ {s8:Shared} {H8:Hp} {ys':List V} {k':Nat},Inv (X.comp N scope H2.objs.size s H fp) ([((s.heap.objs.size,{ cls:=.type "list",data:=.seq its.toArray n }):Addr×Obj)]++qba fp s5.heap) σ6 H8 s8 →
     (∀ b o,b≠s.heap.objs.size→s8.heap.get? b=some o→s8.heap.get? b=some o)→tn (i + 1) s8.heap∧∀ b∈fp,H8 b=none:=fun {s8 H8 ys' k'} J8 _=>by
    refine ⟨T.keep _ _ _ st5 fun b hb o e=>(J8.pin (b,o) (List.mem_append_right _ (List.mem_append_right _ (jI hb e)))).1,fun b hb=>?_⟩
    obtain ⟨o,e,d⟩:=T.obj _ _ st5 b hb
    exact (J8.pin (b,o) (List.mem_append_right _ (List.mem_append_right _ (jI hb e)))).2.1
   have wk:∀ (j:Nat) v,(qcD nl ixs σ)[j]?=some (some v)→σ6[j]?=some (some v):=fun j v e=>by
    obtain ⟨hj,_⟩:=qbI e
    rw [k6 j hj]
    exact e
   cases ok with
   | false =>
    rw [if_neg Bool.false_ne_true] at q7 ⊢
    obtain ⟨m',hm,w7⟩:=hM _ _ q7
    obtain ⟨st7,fr7⟩:=again (ys':=ys) (k':=0) J7 (fun _ _ _ e=>e)
    exact ⟨m',hm,i + 1,H7,ys,its,n,J7.unpinned.weak l6.symm wk,st7,fr7,v1,w7⟩
   | true =>
    rw [if_pos rfl] at q7 ⊢
    refine thn (he _ _ _ _ _ s7 σ6 H7 _ J7 q7) fun y s8 ⟨v,H8,J8,r8,hlt,mq⟩=>?_
    obtain ⟨m',hm,w8⟩:=hM _ _ mq
    obtain ⟨st8,fr8⟩:=again (ys':=ys) (k':=0) J8 (fun _ _ _ e=>e)
    have J9:=J8.unpinned
    obtain ⟨pD,nD,neD,nfD,_⟩:=J9.pin (s.heap.objs.size,{ cls:=.type "list",data:=.seq its.toArray n }) (List.mem_append_right _ (List.mem_singleton.mpr rfl))
    refine wpAny_list_append_plain (hsz:=by rw [List.size_toArray,← v1.length];omega) ⟨n,pD⟩ fun h9 hl9 hs9=>?_
    obtain ⟨n9,hl9⟩:=hl9
    have e9:(its.toArray.push y)=(its++[y]).toArray:=by simp
    rw [e9] at hl9
    have Ja:Inv (X.comp N scope H2.objs.size s H fp) [] (qcD nl ixs σ) H8 { s8 with heap:=h9,toks:=s8.toks }:=
     ((J9.pins_of (pins':=[]) fun p hp=>absurd hp (by simp)).turned (it:=s.heap.objs.size) (h':=h9) (t':=s8.toks) (fun b o hb e=>(hs9.2 b hb).trans e) nD neD (.inr (Nat.le_refl _))
      (fun x c e z=>by
       obtain ⟨c0,o0,h0,_⟩:=I0.cell x c e
       have:=zf e
       rcases this with ⟨hfr,hcc⟩ | hcc
       ·obtain ⟨c',hc'⟩:=I.ok.has x (by
         rcases O.free _ hfr rfl with q | q
         ·exact .inl q
         ·exact .inr q)
        rw [hc'] at hcc
        have hcc':c=c':=hcc
        obtain ⟨_,q⟩:=I.cell x c' hc'
        rw [← hcc',z] at q
        exact absurd q.lt (Nat.lt_irrefl _)
       ·cases hcc) (fun p hp=>absurd hp (by simp))).weak l6.symm wk
    refine ⟨m',hm,i + 1,H8,ys++[v],its++[y],n9,Ja.pins_of fun p hp=>?_,?_,fr8,v1.append (.cons r8 .nil),w8⟩
    ·have e:p=_:=List.mem_singleton.mp hp
     subst e
     exact ⟨hl9,nD,neD,nfD,fun v z=>by cases z⟩
    ·exact T.keep _ _ _ st8 fun b hb o e=>(hs9.2 b (below b (hfl b hb)).2).trans e
 exact codeAny_compStart_list (loop _ rfl) (T.self _ 0 _ _ _ (T.keep _ _ _ st fun b _ o e=>old b o e) (loop _ rfl))
end
section
variable {X:Cx} {tg elt iter:Expr} {ifs:List Expr} {scope:Scope} {pos:Pos} {N:List Str} {nl:Nat} {ixs:List Nat} {wi:TI} {g:TG} {tc:TT} {te:TE}
theorem qap {sc:Scope} {XN:List Str} (N:List Str) (nl:Nat) (ixs:List Nat) (hsc:X.env.scope=sc) (hXN:X.N=XN) (hc:X.calm=true) (O':qeK sc scope=true) (hN:N.length=nl + ixs.length) (hcap':qgZ nl ixs N XN scope.names=true)
  (hi:PI X tg iter wi) (hg:∀ C s0 H0 ex,PG (X.comp N scope C s0 H0 ex) tg g) (gk:qec nl g) (ht:∀ C s0 H0 ex,qfV (X.comp N scope C s0 H0 ex) ifs tc) (he:∀ C s0 H0 ex,PE (X.comp N scope C s0 H0 ex) elt te)
  (hs:∀ x,foldedSetIterable iter X.env x=pure x:=by intro _;rfl):PE X (.ListComp elt [⟨tg,iter,ifs,0⟩] scope pos) (qfI wi g tc te nl ixs):=by
 intro pins s σ H Q I h
 subst hsc hXN
 have O:=qdi O'
 have hcap:=qeb hcap'
 rw [eval_ListComp]
 have hcl:=qaD (scope:=scope) (env:=X.env) fun n hn=>I.ok.has n (by
  rcases O.free _ hn rfl with z | z
  ·exact .inl z
  ·exact .inr z)
 refine wpAny_comprehension_free (use:=none) rfl hs hcl O.kind O.loc (thn (hi pins s σ H _ I h) fun v s1 h1=>thn h1 fun itv s2 h2=>?_)
 obtain ⟨it,fp,tn,J,H2,e,I2,T,st2,f2,hW⟩:=h2
 subst e
 refine comp_block (Q:=Q) (RR:=fun acc C=>compPost (model X.prog X.w) X.A X.xe none (EP X pins σ Q) acc C) I2 hc O hN hcap T st2 f2 hg gk ht he hW ?_
 intro D C s' H' σ' ys its n hC hD J' hv hz q
 obtain ⟨m,hn,_⟩:=id J'.loc
 have B:=I2.compBack f2 hC hD J' hv hz
 obtain ⟨_,nD,neD,_,_⟩:=J'.pin (D,{ cls:=.type "list",data:=.seq its.toArray n }) (List.mem_append_right _ (List.mem_singleton.mpr rfl))
 refine ⟨m,hn,fun h' sb=>⟨.ref D,_,?_,rfl,q D nD⟩⟩
 refine B.turned (it:=C) (h':=h') (t':=s'.toks) (fun b o hb e=>(sb.2 b hb).trans e) ((qk (H:=H') (a:=D) (b:=C) (o:=.lst ys) (Ne.symm neD)).trans J'.free) (Nat.ne_of_gt (Nat.lt_of_lt_of_le I2.lt hC)) (.inr (Nat.le_trans I2.sz hC)) (fun x c e z=>?_) (fun p hp z=>?_)
 ·obtain ⟨_,q⟩:=I2.cell x c e
  exact absurd (Nat.lt_of_lt_of_le q.lt (by rw [z];exact hC)) (Nat.lt_irrefl _)
 ·exact absurd (Nat.lt_of_lt_of_le (Heap.lt_size (I2.pin p hp).1) (by rw [z];exact hC)) (Nat.lt_irrefl _)
end
def Its (x:Str):It:=⟨fun i _=>i < x.cps.size,fun i H v H'=>H'=H∧∃ c,x.cps[i]?=some c∧v=.str ⟨#[c]⟩,fun i _=>i=x.cps.size⟩
theorem qdj {P:Program} {w:World} {K:PySem.W.Frag} {tg:Expr} {it:Addr} {x:Str} {t:Tok} {T:String} (W:∀ A:Around,A.handled=none→Walks P w A it [it] [it] x.cps.size (SignAt x) fun i h=>h.IsStrIter it T x t i)
  (sf:∀ (A:Around) (i:Nat) (s:Shared) (Q:Value→Shared→Prop) (E:Value→Shared→Prop),s.heap.IsStrIter it T x t i→Q (.ref it) s→wpAny (model P w) A (pyIter (.ref it)) Q E s)
  (htg:∀ v,letOwnedTupleGo tg (.ref it) v=pure ()):Turn P w K tg (Its x) [it] it (fun i h=>h.IsStrIter it T x t i) where
 mem:=by simp
 obj:=fun i h st b hb=>by
  have e:b=it:=by simpa using hb
  subst e
  obtain ⟨o,e,c,d⟩:=st
  exact ⟨o,e,fun v z=>by rw [d] at z;cases z⟩
 keep:=fun i h h' st k=>by
  obtain ⟨o,e,r⟩:=st
  exact ⟨o,k it (by simp) o e,r⟩
 item:=by
  intro X hP hw hK hc i pins s σ H E I hf st hg
  subst hP hw hK
  obtain ⟨f0,f1,f2,f3,f4,f5⟩:=hf it (by simp)
  refine (W X.A (I.ok.hd hc)).item i s _ _ hg st fun v h' tk hv st' kk=>?_
  obtain ⟨c,u,hcx,rfl⟩:=hv
  have I1:Inv X pins σ H { s with heap:=h',toks:=tk }:=I.turned (fun b o hb e=>kk b o (by simpa using hb) e) f0 f1 f3 f4 f5
  refine ⟨_,rfl,wpAny_of_eq (htg _) ⟨.str ⟨#[c]⟩,H,I1,⟨u,rfl⟩,⟨rfl,c,hcx,rfl⟩,st',fun b hb=>(hf b hb).1⟩⟩
 done:=by
  intro X hP hw hK hc i pins s σ H E I hf st hg
  subst hP hw hK
  obtain ⟨f0,f1,f2,f3,f4,f5⟩:=hf it (by simp)
  have e:i=x.cps.size:=hg
  subst e
  exact (W X.A (I.ok.hd hc)).done s _ _ st fun h' tk kk=>⟨rfl,I.turned (fun b o hb e=>kk b o (by simpa using hb) e) f0 f1 f3 f4 f5⟩
 self:=sf
section
variable {X:Cx} {tg:Expr}
end
section
variable {K:PySem.W.Frag} {a:Addr} {xs:List V} {g:TG} {tc:TT} {te:TE} {σ':St} {H1:Hp} {Q:V→Hp→Prop}
def qeM (J:It) (g:TG) (tc:TT) (te:TE) (σ':St) (H1:Hp) (Q:V→Hp→Prop):Prop:=
 ∃ W:Nat→Nat→List V→Hp→Prop,(∃ m,W 0 m [] H1)∧∀ i m ys H,W i m ys H →
   (J.stop i H∧ys.length≤sizeLine∧∀ p,H p=none→Q (.ref p) (upd H p (.lst ys))) ∨
   (J.go i H∧∃ M:List V→Hp→Prop,(∀ ys' H',M ys' H'→∃ m',m' < m∧W (i + 1) m' ys' H')∧∀ x H',J.yld i H x H'→g x σ' H' fun σ2 H2=>tc σ2 H2 fun b H3 =>
    if b=true then te σ2 H3 fun v H4=>ys.length < sizeLine∧M (ys++[v]) H4 else M ys H3)
theorem zG (Pv:Nat→List V→Hp→Prop) (h0:Pv 0 [] H1) (hl:∀ i ys H,i≤xs.length→Pv i ys H→SqL K H a xs)
  (hs:∀ i x ys H,xs[i]?=some x→Pv i ys H→g x σ' H fun σ2 H2=>tc σ2 H2 fun b H3=>if b=true then te σ2 H3 fun v H4=>ys.length < sizeLine∧Pv (i + 1) (ys++[v]) H4 else Pv (i + 1) ys H3)
  (hd:∀ ys H,Pv xs.length ys H→ys.length≤sizeLine∧∀ p,H p=none→Q (.ref p) (upd H p (.lst ys))):qeM (Itl K a) g tc te σ' H1 Q:=by
 refine ⟨fun i m ys H=>m=xs.length - i∧i≤xs.length∧Pv i ys H,⟨xs.length,by simp,Nat.zero_le _,h0⟩,?_⟩
 rintro i m ys H ⟨rfl,hi,p⟩
 have q:=hl i ys H hi p
 by_cases hlt:i < xs.length
 ·refine .inr ⟨⟨xs,xs[i],q,by simp [hlt]⟩,Pv (i + 1),fun ys' H' p'=>⟨xs.length - (i + 1),by omega,rfl,hlt,p'⟩,fun x H' y=>?_⟩
  obtain ⟨e,y⟩:=y
  subst e
  exact hs i x ys _ (y xs q) p
 ·have e:i=xs.length:=by omega
  subst e
  exact .inl ⟨⟨xs,q,Nat.le_refl _⟩,hd ys H p⟩
theorem qbw {lo:Int} {n:Nat} (Pv:Nat→List V→Hp→Prop) (h0:Pv 0 [] H1)
  (hs:∀ i ys H,i < n→Pv i ys H→g (.int (lo + i)) σ' H fun σ2 H2=>tc σ2 H2 fun b H3=>if b=true then te σ2 H3 fun v H4=>ys.length < sizeLine∧Pv (i + 1) (ys++[v]) H4 else Pv (i + 1) ys H3)
  (hd:∀ ys H,Pv n ys H→ys.length≤sizeLine∧∀ p,H p=none→Q (.ref p) (upd H p (.lst ys))):qeM (Itr lo n) g tc te σ' H1 Q:=by
 refine ⟨fun i m ys H=>m=n - i∧i≤n∧Pv i ys H,⟨n,by simp,Nat.zero_le _,h0⟩,?_⟩
 rintro i m ys H ⟨rfl,hi,p⟩
 by_cases hlt:i < n
 ·refine .inr ⟨hlt,Pv (i + 1),fun ys' H' p'=>⟨n - (i + 1),by omega,rfl,hlt,p'⟩,fun x H' y=>?_⟩
  obtain ⟨e,y⟩:=y
  subst e y
  exact hs i ys _ hlt p
 ·have e:i=n:=by omega
  subst e
  exact .inl ⟨Nat.le_refl _,hd ys H p⟩
theorem qdk {x:Str} (Pv:Nat→List V→Hp→Prop) (h0:Pv 0 [] H1)
  (hs:∀ i c ys H,x.cps[i]?=some c→Pv i ys H→g (.str ⟨#[c]⟩) σ' H fun σ2 H2=>tc σ2 H2 fun b H3=>if b=true then te σ2 H3 fun v H4=>ys.length < sizeLine∧Pv (i + 1) (ys++[v]) H4 else Pv (i + 1) ys H3)
  (hd:∀ ys H,Pv x.cps.size ys H→ys.length≤sizeLine∧∀ p,H p=none→Q (.ref p) (upd H p (.lst ys))):qeM (Its x) g tc te σ' H1 Q:=by
 refine ⟨fun i m ys H=>m=x.cps.size - i∧i≤x.cps.size∧Pv i ys H,⟨x.cps.size,by simp,Nat.zero_le _,h0⟩,?_⟩
 rintro i m ys H ⟨rfl,hi,p⟩
 by_cases hlt:i < x.cps.size
 ·refine .inr ⟨hlt,Pv (i + 1),fun ys' H' p'=>⟨x.cps.size - (i + 1),by omega,rfl,hlt,p'⟩,fun v H' y=>?_⟩
  obtain ⟨e,c,hc,y⟩:=y
  subst e y
  exact hs i c ys _ hc p
 ·have e:i=x.cps.size:=by omega
  subst e
  exact .inl ⟨rfl,hd ys H p⟩
end
def qch:V→Option Value
 | .ty n=>some (.type n)
 | .ref a=>some (.ref a)
 | _=>none
theorem qbx {y:V} {c u:Value} (h:qch y=some c) (r:RelV y u):u=c:=by
 cases y with
 | ty n=>cases h;exact r
 | ref a=>cases h;exact r
 | _=>cases h
section
variable {X:Cx} {pins:List (Addr×Obj)} {σ:St} {H:Hp} {s:Shared}
theorem TyOf.kit {x:V} {u t:Value} (I:Inv X pins σ H s) (rx:RelV x u) (ty:TyOf X.K H x t):∃ P:Heap→Prop,PySem.W.KitX X.K u t P∧P s.heap∧u≠.builtin "__main__.__loader__#opaque":=by
 cases ty with
 | non=>cases (show u=Value.none from rx);exact ⟨_,PySem.W.kitx_none,True.intro,(fun z=>nomatch z)⟩
 | bl y=>cases (show u=Value.bool y from rx);exact ⟨_,PySem.W.kitx_bool,True.intro,(fun z=>nomatch z)⟩
 | int i=>obtain ⟨t,q⟩:=(show ∃ t,u=Value.int i t from rx);cases q;exact ⟨_,PySem.W.kitx_int,True.intro,(fun z=>nomatch z)⟩
 | str y=>obtain ⟨t,q⟩:=(show ∃ t,u=Value.str y t from rx);cases q;exact ⟨_,PySem.W.kitx_str,True.intro,(fun z=>nomatch z)⟩
 | flt y=>obtain ⟨t,q⟩:=(show ∃ t,u=Value.float y t from rx);cases q;exact ⟨_,PySem.W.kitx_float,True.intro,(fun z=>nomatch z)⟩
 | @lst a xs ea =>
  cases (show u=Value.ref a from rx)
  obtain ⟨_,_,n,_,h1⟩:=(show ObjOk X.prog X.w H s.heap a (.lst xs) from I.hok a _ ea)
  exact ⟨_,PySem.W.kitx_list,⟨_,h1,rfl⟩,(fun z=>nomatch z)⟩
 | @frz a ob xs ea =>
  cases (show u=Value.ref a from rx)
  obtain ⟨_,_,_,n,_,h1⟩:=(show ObjOk X.prog X.w H s.heap a (.frz ob (.lst xs)) from I.hok a _ ea)
  exact ⟨_,PySem.W.kitx_list,⟨_,h1,rfl⟩,(fun z=>nomatch z)⟩
 | @tup a xs ea =>
  cases (show u=Value.ref a from rx)
  obtain ⟨_,_,_,p⟩:=(show ObjOk X.prog X.w H s.heap a (.tup xs) from I.hok a _ ea)
  obtain ⟨o,h1,h2,_⟩:=p
  exact ⟨_,PySem.W.kitx_tuple,⟨o,h1,h2⟩,(fun z=>nomatch z)⟩
 | @dK a kvs ea =>
  cases (show u=Value.ref a from rx)
  obtain ⟨_,_,vs,_,p⟩:=(show ObjOk X.prog X.w H s.heap a (.dK kvs) from I.hok a _ ea)
  obtain ⟨o,es,ep,h1,h2,_⟩:=p
  exact ⟨_,PySem.W.kitx_dict,⟨o,h1,h2.1⟩,(fun z=>nomatch z)⟩
 | @dT a kvs ea =>
  cases (show u=Value.ref a from rx)
  obtain ⟨_,_,xs,_,o,es,ep,h1,h2,_⟩:=(show ObjOk X.prog X.w H s.heap a (.dT kvs) from I.hok a _ ea)
  exact ⟨_,PySem.W.kitx_dict,⟨o,h1,h2.1⟩,(fun z=>nomatch z)⟩
 | @ins a C dx fs ea cl ha hn htk hm =>
  cases (show u=Value.ref a from rx)
  obtain ⟨mA,O,_⟩:=qaQ I.hok ea
  obtain ⟨od,J,_⟩:=O.look
  exact ⟨_,PySem.W.kitx_own (cl.get _) cl.hd ha hn htk hm,J,(fun z=>nomatch z)⟩
end
section
variable {X:Cx}
theorem qbf:∀ {ys:List V} {cs us:List Value},ys.map qch=cs.map some→Vals ys us→us=cs
 | [],[],_,_,.nil=>rfl
 | [],_::_,_,h,_=>by cases h
 | y::ys,[],_,h,_=>by cases h
 | y::ys,c::cs,_,h,.cons r t=>by
  rw [List.map_cons,List.map_cons] at h
  injection h with h1 h2
  rw [qbx h1 r,qbf h2 t]
theorem qbJ:∀ {bs:List Bool} {us:List Value},Vals (bs.map V.bl) us→us=bs.map Value.bool
 | [],_,.nil=>rfl
 | b::bs,_,.cons r t=>by
  have e:=qbJ t
  rw [e]
  cases r
  rfl
def qgH (K:PySem.W.Frag):List V→Hp→VK→Prop:=fun xs H Q=>∃ (p:Addr) (bs:List Bool),xs=[.ref p]∧SqL K H p (bs.map V.bl)∧Q (.bl (bs.all id)) H
theorem call_all (hc:X.calm=true):zE X (.builtin "all") (qgH X.K):=by
 intro pins s σ H xs us Q I r h
 obtain ⟨p,bs,rfl,hp,q⟩:=h
 obtain ⟨u,rfl,ru⟩:=qbb r
 cases ru
 obtain ⟨its,rv,pl,hz⟩:=I.list hp
 have e:=qbJ rv
 subst e
 have hh:X.A.in1.handled=none:=I.ok.hd hc
 refine call_all_walk (wpAny_pyIter_list pl.isList ?_)
 have hne:p≠s.heap.objs.size:=by
  obtain ⟨o,ho,_⟩:=pl.isList
  exact Nat.ne_of_lt (Heap.lt_size ho)
 refine ⟨s.heap.objs.size,_,_,_,_,_,fun i=>(bs[i]?).getD false,rfl,Walks.list hh s.heap.objs.size p hne (bs.map Value.bool).toArray,⟨⟨_,Heap.get?_push_size _ rfl,rfl,rfl⟩,pl.isList.at fun o e=>Heap.get?_push_of_some _ e⟩,fun i v s Q E hv hq=>?_,fun h' tk hk=>?_⟩
 ·have hv':(bs.map Value.bool)[i]?=some v:=by simpa using hv
  rw [List.getElem?_map] at hv'
  cases e:bs[i]? with
  | none=>rw [e] at hv';cases hv'
  | some b =>
   rw [e] at hv'
   cases hv'
   have hq':Q ((bs[i]?).getD false) s:=hq
   rw [e] at hq'
   exact wpAny_pure hq'
 ·have e:((List.range (bs.map Value.bool).toArray.size).all fun i=>(bs[i]?).getD false)=bs.all id:=by
   rw [List.size_toArray,List.length_map]
   have key:∀ bs:List Bool,((List.range bs.length).all fun i=>(bs[i]?).getD false)=bs.all id:=by
    intro bs
    induction bs with
    | nil=>rfl
    | cons b r ih =>
     rw [List.length_cons,List.range_succ_eq_map,List.all_cons,List.all_map,List.all_cons,← ih]
     rfl
   exact key bs
  rw [e]
  refine ⟨.bl _,H,?_,rfl,q⟩
  have I1:Inv X pins σ H { s with heap:=s.heap.push { cls:=.type "list_iterator",data:=.fields #[.ref p,.int 0 0] } }:=I.kept (t':=s.toks) fun b o e=>Heap.get?_push_of_some _ e
  have nf:=I.fpOk (b:=s.heap.objs.size) (Nat.le_refl _) (I.hok.fresh (Nat.le_refl _))
  exact I1.turned (it:=s.heap.objs.size) (h':=h') (t':=tk) (fun b o hb e=>hk b o (by simpa using hb) e) nf.1 nf.2.1 nf.2.2.2.1 nf.2.2.2.2.1 nf.2.2.2.2.2
theorem op_le_str:OpR X (compareOp .LtE) (fun x y H Q=>∃ i j,x=.str i∧y=.str j∧Q (.bl (!decide (j.cps.toList < i.cps.toList))) H):=by
 intro pins s σ H x y v u Q I rx ry h
 obtain ⟨i,j,rfl,rfl,q⟩:=h
 obtain ⟨t,rfl⟩:=rx
 obtain ⟨t',rfl⟩:=ry
 exact PySem.P.le_str (qd2 I q (by rfl))
def qg0:R2:=fun x y H Q=>match x,y with
 | .int i,.int j=>Q (.bl (decide (i≤j))) H
 | .str i,.str j=>Q (.bl (!decide (j.cps.toList < i.cps.toList))) H
 | _,_=>False
theorem qe4:OpR X (compareOp .LtE) qg0:=by
 intro pins s σ H x y v u Q I rx ry h
 cases x with
 | int i=>cases y with
  | int j=>exact op_le pins s σ H _ _ v u Q I rx ry ⟨i,j,rfl,rfl,h⟩
  | _=>exact False.elim h
 | str i=>cases y with
  | str j=>exact op_le_str pins s σ H _ _ v u Q I rx ry ⟨i,j,rfl,rfl,h⟩
  | _=>exact False.elim h
 | _=>exact False.elim h
theorem op_is_bl:OpR X (compareOp .Is) (fun x y H Q=>∃ i j,x=.bl i∧y=.bl j∧Q (.bl (i==j)) H):=by
 intro pins s σ H x y v u Q I rx ry h
 obtain ⟨i,j,rfl,rfl,q⟩:=h
 cases rx
 cases ry
 exact wpAny_is_plain (by cases i<;>cases j<;>rfl) (qd2 I q (by cases i<;>cases j<;>rfl))
def qhi:R2:=fun x y H Q=>match x,y with
 | .bl i,.bl j=>Q (.bl (i==j)) H
 | x,.non=>Q (.bl (decide (x=.non))) H
 | _,_=>False
theorem qhj:OpR X (compareOp .Is) qhi:=by
 intro pins s σ H x y v u Q I rx ry h
 cases y with
 | non=>exact op_isN pins s σ H x _ v u Q I rx ry ⟨rfl,by cases x<;>exact h⟩
 | bl j=>cases x with
  | bl i=>exact op_is_bl pins s σ H _ _ v u Q I rx ry ⟨i,j,rfl,rfl,h⟩
  | _=>exact False.elim h
 | _=>cases x<;>exact False.elim h
theorem op_rep_str:OpR X (binaryOp .Mult) (fun x y H Q=>∃ z k,x=.str z∧y=.int k∧MulOk z k∧Q (.str (Txt.mul z k)) H):=by
 intro pins s σ H x y v u Q I rx ry h
 obtain ⟨z,k,rfl,rfl,hm,q⟩:=h
 obtain ⟨t,rfl⟩:=rx
 obtain ⟨t',rfl⟩:=ry
 exact SB.mul hm fun t' k'=>⟨.str _,H,I.tok _,⟨_,rfl⟩,q⟩
def qf7:R2:=fun x y H Q=>match x,y with
 | .int i,.int j=>CMul i j∧Q (.int (i * j)) H
 | .str z,.int k=>MulOk z k∧Q (.str (Txt.mul z k)) H
 | .ref a,.int k=>qhg (.ref a) (.int k) H Q
 | _,_=>False
theorem qci:OpR X (binaryOp .Mult) qf7:=by
 intro pins s σ H x y v u Q I rx ry h
 cases y with
 | int j=>cases x with
  | int i=>exact op_mul pins s σ H _ _ v u Q I rx ry ⟨i,j,rfl,rfl,h.1,h.2⟩
  | str i=>exact op_rep_str pins s σ H _ _ v u Q I rx ry ⟨i,j,rfl,rfl,h.1,h.2⟩
  | ref a=>exact op_rep pins s σ H _ _ v u Q I rx ry h
  | _=>exact False.elim h
 | _=>cases x<;>exact False.elim h
def qdO (K:PySem.W.Frag):R2:=fun x y H Q=>match x,y with
 | .int i,.int j=>Q (.int (i + j)) H
 | .str i,.str j=>i.length + j.length≤sizeLine∧Q (.str (i++j)) H
 | .ref a,.ref b=>qhf (.ref a) (.ref b) H Q∨qf5 K (.ref a) (.ref b) H Q
 | _,_=>False
theorem u_add:OpR X (binaryOp .Add) (qdO X.K):=by
 intro pins s σ H x y v u Q I rx ry h
 cases x with
 | int i=>cases y with
  | int j=>exact op_add pins s σ H _ _ v u Q I rx ry ⟨i,j,rfl,rfl,h⟩
  | _=>exact False.elim h
 | str i=>cases y with
  | str j=>exact op_add_str pins s σ H _ _ v u Q I rx ry ⟨i,j,rfl,rfl,h.1,h.2⟩
  | _=>exact False.elim h
 | ref a=>cases y with
  | ref b=>exact h.elim (fun h=>op_cat pins s σ H _ _ v u Q I rx ry h) fun h=>op_catT pins s σ H _ _ v u Q I rx ry h
  | _=>exact False.elim h
 | _=>exact False.elim h
def qcj (K:PySem.W.Frag):List V→Hp→VK→Prop:=fun xs H Q=>match xs with
 | [.str z]=>z.length≤sizeLine∧Q (.int z.length) H
 | [.ref p]=>(∃ ys,(SqL K H p ys∨SqT K H p ys)∧Q (.int ys.length) H)∨∃ kvs,H p=some (.dK kvs)∧Q (.int kvs.length) H
 | _=>False
theorem call_lenU:zE X (.builtin "len") (qcj X.K):=by
 intro pins s σ H xs us Q I r h
 match xs,h with
 | [.str z],h=>exact call_len_str pins s σ H _ us Q I r ⟨z,rfl,h.1,h.2⟩
 | [.ref p],.inl ⟨ys,h,q⟩=>exact call_len_seq pins s σ H _ us Q I r ⟨p,ys,rfl,h,q⟩
 | [.ref p],.inr ⟨kvs,h,q⟩=>exact call_lenD pins s σ H _ us Q I r ⟨p,kvs,rfl,h,q⟩
theorem sl_str:SlR X (fun x lo hi H Q=>∃ z,x=.str z∧z.length≤sizeLine∧Q (.str (Txt.slice z lo hi)) H):=by
 intro pins s σ H x v vl vu lo hi sl Q I rx hs pl pu h
 obtain ⟨z,rfl,hz,q⟩:=h
 obtain ⟨t,rfl⟩:=rx
 refine ⟨"str",_,F.slot_str_getitem.lookup,typeIs_str _ _ _,?_⟩
 cases pl with
 | none =>
  cases pu with
  | none=>exact wpAny_getItem_str_slice (l:=none) (u:=none) (st:=none) hs rfl (post_val_or_str ⟨Nat.le_trans (Txt.slice_le z _ _) hz,fun t' k=>⟨.str _,H,I.tok _,⟨_,rfl⟩,q⟩⟩)
  | int j uj=>exact wpAny_getItem_str_slice (l:=none) (u:=some (j,uj)) (st:=none) hs rfl (post_val_or_str ⟨Nat.le_trans (Txt.slice_le z _ _) hz,fun t' k=>⟨.str _,H,I.tok _,⟨_,rfl⟩,q⟩⟩)
 | int i ui =>
  cases pu with
  | none=>exact wpAny_getItem_str_slice (l:=some (i,ui)) (u:=none) (st:=none) hs rfl (post_val_or_str ⟨Nat.le_trans (Txt.slice_le z _ _) hz,fun t' k=>⟨.str _,H,I.tok _,⟨_,rfl⟩,q⟩⟩)
  | int j uj=>exact wpAny_getItem_str_slice (l:=some (i,ui)) (u:=some (j,uj)) (st:=none) hs rfl (post_val_or_str ⟨Nat.le_trans (Txt.slice_le z _ _) hz,fun t' k=>⟨.str _,H,I.tok _,⟨_,rfl⟩,q⟩⟩)
def qf8 (K:PySem.W.Frag):V→Option Int→Option Int→Hp→VK→Prop:=fun x lo hi H Q=>match x with
 | .str z=>z.length≤sizeLine∧Q (.str (Txt.slice z lo hi)) H
 | .ref a=>qhd K (.ref a) lo hi H Q∨qg9 K (.ref a) lo hi H Q
 | _=>False
theorem u_sl:SlR X (qf8 X.K):=by
 intro pins s σ H x v vl vu lo hi sl Q I rx hs pl pu h
 cases x with
 | str z=>exact sl_str pins s σ H _ v vl vu lo hi sl Q I rx hs pl pu ⟨z,rfl,h.1,h.2⟩
 | ref a=>exact h.elim (fun h=>sl_list pins s σ H _ v vl vu lo hi sl Q I rx hs pl pu h) fun h=>sl_tup pins s σ H _ v vl vu lo hi sl Q I rx hs pl pu h
 | _=>exact False.elim h
theorem qed:∀ {ys:List Str} {us:List Value},Vals (ys.map V.str) us→StrsAre us ys
 | [],_,.nil=>.nil
 | y::ys,_,.cons r t=>by
  obtain ⟨tk,rfl⟩:=r
  exact .cons y tk (qed t)
def qf9 (K:PySem.W.Frag):V→List V→Hp→VK→Prop:=fun x vs H Q=>∃ (z:Str) (p:Addr) (ys:List Str),x=.str z∧vs=[.ref p]∧SqL K H p (ys.map V.str)∧(ys.map (·.length)).sum + ys.length * z.length≤16777216∧Q (.str (Txt.join z ys)) H
theorem mt_join:MtR X "str.join" (qf9 X.K):=by
 intro pins s σ H x vs v us Q I rx rv h
 obtain ⟨z,p,ys,rfl,rfl,hp,hz,q⟩:=h
 obtain ⟨t,rfl⟩:=rx
 obtain ⟨u,rfl,ru⟩:=rv.one
 cases ru
 obtain ⟨its,r,pl,_⟩:=I.list hp
 exact join_list pl.isList (by simpa using qed r) hz fun t' k=>⟨.str _,H,I.tok _,⟨_,rfl⟩,q⟩
def qg1 (K:PySem.W.Frag) (te:TE):TI:=fun σ H R=>te σ H fun v H1=>match v with
 | .str x=>R (Its x) H1
 | .ref a=>((∃ xs,SqL K H1 a xs)∧R (Itl K a) H1)∨((∃ xs,SqT K H1 a xs)∧R (Itt K a) H1)
 | _=>False
theorem pi_any {tg e:Expr} {te:TE} (he:PE X e te) (htg:∀ it v,letOwnedTupleGo tg it v=pure ():=by intro _ _;rfl):PI X tg e (qg1 X.K te):=by
 intro pins s σ H R I h
 refine thn (he pins s σ H _ I h) fun v s1 ⟨y,H1,I1,r1,q1⟩=>?_
 cases y with
 | str x =>
  obtain ⟨t,rfl⟩:=r1
  have fp:∀ b∈[s1.heap.objs.size],qbo X pins H1 b:=fun b hb=>by
   have e:b=s1.heap.objs.size:=by simpa using hb
   subst e
   exact I1.fpOk (Nat.le_refl _) (I1.hok.fresh (Nat.le_refl _))
  cases ha:x.cps.all (· < 128)
  ·exact wpAny_pyIter_wide ha ⟨s1.heap.objs.size,[s1.heap.objs.size],_,_,H1,rfl,I1.kept (t':=s1.toks) fun b o e=>Heap.get?_push_of_some _ e,
    qdj (T:="str_iterator") (fun A hA=>Walks.strWide hA _ x t) (fun A i s Q E st h=>wpAny_pyIter_striter_wide st h) (htg _),⟨_,Heap.get?_push_size _ rfl,rfl,rfl⟩,fp,q1⟩
  ·exact wpAny_pyIter_ascii ha ⟨s1.heap.objs.size,[s1.heap.objs.size],_,_,H1,rfl,I1.kept (t':=s1.toks) fun b o e=>Heap.get?_push_of_some _ e,
    qdj (T:="str_ascii_iterator") (fun A hA=>Walks.strAscii hA _ x t) (fun A i s Q E st h=>wpAny_pyIter_striter_ascii st h) (htg _),⟨_,Heap.get?_push_size _ rfl,rfl,rfl⟩,fp,q1⟩
 | ref a =>
  cases r1
  have fp:∀ b∈[s1.heap.objs.size],qbo X pins H1 b:=fun b hb=>by
   have e:b=s1.heap.objs.size:=by simpa using hb
   subst e
   exact I1.fpOk (Nat.le_refl _) (I1.hok.fresh (Nat.le_refl _))
  rcases q1 with ⟨⟨xs,hq⟩,q⟩ | ⟨⟨xs,hq⟩,q⟩
  ·obtain ⟨its,rv,p,hz⟩:=I1.list hq
   exact wpAny_pyIter_list p.isList ⟨s1.heap.objs.size,[s1.heap.objs.size],_,_,H1,rfl,I1.kept (t':=s1.toks) fun b o e=>Heap.get?_push_of_some _ e,turn_list a _,⟨_,Heap.get?_push_size _ rfl,rfl,rfl⟩,fp,q⟩
  ·obtain ⟨its,rv,p,hz⟩:=I1.tuple hq
   exact wpAny_pyIter_tuple (show s1.heap.IsTuple a its.toArray from p) ⟨s1.heap.objs.size,[s1.heap.objs.size],_,_,H1,rfl,I1.kept (t':=s1.toks) fun b o e=>Heap.get?_push_of_some _ e,turn_tuple a _,⟨_,Heap.get?_push_size _ rfl,rfl,rfl⟩,fp,q⟩
 | _=>exact False.elim q1
end
section
variable {D:Ends} {σ:St} {H:Hp} {Q:VK} {QT:Bool→Hp→Prop} {QA:List V→Hp→Prop} {t u:TS} {te ta tb tc:TE} {c c':TT} {tr tas:TA} {r r':R2} {K:PySem.W.Frag}
theorem vSeq (h:t { D with nx:=u D } σ H):qgF t u D σ H:=h
theorem vAsg {i:Nat} (h:te σ H fun x H1=>D.nx (σ.set i (some x)) H1):qfU te (qdY i) D σ H:=h
theorem vAsgS {to ti:TE} {s:qf0} (h:te σ H fun x H1=>to σ H1 fun o H2=>ti σ H2 fun i H3=>s o i x H3 fun H4=>D.nx σ H4):qfU te (qg6 to ti s) D σ H:=h
theorem vIfS (h:c σ H fun b H1=>if b=true then t D σ H1 else u D σ H1):qgQ c t u D σ H:=h
theorem vRet (h:te σ H D.rt):qgP te D σ H:=h
theorem vRetN (h:D.rt .non H):tRetN D σ H:=h
theorem vDrop (h:te σ H fun _ H1=>D.nx σ H1):qfZ te D σ H:=h
theorem vNext (h:D.nx σ H):qfE D σ H:=h
theorem vC {v:V} (h:Q v H):tC v σ H Q:=h
theorem vVar {i:Nat} {v:V} (e:σ[i]?=some (some v)) (h:Q v H):qfD i σ H Q:=⟨v,e,h⟩
theorem vOp (h:ta σ H fun x H1=>tb σ H1 fun y H2=>r x y H2 Q):tOp r ta tb σ H Q:=h
theorem vUn {f:V→Hp→VK→Prop} (h:ta σ H fun x H1=>f x H1 Q):tUn f ta σ H Q:=h
theorem vChain (h:ta σ H fun x H1=>tb σ H1 fun y H2=>r x y H2 fun z H3=>∃ k,z=.bl k∧if k=true then tc σ H3 fun z2 H4=>r' y z2 H4 Q else Q (.bl false) H3):qd4 r r' ta tb tc σ H Q:=h
theorem vNil (h:QA [] H):qdX σ H QA:=h
theorem vCons (h:ta σ H fun x H1=>tr σ H1 fun xs H2=>QA (x::xs) H2):qdL ta tr σ H QA:=h
theorem vCB {f:List V→Hp→VK→Prop} (h:tas σ H fun vs H1=>f vs H1 Q):tCB f tas σ H Q:=h
theorem vCall {sp:Sp} {E:XK} (h:tas σ H fun vs H1=>sp (vs++[]) H1 Q E):qcG sp [] E tas σ H Q:=h
theorem vLst (h:tas σ H fun xs H1=>xs.length≤sizeLine∧∀ p,H1 p=none→Q (.ref p) (upd H1 p (.lst xs))):qgW tas σ H Q:=h
theorem vTup (h:tas σ H fun xs H1=>xs.length≤sizeLine∧∀ p,H1 p=none→Q (.ref p) (upd H1 p (.tup xs))):qg8 tas σ H Q:=h
theorem vTest (h:te σ H fun x H'=>∃ k,x=.bl k∧QT k H'):qd3 te σ H QT:=h
theorem vB (h:te σ H fun x H'=>∃ k,x=.bl k∧QT k H'):tB te σ H QT:=h
theorem vNot (h:c σ H fun b H1=>QT (!b) H1):qg4 c σ H QT:=h
theorem vAnd (h:c σ H fun b H1=>if b=true then c' σ H1 QT else QT false H1):qgO c c' σ H QT:=h
theorem vOr (h:c σ H fun b H1=>if b=true then QT true H1 else c' σ H1 QT):tOr c c' σ H QT:=h
theorem vAndV (h:ta σ H fun x H1=>∃ k,x=.bl k∧if k=true then tb σ H1 Q else Q (.bl false) H1):qfY ta tb σ H Q:=h
theorem vOrV (h:ta σ H fun x H1=>∃ k,x=.bl k∧if k=true then Q (.bl true) H1 else tb σ H1 Q):qg5 ta tb σ H Q:=h
theorem vNotV (h:ta σ H fun x H1=>∃ k,x=.bl k∧Q (.bl (!k)) H1):tNotV ta σ H Q:=h
theorem vIf (h:c σ H fun b H1=>if b=true then ta σ H1 Q else tb σ H1 Q):tIf c ta tb σ H Q:=h
theorem vYes (h:QT true H):qhh σ H QT:=h
theorem vI0 {g:Int→Int→V} {i j:Int} (h:Q (g i j) H):rI0 g (.int i) (.int j) H Q:=⟨i,j,rfl,rfl,h⟩
theorem vI {C:Int→Int→Prop} {g:Int→Int→V} {i j:Int} (hc:C i j) (h:Q (g i j) H):rI C g (.int i) (.int j) H Q:=⟨i,j,rfl,rfl,hc,h⟩
theorem vU {g:Int→V} {i:Int} (h:Q (g i) H):rU g (.int i) H Q:=⟨i,rfl,h⟩
theorem vEqI {i j:Int} (h:Q (.bl (decide (i=j))) H):rEq (.int i) (.int j) H Q:=⟨rfl,by
 have e:decide (V.int i=V.int j)=decide (i=j):=by
  by_cases h:i=j
  ·subst h;simp
  ·rw [decide_eq_false h,decide_eq_false (fun e=>h (V.int.inj e))]
 rw [e];exact h⟩
theorem vEqB {i j:Bool} (h:Q (.bl (i==j)) H):rEq (.bl i) (.bl j) H Q:=⟨rfl,by rw [dec_bl];exact h⟩
theorem zT {p:Addr} {xs:List V} {i:Int} {v:V} (hp:H p=some (.lst xs)) (ha:atI xs i=some v) (h:Q v H):rIx K (.ref p) (.int i) H Q:=.inl ⟨p,xs,i,v,rfl,rfl,SqL.of hp,ha,h⟩
theorem vIxLs {p:Addr} {xs:List V} {i:Int} {v:V} (hp:SqL K H p xs) (ha:atI xs i=some v) (h:Q v H):rIx K (.ref p) (.int i) H Q:=.inl ⟨p,xs,i,v,rfl,rfl,hp,ha,h⟩
theorem qfJ {p:Addr} {xs:List V} {i:Int} {v:V} (hp:H p=some (.tup xs)) (ha:atI xs i=some v) (h:Q v H):rIx K (.ref p) (.int i) H Q:=.inr (.inl ⟨p,xs,i,v,rfl,rfl,SqT.of hp,ha,h⟩)
theorem vIxS {z:Str} {i:Int} {ch:Nat} (hz:z.length≤sizeLine) (ha:atI z.cps.toList i=some ch) (h:Q (.str ⟨#[ch]⟩) H):rIx K (.str z) (.int i) H Q:=.inr (.inr ⟨z,i,ch,rfl,rfl,hz,ha,h⟩)
theorem qga {p:Addr} {xs:List V} {k:Int} {v:V} {j:Nat} {QH:Hp→Prop} (hp:H p=some (.lst xs)) (hj:ixN xs.length k=some j) (h:QH (upd H p (.lst (xs.set j v)))):qfG (.ref p) (.int k) v H QH:=⟨p,xs,k,j,rfl,rfl,hp,hj,h⟩
theorem vEx {k:Bool} {P:Bool→Prop} (h:P k):∃ k',V.bl k=.bl k'∧P k':=⟨k,rfl,h⟩
theorem vLeI {i j:Int} (h:Q (.bl (decide (i≤j))) H):qg0 (.int i) (.int j) H Q:=h
theorem vLeS {i j:Str} (h:Q (.bl (!decide (j.cps.toList < i.cps.toList))) H):qg0 (.str i) (.str j) H Q:=h
theorem vIsB {i j:Bool} (h:Q (.bl (i==j)) H):qhi (.bl i) (.bl j) H Q:=h
theorem vAddI {i j:Int} (h:Q (.int (i + j)) H):qdO K (.int i) (.int j) H Q:=h
theorem qgb {i j:Str} (hz:i.length + j.length≤sizeLine) (h:Q (.str (i++j)) H):qdO K (.str i) (.str j) H Q:=⟨hz,h⟩
theorem qee {i j:Int} (hc:CMul i j) (h:Q (.int (i * j)) H):qf7 (.int i) (.int j) H Q:=⟨hc,h⟩
theorem qgc {z:Str} (hz:z.length≤sizeLine) (h:Q (.int z.length) H):qcj K [.str z] H Q:=⟨hz,h⟩
theorem qaq {p:Addr} {ys:List V} (hp:H p=some (.lst ys)) (h:Q (.int ys.length) H):qcj K [.ref p] H Q:=.inl ⟨ys,.inl (SqL.of hp),h⟩
theorem qef {p:Addr} {ys:List V} (hp:SqL K H p ys) (h:Q (.int ys.length) H):qcj K [.ref p] H Q:=.inl ⟨ys,.inl hp,h⟩
theorem qfK {p:Addr} {ys:List V} (hp:H p=some (.tup ys)) (h:Q (.int ys.length) H):qcj K [.ref p] H Q:=.inl ⟨ys,.inr (SqT.of hp),h⟩
theorem qhk {z:Str} {lo hi:Option Int} (hz:z.length≤sizeLine) (h:Q (.str (Txt.slice z lo hi)) H):qf8 K (.str z) lo hi H Q:=⟨hz,h⟩
theorem vSl {f:V→Option Int→Option Int→Hp→VK→Prop} {tl th:TO} (h:te σ H fun x H1=>tl σ H1 fun l H2=>th σ H2 fun u H3=>f x l u H3 Q):tSl f te tl th σ H Q:=h
theorem vNoPart {QO:Option Int→Hp→Prop} (h:QO none H):qd7 σ H QO:=h
theorem vPart {QO:Option Int→Hp→Prop} (h:te σ H fun x H1=>∃ i,x=.int i∧QO (some i) H1):qf4 te σ H QO:=h
theorem vExI {i:Int} {P:Int→Prop} (h:P i):∃ j,V.int i=.int j∧P j:=⟨i,rfl,h⟩
theorem vBM {T:String} {f:V→List V→Hp→VK→Prop} (h:te σ H fun x H1=>tyV K T x H1∧tas σ H1 fun xs H2=>f x xs H2 Q):tBM K T f te tas σ H Q:=h
theorem vBM0 {T:String} {f:V→List V→Hp→VK→Prop} (h:te σ H fun x H1=>tyV K T x H1∧f x [] H1 Q):qgX K T f te σ H Q:=h
theorem vComp {wi:TI} {g:TG} {nl:Nat} {ixs:List Nat} (h:wi σ H fun J H1=>qeM J g c te (qcD nl ixs σ) H1 Q):qfI wi g c te nl ixs σ H Q:=h
theorem vFor {wi:TI} {g:TG} (h:wi σ H fun J H1=>∃ W:Nat→Nat→St→Hp→Prop,(∃ m,W 0 m σ H1)∧∀ i m σ H,W i m σ H →
 (J.stop i H∧D.nx σ H)∨(J.go i H∧∃ N:St→Hp→Prop,(∀ σ' H',N σ' H'→∃ m',m' < m∧W (i + 1) m' σ' H')∧∀ x H',J.yld i H x H'→g x σ H' fun σ2 H2=>t { D with nx:=N,ct:=N,bk:=D.nx } σ2 H2)):qgT wi g t D σ H:=h
theorem vRng1 {R:It→Hp→Prop} (h:tas σ H fun vs H1=>∃ j:Int,vs=[.int j]∧-(2 ^ 62)≤j∧j < 2 ^ 62∧R (Itr 0 j.toNat) H1):qf1 tas σ H R:=h
theorem vAny {R:It→Hp→Prop} (h:te σ H fun v H1=>match v with
 | .str x=>R (Its x) H1
 | .ref a=>((∃ xs,SqL K H1 a xs)∧R (Itl K a) H1)∨((∃ xs,SqT K H1 a xs)∧R (Itt K a) H1)
 | _=>False):qg1 K te σ H R:=h
theorem vGN {i:Nat} {v:V} {QS:St→Hp→Prop} (h:QS (σ.set i (some v)) H):qdY i v σ H QS:=h
theorem qe5 {α:Type} {xs:List α} {i:Int} (h0:0≤i) (h1:i < xs.length):∃ v,atI xs i=some v∧xs[i.toNat]?=some v:=by
 obtain ⟨n,rfl⟩:=Int.eq_ofNat_of_zero_le h0
 have hn:n < xs.length:=by omega
 exact ⟨xs[n],qJ (by simp [hn]),by simp [hn]⟩
end
section
variable {X:Cx} {K:PySem.W.Frag} {o e:Expr} {es:List Expr} {to ta:TE} {t:TA} {name f:Str} {apos cpos pos:Pos} {T id:String} {r:V→List V→Hp→VK→Prop} {tg:Expr}
theorem jW (hK:X.K=K):zE X (.builtin "len") (qcj K):=by subst hK;exact call_lenU
theorem k_all (hK:X.K=K) (hc:X.calm=true):zE X (.builtin "all") (qgH K):=by subst hK;exact call_all hc
theorem qaR (hK:X.K=K):SlR X (qf8 K):=by subst hK;exact u_sl
theorem jk (hK:X.K=K):OpR X (binaryOp .Add) (qdO K):=by subst hK;exact u_add
theorem qeg (hK:X.K=K):MtR X "str.join" (qf9 K):=by subst hK;exact mt_join
theorem j9 (hK:X.K=K) (he:PE X e ta) (htg:∀ it v,letOwnedTupleGo tg it v=pure ():=by intro _ _;rfl):PI X tg e (qg1 K ta):=by subst hK;exact pi_any he htg
theorem qfL (hK:X.K=K) (pa:PlainAttrs T) (slot:Slot T name id) (hty:typeOf (.builtin id)=pure (.type "method_descriptor")) (hm:MtR X id r) (ho:PE X o to)
  (hbase:attributeBase o name X.env (eval o X.env)=eval o X.env:=by rfl) (hline:(apos.endLine==cpos.line)=true:=by rfl):PE X (.Call (.Attribute o name apos) [] [] cpos) (qgX K T r to):=by
 subst hK
 exact pe_bm0 pa slot hty hm ho hbase hline
theorem qcE (hK:X.K=K) (pa:PlainAttrs T) (slot:Slot T name id) (hty:typeOf (.builtin id)=pure (.type "method_descriptor")) (hm:MtR X id r) (ho:PE X o to) (ha:PA X (e::es) t)
  (hbase:attributeBase o name X.env (eval o X.env)=eval o X.env:=by rfl)
  (hfew:((backTo cpos (starEach (e::es) X.env)).all (fun x=>!x.1)&&(backToKw cpos (keywordEach [] X.env)).all (fun x=>x.1.isSome)
   && decide ((e::es).length + ([]:List Keyword).length + (if ([]:List Keyword).isEmpty then 0 else 1) < 30))=true:=by rfl)
  (hline:(apos.endLine==cpos.line)=true:=by rfl) (hs:starEach (e::es) X.env=(false,eval e X.env)::starEach es X.env:=by rfl) (hplain:(backTo cpos (starEach es X.env)).any (·.1)=false:=by rfl) :
  PE X (.Call (.Attribute o name apos) (e::es) [] cpos) (tBM K T r to t):=by
 subst hK
 exact pe_bm pa slot hty hm ho ha hbase hfew hline hs hplain
end
structure DefOk (P:Program) (w:World) (K:PySem.W.Frag) (mg:Str→Option Value) (base:Heap) (CX:CXT) (k:Nat) (x:Str) (ps:List Str) (sp:Sp):Prop where
 ex:∃ f fd,FnOk P w K mg base CX k f fd ps sp∧mg x=some (.ref f)∧PySem.W.keepIn K (.ref f)=true∧Binds K fd ps []
section
variable {X:Cx} {CX:CXT} {k:Nat} {ps:List Str} {sp:Sp} {E:XK} {x:Str} {p pos:Pos} {e:Expr} {es:List Expr} {t:TA}
theorem qr (D:DefOk X.prog X.w X.K X.mg X.base CX k x ps sp) (hr:Room k X.A) (hx:zR CX X E) (ha:PA X (e::es) t) (hg:Gl X x:=by rfl) (hdb:(x==("__debug__":Str))=false:=by decide)
  (he:starEach (e::es) X.env=(false,eval e X.env)::starEach es X.env:=by rfl) (hpl:(backTo pos (starEach es X.env)).any (·.1)=false:=by rfl):PE X (.Call (.Name x p) (e::es) [] pos) (qcG sp [] E t):=by
 obtain ⟨f,fd,F,hm,hk,hb⟩:=D.ex
 exact pe_call F hr hg hm hk hb .nil hx ha hdb he hpl
theorem qa4 {i:Int} (hg:Gl X x) (hm:∃ tk,X.mg x=some (.int i tk)) (hd:(x==("__debug__":Str))=false:=by decide):PE X (.Name x pos) (tC (.int i)):=by
 obtain ⟨tk,hm⟩:=hm
 exact pe_glob hg hm ⟨tk,rfl⟩ hd
end
def qeh (t c:String):Bool:=t==c||(t=="bool"&&c=="int")
theorem qbK (K:PySem.W.Frag):∀ t∈["NoneType", "bool", "int", "str", "list", "tuple", "dict"],∀ c∈["bool", "int", "str", "list", "tuple", "dict"],PySem.W.kitOne K (.type t) (.type c)=some (qeh t c):=by
 intro t ht c hc
 simp only [List.mem_cons,List.not_mem_nil,or_false] at ht hc
 rcases ht with rfl | rfl | rfl | rfl | rfl | rfl | rfl<;>rcases hc with rfl | rfl | rfl | rfl | rfl | rfl<;>rfl
def qbX:List Value→Bool
 | [.type a,.type b,.type c,.type d]=>a=="ValueError"&&b=="Exception"&&c=="BaseException"&&d=="object"
 | .ref _::r=>qbX r
 | _=>false
def qgI (K:PySem.W.Frag) (C:Addr):Bool:=match K.lookup C with
 | some ⟨.type "type",_,.cls cd,sl⟩=>(match cd.mro,sl.toList with
  | .ref D::bm,[_,_,_,_,some (.builtin n),_]=>D==C&&!cd.hasDel&&qbX bm&&n=="ValueError.__new__"
  | _,_=>false)
 | _=>false
theorem qdl {K:PySem.W.Frag} {h:Heap} {C:Addr} (X:K.In h) (q:qgI K C=true):∃ nm qn N bs bm hdct sn sub ab col dd k0 k1 k2 k3 k5,
  h.get? C=some (excClassObj nm qn C N bs bm hdct sn sub ab col dd k0 k1 k2 k3 k5 "ValueError.__new__")∧qbX bm=true:=by
 unfold qgI at q
 split at q
 ·rename_i dd cd sl ho
  split at q
  ·rename_i D bm k0 k1 k2 k3 n k5 hm hs
   simp only [Bool.and_eq_true,beq_iff_eq,Bool.not_eq_true'] at q
   obtain ⟨⟨⟨e1,e2⟩,e3⟩,e4⟩:=q
   subst e1 e4
   obtain ⟨nm,bs,mro,ns,qn,hd,sn,sub,ab,col,del⟩:=cd
   dsimp only at hm e2
   subst hm e2
   obtain ⟨l⟩:=sl
   dsimp only at hs
   subst hs
   exact ⟨nm,qn,ns,bs,bm,hd,sn,sub,ab,col,dd,k0,k1,k2,k3,k5,X _ _ ho,e3⟩
  ·cases q
 ·cases q
structure XAt (K:PySem.W.Frag) (C:Addr):Prop where
 ga:PySem.W.findIn K (.ref C) "__getattribute__"=some (some (.builtin "BaseException.__getattribute__"))
 gn:PySem.W.findIn K (.ref C) "__getattr__"=some none
 bx:PySem.W.mroIn K C (.type "BaseException")=some true
 ob:PySem.W.mroIn K C (.type "object")=some true
 hd:PySem.W.hasDictIn K C=true
 cl:PySem.W.findIn K (.ref C) "__class__"=some (some (.builtin "object.__class__"))
 cg:PySem.W.specialIn K (.builtin "object.__class__") "__get__"=some (some (.builtin "getset_descriptor.__get__"))
 ct:PySem.W.takesIn K (.builtin "object.__class__")=some true
 sa:PySem.W.findIn K (.ref C) "__setattr__"=some (some (.builtin "object.__setattr__"))
 mr:(PySem.W.clsIn K C).any (fun cd=>qbX cd.mro)=true
 xc:qgI K C=true
theorem bexc_ga_slot:Slot "ValueError" "__getattribute__" "BaseException.__getattribute__":=PySem.F.attr_ValueError.ga
section
variable {prog:Program} {w:World} {A:Around} {E:Value→Shared→Prop} {s:Shared} {K:PySem.W.Frag} {x C:Addr} {ox:Obj} {od:Option Obj} {name:Str} {v:Value}
theorem xga_value {tk:Tok} {Q:Fin→Shared→Prop} (X:K.In s.heap) (I:PySem.W.InstAt s.heap x ox C od) (hf:PySem.W.findObj K C od name=some (.value v)) (h:Q (.done (.ret v)) s) :
  wpAny (model prog w) A (Builtin.«object.__getattribute__» ⟨[.ref x,.str name tk],[]⟩) Q E s:=by
 have F:=PySem.W.looks_find (M:=model prog w) X I hf
 refine wpAny_bind (wpAny_pure (wpAny_bind (wpAny_pure (wpAny_bind (I.type.here (wpAny_bind (F.here ?_)))))))
 exact wpAny_pure h
theorem xga_call {tk:Tok} {R:Result→Shared→Prop} (X:K.In s.heap) (I:PySem.W.InstAt s.heap x ox C od) (hb:PySem.W.mroIn K C (.type "BaseException")=some true)
  (h:wpAny (model prog w) A.in1 (Builtin.«object.__getattribute__» ⟨[.ref x,.str name tk],[]⟩) (fun fin s'=>match fin with | .done f=>R (.ok f) s' | .again c'=>c'.quiet=true∧codeAny (model prog w) A c' R s') (fun e s'=>R (.error e) s') s) :
  codeAny (model prog w) A (.call (.builtin "BaseException.__getattribute__") ⟨[.ref x,.str name tk],[]⟩) R s:=by
 refine codeAny_call_builtin bexc_ga_slot.plain PySem.F.entry_bexc_ga ?_
 exact @PySem.W.check_slot (model prog w) _ _ s "BaseException.__getattribute__" "BaseException" "__getattribute__" (.ref x) [.str name tk] [] _ (by decide +kernel) (by decide +kernel) (I.type.andThen (PySem.W.looks_mroIn X hb)) (PySem.F.args_bexc_ga _ _) h
theorem qei {fill expr:Bool} {tk:Tok} {Q:Value→Shared→Prop} (X:K.In s.heap) (I:PySem.W.InstAt s.heap x ox C od) (c:XAt K C)
  (h:wpAny (model prog w) A.in1 (Builtin.«object.__getattribute__» ⟨[.ref x,.str name tk],[]⟩) (fun fin s'=>match fin with | .done (.ret v)=>wpAny (model prog w) A (handedOut v) Q E s' | _=>False) (fun _ _=>False) s) :
  wpAny (model prog w) A (getAttrBy (.ref x) (.str name tk) fill expr) Q E s:=by
 unfold getAttrBy
 refine wpAny_holding (wpAny_bind (I.type.here (wpAny_bind ((PySem.W.looks_findIn X c.ga).here ?_))))
 have e1:(onTheHeap (Value.ref C)&&Value.builtin "BaseException.__getattribute__"==Value.builtin "object.__getattribute__")=false:=by
  rw [show (Value.builtin "BaseException.__getattribute__"==Value.builtin "object.__getattribute__")=false by decide +kernel]
  rfl
 dsimp only
 rw [e1,if_neg (by decide)]
 unfold getAttrByItsOwn hookBefore
 rw [if_pos (show onTheHeap (Value.ref C)=true from rfl)]
 refine wpAny_bind ((PySem.W.looks_findIn X c.gn).here (wpAny_bind (wpAny_attempt (wpAny_holding ?_))))
 have e2:(expr&&onTheHeap (Value.builtin "BaseException.__getattribute__"))=false:=by cases expr<;>rfl
 unfold callGetattribute
 rw [e2,if_neg (by decide)]
 unfold boundAndCalled
 rw [bexc_ga_slot.bind]
 refine wpAny_bind (wpAny_pure ?_)
 show wpAny _ _ (call (.builtin "BaseException.__getattribute__") [.ref x,.str name tk]) _ _ _
 refine wpAny_call (xga_call X I c.bx (wpAny_mono h (fun fin s' z=>?_) fun _ _ z=>z.elim))
 rcases fin with (_ | _ | _ | _) | _<;>first | exact z | exact z.elim
theorem xget {expr:Bool} {Q:Value→Shared→Prop} (X:K.In s.heap) (I:PySem.W.InstAt s.heap x ox C od) (c:XAt K C) (hf:PySem.W.findObj K C od name=some (.value v)) (hh:PySem.W.handedIn v=true)
  (h:Q v { s with toks:=s.toks + 1 }):wpAny (model prog w) A (getAttr (.ref x) name expr) Q E s:=by
 unfold getAttr
 refine wpAny_bind (wpAny_mkText (qei (s:={ s with toks:=s.toks + 1 }) X I c (xga_value (s:={ s with toks:=s.toks + 1 }) X I hf ?_)))
 show wpAny _ _ (handedOut v) _ _ _
 rw [PySem.W.handedOut_of hh]
 exact wpAny_pure h
theorem xclass {Q:Option Value→Shared→Prop} (X:K.In s.heap) (I:PySem.W.InstAt s.heap x ox C od) (c:XAt K C) (hf:PySem.W.findObj K C od "__class__"=some (.bind (.builtin "getset_descriptor.__get__") (.builtin "object.__class__")))
  (h:Q (some (.ref C)) { s with toks:=s.toks + 1 }):wpAny (model prog w) A (getAttr? (.ref x) "__class__") Q E s:=by
 unfold getAttr? getAttrBy?
 refine wpAny_bind (wpAny_mkText (wpAny_bind (wpAny_attempt (qei (s:={ s with toks:=s.toks + 1 }) X I c ?_))))
 have F:=PySem.W.looks_find (M:=model prog w) X I hf
 refine wpAny_bind (wpAny_pure (wpAny_bind (wpAny_pure (wpAny_bind (I.type.here (s:={ s with toks:=s.toks + 1 }) (wpAny_bind (F.here (s:={ s with toks:=s.toks + 1 }) ?_)))))))
 show wpAny _ _ (holding [Value.builtin "object.__class__"] (call (.builtin "getset_descriptor.__get__") [.builtin "object.__class__",.ref x,.ref C])>>=ret) _ _ _
 refine wpAny_bind (wpAny_holding (wpAny_call (PySem.W.class_get (s:={ s with toks:=s.toks + 1 }) X I c.ob ?_)))
 refine wpAny_pure ?_
 show wpAny _ _ (handedOut (.ref C)) _ _ _
 exact wpAny_pure (wpAny_pure h)
theorem findObj_class (c:XAt K C):PySem.W.findObj K C od "__class__"=some (.bind (.builtin "getset_descriptor.__get__") (.builtin "object.__class__")):=by
 obtain ⟨cd,hc,_⟩:=PySem.W.any_some c.hd
 unfold PySem.W.findObj
 rw [hc,Option.bind_some,c.cl,Option.bind_some]
 simp [c.cg,c.ct]
theorem qdm {od:Option Obj} (c:XAt K C):PySem.W.KitX K (.ref x) (.ref C) (fun h=>PySem.W.InstAt h x ox C od) where
 ty:=fun _ _ _ I=>I.type
 it:=fun _ _ X _=>by
  obtain ⟨cd,hc,_⟩:=PySem.W.any_some c.hd
  unfold PySem.W.clsIn at hc
  split at hc
  ·rename_i c1 d1 cd1 sl1 ho
   intro A' Q' E' s' k q
   unfold isType loadHead
   exact wpAny_bind (wpAny_loadPart (k _ _ (X _ _ ho)) (wpAny_pure q))
  ·cases hc
 ne:=fun h tp dd its n sl X htp=>by
  obtain ⟨cd,hc,_⟩:=PySem.W.any_some c.hd
  refine Bool.eq_false_iff.mpr fun q=>?_
  have e:C=tp:=Value.ref.inj (beq_iff_eq.mp q)
  subst e
  unfold PySem.W.clsIn at hc
  split at hc
  ·rename_i c1 d1 cd1 sl1 ho
   have z:=(X _ _ ho).symm.trans htp
   cases z
  ·cases hc
 ca:=fun X I k=>xclass X I c (findObj_class c) k
end
theorem qck {c:Addr} {r:List Value} (e:qbX (.ref c::r)=true):qbX r=true:=by
 cases r with
 | nil=>cases e
 | cons a r=>exact e
theorem qaG:∀ {l:List Value},qbX l=true→∃ rs:List Addr,l=rs.map Value.ref++[.type "ValueError",.type "Exception",.type "BaseException",.type "object"]
 | [],e=>by cases e
 | .ref c::r,e=>by
  obtain ⟨rs,q⟩:=qaG (qck e)
  exact ⟨c::rs,by rw [q];rfl⟩
 | .type a::r,e=>by
  match r,e with
  | [.type b,.type c,.type d],e =>
   simp only [qbX,Bool.and_eq_true,beq_iff_eq] at e
   obtain ⟨⟨⟨rfl,rfl⟩,rfl⟩,rfl⟩:=e
   exact ⟨[],rfl⟩
theorem refuse_exc (self:Value) {l:List Value} (e:qbX l=true):refuseLoop self "__setattr__" l=pure ():=by
 obtain ⟨rs,rfl⟩:=qaG e
 induction rs with
 | nil=>exact PySem.F.store_ValueError.passes self
 | cons c rs ih=>rw [List.map_cons,List.cons_append,refuseLoop_ref];exact ih (qck e)
theorem qaH {l:List Value} (e:qbX l=true) {T:String} (h:T∈["ValueError", "Exception", "BaseException", "object"]):l.contains (.type T)=true:=by
 obtain ⟨rs,rfl⟩:=qaG e
 rw [List.contains_iff_mem]
 refine List.mem_append_right _ ?_
 simp only [List.mem_cons,List.not_mem_nil,or_false] at h ⊢
 rcases h with rfl | rfl | rfl | rfl<;>simp
section
variable {prog:Program} {w:World} {A:Around} {E:Value→Shared→Prop} {s:Shared} {K:PySem.W.Frag} {x C:Addr} {name:Str} {v:Value} {R:Result→Shared→Prop}
theorem xosa {tk:Tok} {ox:Obj} {od:Option Obj} (X:K.In s.heap) (I:PySem.W.InstAt s.heap x ox C od) (c:XAt K C) (n:NoAttr K C name)
  (h:wpAny (model prog w) A.in1 (Builtin.ObjectAttr.storeInOwnDict (.ref x) (.ref C) (.str name tk) name v false)
   (fun fin s'=>match fin with | .done f=>R (.ok f) s' | .again c'=>c'.quiet=true∧codeAny (model prog w) A c' R s') (fun e s'=>R (.error e) s') s) :
  codeAny (model prog w) A (.call (.builtin "object.__setattr__") ⟨[.ref x,.str name tk,v],[]⟩) R s:=by
 have SF:=PySem.F.store_object
 obtain ⟨cd,hc,ho⟩:=PySem.W.any_some c.mr
 have hm:PySem.W.Looks (model prog w) s.heap (mroOf (.ref C)) cd.mro:=(PySem.W.looks_clsIn X hc).andThen .now
 refine codeAny_call_builtin SF.slot.plain SF.entry (@PySem.W.check_slot (model prog w) _ _ s "object.__setattr__" "object" "__setattr__" (.ref x) [.str name tk,v] [] _ SF.kind SF.split (I.type.andThen (PySem.W.looks_mroIn X c.ob)) (SF.args (.ref x) (.str name tk) v) ?_)
 rw [PySem.W.osa_eq,refuse_eq]
 refine wpAny_bind (wpAny_bind (I.type.here (wpAny_bind (hm.here ?_))))
 rw [refuse_exc _ ho]
 refine wpAny_pure (wpAny_bind (I.type.here (wpAny_bind ((PySem.W.looks_findIn X n).here (wpAny_bind (wpAny_pure ?_))))))
 exact h
theorem xset {vs:Array Value} (X:K.In s.heap) (hx:s.heap.get? x=some ⟨.ref C,none,.fields vs,#[]⟩) (c:XAt K C) (n:NoAttr K C name) {Q:Unit→Shared→Prop}
  (h:∀ h',h'.get? x=some ⟨.ref C,some s.heap.objs.size,.fields vs,#[]⟩→h'.Ns1 s.heap.objs.size (fun y=>if y=name then some v else none)→(∀ b o,b≠x→s.heap.get? b=some o→h'.get? b=some o) →
   Q () { s with heap:=h',toks:=s.toks + 2 }):wpAny (model prog w) A (setAttr (.ref x) name v) Q E s:=by
 have I:PySem.W.InstAt s.heap x ⟨.ref C,none,.fields vs,#[]⟩ C none:=⟨hx,rfl,rfl,True.intro⟩
 obtain ⟨cd,hc,hd⟩:=PySem.W.any_some c.hd
 refine PySem.W.set_plain X I c.sa (xosa (s:={ s with toks:=s.toks + 1 }) X I c n ?_)
 refine wpAny_bind (wpAny_pure (wpAny_bind (wpAny_bind (wpAny_loadPart hx (wpAny_bind ((PySem.W.looks_clsIn X hc).here (s:={ s with toks:=s.toks + 1 }) ?_))))))
 rw [hd]
 obtain ⟨hh,g,dr,tk,os⟩:=s
 show wpAny _ _ (alloc { cls:=.type "dict",data:=.dict #[] }>>=fun d=>update x (fun o=>{ cls:=o.cls,dict:=some d,data:=o.data,slots:=o.slots })>>=fun _=>pure (some d)) _ _ _
 have hxs:x≠hh.objs.size:=Nat.ne_of_lt (Heap.lt_size hx)
 have hx1:=Heap.get?_push_of_some { cls:=.type "dict",data:=.dict #[] } hx
 refine wpAny_bind (wpAny_alloc' (wpAny_bind (wpAny_update' hx1 (wpAny_pure ?_))))
 have hx2:=Heap.get?_update_self (fun o:Obj=>{ cls:=o.cls,dict:=some hh.objs.size,data:=o.data,slots:=o.slots }) hx1 rfl
 have hd2:=(Heap.get?_update_ne (hh.push { cls:=.type "dict",data:=.dict #[] }) hh.objs.size x (fun o:Obj=>{ cls:=o.cls,dict:=some hh.objs.size,data:=o.data,slots:=o.slots }) hxs.symm).trans (Heap.get?_push_at rfl rfl)
 generalize hg:(hh.push { cls:=.type "dict",data:=.dict #[] }).update x (fun o:Obj=>{ cls:=o.cls,dict:=some hh.objs.size,data:=o.data,slots:=o.slots })=h2 at hx2 hd2 ⊢
 have nd:h2.Ns hh.objs.size (fun _=>none):=⟨_,#[],_,hd2,rfl,fun e he=>absurd he (by simp),fun _=>rfl⟩
 show wpAny _ _ (Builtin.ObjectAttr.storeInDict hh.objs.size (.str name tk) name v) _ _ _
 unfold Builtin.ObjectAttr.storeInDict Builtin.ObjectAttr.newKeyGuard
 refine wpAny_bind (wpAny_pure (wpAny_bind (wpAny_nsSet1 (Heap.Ns1.of_empty nd) fun h' n2 sb=>?_)))
 obtain ⟨oD,esD,epD,hoD,hdD,hcD⟩:=n2.count (PySem.Within.cons name v PySem.Within.nil)
 have hz:esD.size≤sizeLine:=Nat.le_trans hcD (by rw [List.length_cons,List.length_nil,sizeLine_eq];omega)
 refine wpAny_bind (wpAny_lookBehind hoD (by rw [hdD];exact pastItsLine_dict (Nat.le_succ_of_le hz)) ?_)
 refine wpAny_pure (h h' ((sb.2 x hxs).trans hx2) n2 fun b o hb e=>(sb.2 b (Nat.ne_of_lt (Heap.lt_size e))).trans ?_)
 rw [← hg]
 exact (Heap.get?_update_ne _ _ _ _ hb).trans (Heap.get?_push_of_some _ e)
theorem ve_check {M:Model} {ox:Obj} {u:Value} {Q:Unit→Shared→Prop} (X:K.In s.heap) (c:XAt K C) (hx:s.heap.get? x=some ox) (hcls:ox.cls=.ref C) (q:Q () s) :
  wpAny M A (checkBuiltinCall "ValueError.__init__" ⟨[.ref x,u],[]⟩) Q E s:=by
 have F:=PySem.F.excBase_ValueError
 have hshort:=F.noStar
 obtain ⟨nm,qn,N,bs,bm,hdct,sn,sub,ab,col,dd,k0,k1,k2,k3,k5,hC,hm⟩:=qdl X c.xc
 have hcB:(Value.ref C::bm).contains (.type "ValueError")=true:=by rw [List.contains_cons,qaH hm (by simp),Bool.or_true]
 obtain ⟨hh,g,dr,tk,os⟩:=s
 simp only [checkBuiltinCall,F.initKind,F.initSplit,F.initRow]
 repeat (first | (with_reducible refine wpAny_loadPart_at hx ?_;rw [hcls]) | with_reducible refine wpAny_loadPart_at hC ?_ | (with_reducible refine wpAny_isSubtype_exc hC ?_;rw [hcB]) | wp_step)
 exact q
abbrev xfs (a0:Addr):Array Value:=#[.ref a0,.none,.none,.none,.bool false,.none]
theorem xbase_init {a0:Addr} {u:Value} (X:K.In s.heap) (hx:s.heap.get? x=some ⟨.ref C,none,.fields (xfs a0),#[]⟩) (c:XAt K C) {Q:Value→Shared→Prop}
  (h:∀ h' a1,h'.get? x=some ⟨.ref C,none,.fields (xfs a1),#[]⟩→(∀ b o,b≠x→s.heap.get? b=some o→h'.get? b=some o)→Q .none { s with heap:=h' }) :
  wpAny (model prog w) A (call (.builtin "ValueError.__init__") [.ref x,u]) Q E s:=by
 have F:=PySem.F.excBase_ValueError
 refine wpAny_call (codeAny_call_builtin F.init.plain F.initEntry (ve_check X c hx rfl ?_))
 obtain ⟨hh,g,dr,tk,os⟩:=s
 wp_walk
 refine h _ hh.objs.size ?_ fun b o hb e=>?_
 ·rw [Heap.get?_update_self _ (Heap.get?_push_of_some _ hx) rfl]
  rfl
 ·rw [Heap.get?_update_other _ _ (Ne.symm hb)]
  exact Heap.get?_push_of_some _ e
end
theorem qdn {l:List Value} (e:qbX l=true) {T:String} (h:T∉["ValueError", "Exception", "BaseException", "object"]):l.contains (.type T)=false:=by
 obtain ⟨rs,rfl⟩:=qaG e
 refine Bool.eq_false_iff.mpr fun q=>?_
 rcases List.mem_append.mp (List.contains_iff_mem.mp q) with z | z
 ·obtain ⟨a,_,q⟩:=List.mem_map.mp z
  cases q
 ·simp only [List.mem_cons,List.not_mem_nil,or_false,Value.type.injEq] at z h
  exact h z
section
variable {prog:Program} {w:World} {A:Around} {R:Result→Shared→Prop} {E:Value→Shared→Prop} {h:Heap} {g:Array GenState} {d:Drawn} {t:Nat} {os:OsState}
variable {nm q:Str} {C N:Addr} {bs bm:List Value} {hdct:Bool} {sn:List Str} {sub:List Value} {ab:Bool} {col:Option Bool} {dd:Option Addr} {k0 k1 k2 k3 k5:Option Value}
theorem xnew_check {M:Model} {rest:List Value} {Q:Unit→Shared→Prop} (hC:h.get? C=some (excClassObj nm q C N bs bm hdct sn sub ab col dd k0 k1 k2 k3 k5 "ValueError.__new__")) (hm:qbX bm=true) (hq:Q () ⟨h,g,d,t,os⟩) :
  wpAny M A (checkBuiltinCall "ValueError.__new__" ⟨.ref C::rest,[]⟩) Q E ⟨h,g,d,t,os⟩:=by
 have F:=PySem.F.excBase_ValueError
 have hcont:(Value.ref C::bm).contains (.type "ValueError")=true:=by rw [List.contains_cons,qaH hm (by simp),Bool.or_true]
 have hstar:=F.noStar
 simp only [checkBuiltinCall,F.newKind,F.newSplit,F.newRow]
 repeat (first | refine wpAny_loadPart_at hC ?_ | (refine wpAny_isSubtype_exc hC ?_;rw [hcont]) | refine wpAny_staticBase_exc hC ?_ | refine wpAny_madeBy_exc hC ?_ | simp only [bne_self_eq_false,Bool.false_eq_true,if_false] | wp_step)
 exact hq
theorem xnew {rest:List Value} (hC:h.get? C=some (excClassObj nm q C N bs bm hdct sn sub ab col dd k0 k1 k2 k3 k5 "ValueError.__new__")) (hm:qbX bm=true) (hrest:rest.length≤sizeLine)
  (hq:R (.ok (.ret (.ref (h.objs.size + 1)))) ⟨(h.push { cls:=.type "tuple",data:=.seq rest.toArray }).push { cls:=.ref C,data:=.fields (xfs h.objs.size) },g,d,t,os⟩) :
  codeAny (model prog w) A (.builtin "ValueError.__new__" ⟨.ref C::rest,[]⟩) R ⟨h,g,d,t,os⟩:=by
 have F:=PySem.F.excBase_ValueError
 have hends:=F.ends
 have hcB:(Value.ref C::bm).contains (.type "ValueError")=true:=by rw [List.contains_cons,qaH hm (by simp),Bool.or_true]
 have hcA:(Value.ref C::bm).contains (.type "AttributeError")=false:=by rw [List.contains_cons,qdn hm (by simp)];rfl
 have hcN:(Value.ref C::bm).contains (.type "NameError")=false:=by rw [List.contains_cons,qdn hm (by simp)];rfl
 refine codeAny_builtinAt F.entry ?_
 unfold Builtin.«BaseException.__new__»
 refine PySem.wpAt_bind ?_
 show PySem.wpAt _ _ _ (stack>>=_) _ _ _
 refine PySem.wpAt_bind (PySem.wpAt_stack fun p0 below0=>PySem.wpAt_of_wpAny ?_)
 wp_walk
 refine PySem.wpAt_of_wpAny ?_
 rw [F.owner]
 repeat (first | with_reducible refine wpAny_madeHere_exc F.canon hC ?_ | with_reducible refine wpAny_loadPart_at hC ?_ | (with_reducible refine wpAny_isSubtype_exc hC ?_;first | rw [hcB] | rw [hcA] | rw [hcN]) | wp_step)
 show R _ _
 rw [Heap.size_push]
 exact hq
theorem xtype_call {K:PySem.W.Frag} {f:Addr} {rest:List Value} {Q:Fin→Shared→Prop} (X:K.In h) (hC:h.get? C=some (excClassObj nm q C N bs bm hdct sn sub ab col dd k0 k1 k2 k3 k5 "ValueError.__new__")) (hm:qbX bm=true)
  (hi:PySem.W.findIn K (.ref C) "__init__"=some (some (.ref f))) (hf:PySem.W.isFn K (.ref f)=true) (hrest:rest.length≤sizeLine)
  (hq:wpAny (model prog w) A (call (.ref f) (.ref (h.objs.size + 1)::rest)) (fun r s'=>r=.none∧Q (.done (.ret (.ref (h.objs.size + 1)))) s') E
   ⟨(h.push { cls:=.type "tuple",data:=.seq rest.toArray }).push { cls:=.ref C,data:=.fields (xfs h.objs.size) },g,d,t,os⟩) :
  wpAny (model prog w) A (Builtin.«type.__call__» ⟨.ref C::rest,[]⟩) Q E ⟨h,g,d,t,os⟩:=by
 have F:=PySem.F.excBase_ValueError
 repeat (first | with_reducible refine wpAny_loadPart_at hC ?_ | with_reducible refine wpAny_madeBy_exc hC ?_ | wp_step)
 refine codeAny_call_builtin_code (Code.quiet_builtin _ F.quiet) (xnew_check hC hm (xnew hC hm hrest ?_))
 show wpAny _ _ _ _ _ _
 have up:∀ b o,h.get? b=some o→((h.push { cls:=.type "tuple",data:=.seq rest.toArray }).push { cls:=.ref C,data:=.fields (xfs h.objs.size) }).get? b=some o:=fun b o e=>Heap.get?_push_of_some _ (Heap.get?_push_of_some _ e)
 have hC1:=up _ _ hC
 have hget:((h.push { cls:=.type "tuple",data:=.seq rest.toArray }).push { cls:=.ref C,data:=.fields (xfs h.objs.size) }).get? (h.objs.size + 1)=some { cls:=.ref C,data:=.fields (xfs h.objs.size) }:=Heap.get?_push_at (by rw [Heap.size_push]) rfl
 have X1:K.In ((h.push { cls:=.type "tuple",data:=.seq rest.toArray }).push { cls:=.ref C,data:=.fields (xfs h.objs.size) }):=X.keeps up
 have hcC:(Value.ref C::bm).contains (.ref C)=true:=by simp
 unfold isInstance
 repeat (first | with_reducible refine wpAny_loadPart_at hget ?_ | (with_reducible refine wpAny_isSubtype_exc hC1 ?_;rw [hcC]) | wp_step)
 show wpAny _ _ (typeLookup (.ref C) _) _ _ _
 refine (PySem.W.looks_findIn X1 hi).at (wpAny_holding (wpAny_bind ((PySem.W.bind_fn X1 _ (beq_iff_eq.mp hf)).at (wpAny_bind (wpAny_mono hq (fun r s' hr=>?_) fun _ _ z=>z)))))
 obtain ⟨rfl,hQ⟩:=hr
 wp_walk
 exact hQ
theorem xcall {K:PySem.W.Frag} {f:Addr} {rest:List Value} {s:Shared} {Q:Value→Shared→Prop} (X:K.In s.heap) (c:XAt K C) (hi:PySem.W.findIn K (.ref C) "__init__"=some (some (.ref f))) (hf:PySem.W.isFn K (.ref f)=true) (hrest:rest.length≤sizeLine)
  (hq:wpAny (model prog w) (A.under (.builtin "type.__call__" ⟨.ref C::rest,[]⟩)) (call (.ref f) (.ref (s.heap.objs.size + 1)::rest)) (fun r s'=>r=.none∧Q (.ref (s.heap.objs.size + 1)) s') E
   { s with heap:=(s.heap.push { cls:=.type "tuple",data:=.seq rest.toArray }).push { cls:=.ref C,data:=.fields (xfs s.heap.objs.size) } }) :
  wpAny (model prog w) A (call (.ref C) rest) Q E s:=by
 obtain ⟨nm,qn,N,bs,bm,hdct,sn,sub,ab,col,dd,k0,k1,k2,k3,k5,hC,hm⟩:=qdl X c.xc
 obtain ⟨h,g,d,t,os⟩:=s
 have f1:=tc_lookup
 have f2:=tc_bind (.ref C)
 have hT:(⟨h,g,d,t,os⟩:Shared).TypeIs (.ref C) "type":=⟨_,hC,rfl⟩
 refine wpAny_call (codeAny_of_tree ?_)
 show wpAny _ _ (callAny (.ref C) _) _ _ _
 repeat (any_goals (first | assumption | with_reducible refine wpAny_loadPart_at hC ?_ | wp_step))
 refine ⟨rfl,?_⟩
 exact codeAny_call_builtin_at (Code.quiet_builtin _ (by decide +kernel)) entry_typeCall (wpAny_check_type_call_sub hC (xtype_call X hC hm hi hf hrest hq))
end
def XN (e C:Addr) (dx:Option Addr):HO:=.ext fun h=>∃ a0,h.get? e=some ⟨.ref C,dx,.fields (xfs a0),#[]⟩
def XO (e C:Addr) (dx:Option Addr):HO:=.ext fun h=>∃ vs,h.get? e=some ⟨.ref C,dx,.fields vs,#[]⟩
theorem XN.ok {P:Program} {w:World} {H:Hp} {h:Heap} {e C a0:Addr} {dx:Option Addr} (q:h.get? e=some ⟨.ref C,dx,.fields (xfs a0),#[]⟩):ObjOk P w H h e (XN e C dx):=
 ⟨⟨a0,q⟩,⟨_,q⟩,fun _ _ ⟨a,x⟩ k=>⟨a,k _ x⟩⟩
theorem XO.ok {P:Program} {w:World} {H:Hp} {h:Heap} {e C:Addr} {vs:Array Value} {dx:Option Addr} (q:h.get? e=some ⟨.ref C,dx,.fields vs,#[]⟩):ObjOk P w H h e (XO e C dx):=
 ⟨⟨vs,q⟩,⟨_,q⟩,fun _ _ ⟨a,x⟩ k=>⟨a,k _ x⟩⟩
def IsX (H:Hp) (e C:Addr) (dx:Option Addr):Prop:=H e=some (XN e C dx)∨H e=some (XO e C dx)
theorem IsX.get {P:Program} {w:World} {H:Hp} {h:Heap} {e C:Addr} {dx:Option Addr} (q:IsX H e C dx) (hok:HOk P w H h):∃ vs,h.get? e=some ⟨.ref C,dx,.fields vs,#[]⟩:=by
 rcases q with q | q
 ·obtain ⟨⟨a,x⟩,_⟩:=(show ObjOk P w H h e (XN e C dx) from hok e _ q)
  exact ⟨_,x⟩
 ·obtain ⟨⟨a,x⟩,_⟩:=(show ObjOk P w H h e (XO e C dx) from hok e _ q)
  exact ⟨_,x⟩
theorem upd_id {H:Hp} {a:Addr} {o:HO} (h:H a=some o):upd H a o=H:=by
 funext b
 unfold upd
 split
 ·rename_i e;subst e;exact h.symm
 ·rfl
section
variable {X:Cx} {pins:List (Addr×Obj)} {σ:St} {H:Hp} {s:Shared} {e C:Addr} {dx:Option Addr}
theorem qe6 (I:Inv X pins σ H s) {d:Addr} {fs:List (Str×V)} (h:H d=some (.xd fs)):∃ (od:Obj) (mA:Str→Option Value),s.heap.get? d=some od∧(∀ name,PySem.W.lookIn name od=some (mA name))∧∀ f,RelO (fs.lookup f) (mA f):=by
 obtain ⟨mA,n,r⟩:=(show ObjOk X.prog X.w H s.heap d (.xd fs) from I.hok d _ h)
 obtain ⟨od,h1,h2⟩:=qb3 n
 exact ⟨od,mA,h1,h2,r⟩
end
section
variable {X:Cx} {pins:List (Addr×Obj)} {σ:St} {H:Hp} {s:Shared} {a d:Addr} {h':Heap} {o u:HO} {t':Nat}
theorem Inv.both (I:Inv X pins σ H s) (mu:Mut (H a)) (hd:s.heap.objs.size≤d) (k:∀ b v,b≠a→s.heap.get? b=some v→h'.get? b=some v) (ha:∃ v,h'.get? a=some v)
  (n1:ObjOk X.prog X.w (upd (upd H d u) a o) h' a o) (n2:ObjOk X.prog X.w (upd (upd H d u) a o) h' d u) (ne:d≠a):Inv X pins σ (upd (upd H d u) a o) { s with heap:=h',toks:=t' }:=by
 have nd:H d=none:=I.hok.fresh hd
 have na:∀ b q,H b=some q→¬ Mut (some q)→b≠a:=fun b q e nm z=>by subst z;rw [e] at mu;exact nm mu
 have nn:∀ b,H b=none→b≠a:=fun b e z=>by subst z;rw [e] at mu;exact mu
 have big:∀ b v,s.heap.get? b=some v→b≠d:=fun b v e=>Nat.ne_of_lt (Nat.lt_of_lt_of_le (Heap.lt_size e) hd)
 have up:∀ b q,H b=some q→b≠a→upd (upd H d u) a o b=some q:=fun b q e n=>by rw [qk n,qk (qy e nd)];exact e
 refine I.un ⟨fun b v e n _ _=>k b v (nn b n) e,fun b v e n _ _=>⟨v.slots,k b v (nn b n) e⟩,fun b v e n _=>by rw [qk (nn b n),qk (big b v e)];exact n,fun b v e _=>?_,fun b xs e=>up b _ e (na b _ e fun z=>z),fun b q xs e=>up b _ e (na b _ e fun z=>z),
  fun b ps e=>⟨#[],by rw [up b _ e (na b _ e fun z=>z)];simp⟩⟩ fun b q e=>?_
 ·by_cases hb:b=a
  ·subst hb;exact ha
  ·exact ⟨v,k b v hb e⟩
 ·by_cases hb:b=a
  ·subst hb
   rw [qb] at e
   cases e
   exact n1
  ·rw [qk hb] at e
   by_cases hbd:b=d
   ·subst hbd
    rw [qb] at e
    cases e
    exact n2
   ·rw [qk hbd] at e
    refine (I.hok b q e).stay (fun c v hc r=>k c v ?_ r) (fun c r=>up c _ r (na c _ r fun z=>z)) fun c xs r=>up c _ r (na c _ r fun z=>z)
    rcases hc with rfl | hc
    ·exact hb
    ·exact na c _ hc fun z=>z
end
def qgd (K:PySem.W.Frag) (ta:TE) (f:Str):TE:=fun σ H Q=>ta σ H fun x H1=>(∃ a C dx fs v,x=.ref a∧H1 a=some (.ins C dx fs)∧Cls K C∧NoAttr K C f∧fs.lookup f=some v∧Q v H1) ∨
 (∃ a C dx fs v,x=.ref a∧IsX H1 a C (some dx)∧XAt K C∧NoAttr K C f∧H1 dx=some (.xd fs)∧fs.lookup f=some v∧Q v H1)
def qge (K:PySem.W.Frag) (ta tv:TE) (f:Str):TS:=fun D σ H=>tv σ H fun y H1=>ta σ H1 fun x H2=>(∃ a C dx fs,x=.ref a∧H2 a=some (.ins C dx fs)∧Cls K C∧NoAttr K C f∧fs.length < 1000 ∧
  D.nx σ (upd H2 a (.ins C dx (jv f y fs)))) ∨
 (∃ a C,x=.ref a∧H2 a=some (XN a C none)∧XAt K C∧NoAttr K C f∧∀ dx,H2 dx=none→D.nx σ (upd (upd H2 dx (.xd [(f,y)])) a (XN a C (some dx))))
section
variable {X:Cx} {o e value:Expr} {f:Str} {pos pos':Pos} {ta tv:TE} {K:PySem.W.Frag}
theorem qQ (hK:X.K=K) (he:PE X e ta) (hb:attributeBase e f X.env (eval e X.env)=eval e X.env):PE X (.Attribute e f pos) (qgd K ta f):=by
 subst hK
 intro pins s σ H Q I h
 refine attr_of hb (thn (he pins s σ H _ I h) fun u s1 ⟨x,H1,I1,rx,hx⟩=>?_)
 rcases hx with ⟨a,C,dx,fs,v,rfl,ea,c,n,l,q⟩ | ⟨a,C,dx,fs,v,rfl,ea,c,n,hd,l,q⟩
 ·obtain rfl:u=Value.ref a:=rx
  exact getattr_ok I1 ea c n l fun u' s2 I2 ru=>⟨v,H1,I2,ru,q⟩
 ·obtain rfl:u=Value.ref a:=rx
  obtain ⟨vs,hx⟩:=ea.get I1.hok
  obtain ⟨od,mA,h1,h2,r⟩:=qe6 I1 hd
  obtain ⟨u',hu,ru⟩:=RelO.some_of (v:=v) (o:=mA f) (by rw [← l];exact r f)
  exact xget I1.kIn (od:=some od) ⟨hx,rfl,rfl,h1⟩ c (PySem.W.findObj_own c.hd n rfl (by rw [h2,hu])) (qb4 ru) ⟨v,H1,I1.tok _,ru,q⟩
theorem jQ (hK:X.K=K) (ha:PE X o ta) (hv:PE X value tv) (hs:swapsWith value (some (.Attribute o f pos')) pos.line X.env=pure false):PS X (.Assign [.Attribute o f pos'] value pos) (qge K ta tv f):=by
 subst hK
 intro pins s σ H D I h
 refine plainObj_wpAny_Assign_Attribute (thn (hv pins s σ H _ I h) fun u s1 ⟨y,H1,I1,ry,q⟩=>thn (ha pins s1 σ H1 _ I1 q) fun ov s2 ⟨x,H2,I2,rx,hx⟩=>?_) hs
 rcases hx with ⟨a,C,dx,fs,rfl,ea,c,n,l,q2⟩ | ⟨a,C,rfl,ea,c,n,q2⟩
 ·obtain rfl:ov=Value.ref a:=rx
  exact setattr_ok I2 ea c n l ry fun s3 I3=>⟨σ,_,I3,q2⟩
 ·obtain rfl:ov=Value.ref a:=rx
  obtain ⟨⟨a0,hx⟩,_⟩:=(show ObjOk X.prog X.w H2 s2.heap a (XN a C none) from I2.hok a _ ea)
  refine xset I2.kIn hx c n fun h' g1 g2 g3=>?_
  have nd:H2 s2.heap.objs.size=none:=I2.hok.fresh (Nat.le_refl _)
  have ne:s2.heap.objs.size≠a:=Nat.ne_of_gt (Heap.lt_size hx)
  refine ⟨σ,_,I2.both (o:=XN a C (some s2.heap.objs.size)) (u:=.xd [(f,y)]) (by rw [ea];exact True.intro) (Nat.le_refl _) g3 ⟨_,g1⟩ (XN.ok g1) ⟨_,g2,fun g=>?_⟩ ne,q2 _ nd⟩
  by_cases hg:g=f
  ·subst hg
   simp only [List.lookup,beq_self_eq_true,if_true]
   exact ry
  ·have hb:(g==f)=false:=beq_eq_false_iff_ne.mpr hg
   simp only [List.lookup,hb,if_neg hg]
   exact True.intro
end
def qcl (C:Addr) (sp:Sp) (E:XK) (t:TA):TE:=fun σ H Q=>t σ H fun vs H1=>vs.length≤1000∧∀ x,H1 x=none→sp (.ref x::vs) (upd H1 x (XN x C none)) (fun v H2=>v=.non∧Q (.ref x) H2) E
structure XMk (K:PySem.W.Frag) (C f:Addr):Prop where
 at_:XAt K C
 init:PySem.W.findIn K (.ref C) "__init__"=some (some (.ref f))
 fn:PySem.W.isFn K (.ref f)=true
 kp:PySem.W.keepIn K (.ref C)=true
section
variable {X:Cx} {CX:CXT} {k:Nat} {f C:Addr} {fd:FuncData} {ps:List Str} {sp:Sp} {E:XK} {x m:Str} {p pos apos:Pos} {e o:Expr} {es:List Expr} {ta:TE} {t:TA}
theorem qcm {pins:List (Addr×Obj)} {σ:St} {H:Hp} {s:Shared} {Q:VK} {us:List Value} {vs:List V} (M:XMk X.K C f) (F:FnOk X.prog X.w X.K X.mg X.base CX k f fd ps sp) (hr:Room (k + 1) X.A) (hb:Binds X.K fd ps [])
  (hx:zR CX X E) (I:Inv X pins σ H s) (r:Vals vs us) (hl0:vs.length≤1000) (h:∀ x,H x=none→sp (.ref x::vs) (upd H x (XN x C none)) (fun v H2=>v=.non∧Q (.ref x) H2) E) :
  wpAny (model X.prog X.w) X.A (call (.ref C) us) (EP X pins σ Q) X.xe s:=by
 have hq:=h (s.heap.objs.size + 1) (I.hok.fresh (Nat.le_succ _))
 have up:∀ b o,s.heap.get? b=some o→((s.heap.push { cls:=.type "tuple",data:=.seq us.toArray }).push { cls:=.ref C,data:=.fields (xfs s.heap.objs.size) }).get? b=some o:=fun b o q=>Heap.get?_push_of_some _ (Heap.get?_push_of_some _ q)
 have hget:((s.heap.push { cls:=.type "tuple",data:=.seq us.toArray }).push { cls:=.ref C,data:=.fields (xfs s.heap.objs.size) }).get? (s.heap.objs.size + 1)=some ⟨.ref C,none,.fields (xfs s.heap.objs.size),#[]⟩:=Heap.get?_push_at (by rw [Heap.size_push]) rfl
 have I2:=I.laid (a:=s.heap.objs.size + 1) (o:=XN (s.heap.objs.size + 1) C none) (t':=s.toks) up (Nat.le_succ _) (XN.ok hget)
 have r2:Vals (V.ref (s.heap.objs.size + 1)::vs) (Value.ref (s.heap.objs.size + 1)::us):=.cons rfl r
 have hl:(Value.ref (s.heap.objs.size + 1)::us++[]).length=ps.length:=by
  have q:=r2.length
  rw [F.len _ _ _ _ hq] at q
  rw [List.append_nil]
  exact q.symm
 have hus:us.length≤sizeLine:=by rw [← r.length];exact Nat.le_of_lt (qq hl0)
 refine xcall I.kIn M.at_ M.init M.fn hus (wpAny_call (codeAny_mono (F.run _ X.stack _ _ ⟨Value.ref (s.heap.objs.size + 1)::us,[]⟩ (Value.ref (s.heap.objs.size + 1)::us) _ _ E (hr.make C us [])
  (I2.env0.make C us []) (by have z:=hb _ (Value.ref (s.heap.objs.size + 1)::us) I2.kIn hl;rw [List.append_nil] at z;exact z) r2 hq) fun r s' hq'=>?_))
 cases r with
 | error e=>exact hx pins σ _ _ e s' I2 hq'
 | ok fl =>
  cases fl with
  | ret u =>
   obtain ⟨v,H',I3,rv,ev,q3⟩:=I2.after hq'
   subst ev
   exact ⟨rv,⟨V.ref (s.heap.objs.size + 1),H',I3,rfl,q3⟩⟩
  | next=>exact False.elim hq'
  | brk=>exact False.elim hq'
  | cont=>exact False.elim hq'
theorem pe_xmake (M:XMk X.K C f) (F:FnOk X.prog X.w X.K X.mg X.base CX k f fd ps sp) (hr:Room (k + 1) X.A) (hg:Gl X x) (hm:X.mg x=some (.ref C)) (hb:Binds X.K fd ps []) (hx:zR CX X E)
  (ha:PA X (e::es) t) (hdb:(x==("__debug__":Str))=false:=by decide) (he:starEach (e::es) X.env=(false,eval e X.env)::starEach es X.env:=by rfl) (hpl:(backTo pos (starEach es X.env)).any (·.1)=false:=by rfl) :
  PE X (.Call (.Name x p) (e::es) [] pos) (qcl C sp E t):=by
 intro pins s σ H Q I h
 refine wpAny_Call_Name_kw (zp I hg hm ?_ hdb)
 refine PySem.W.callWith_K (h₀:=X.base) I.ok.mod.kin M.kp (thn (ha pos pins s σ H _ I h) fun us s1 ⟨vs,H1,I1,r,z,q⟩=>⟨I1.kIn,?_⟩) he hpl
 exact qcm M F hr hb hx I1 r z q
theorem pe_xmake0 (M:XMk X.K C f) (F:FnOk X.prog X.w X.K X.mg X.base CX k f fd ps sp) (hr:Room (k + 1) X.A) (hg:Gl X x) (hm:X.mg x=some (.ref C)) (hb:Binds X.K fd ps []) (hx:zR CX X E)
  (hdb:(x==("__debug__":Str))=false:=by decide):PE X (.Call (.Name x p) [] [] pos) (qcl C sp E qdX):=by
 intro pins s σ H Q I h
 refine wpAny_Call_Name_kw (zp I hg hm ?_ hdb)
 exact PySem.W.callWith_K0 I.kIn M.kp (qcm (us:=[]) M F hr hb hx I .nil h.1 h.2)
structure CMeth (K:PySem.W.Frag) (C:Addr) (m:Str) (f:Addr):Prop where
 rd:PySem.W.readsIn K C (.type "type")=true
 at_:PySem.W.findCls K (.ref C) (.type "type") m=some (.val (.ref f))
 ga:PySem.W.specialIn K (.ref C) "__getattribute__"=some (some (.builtin "type.__getattribute__"))
 kp:PySem.W.keepIn K (.ref f)=true
theorem pe_clsm {pl:Sem Bool} (M:CMeth X.K C m f) (F:FnOk X.prog X.w X.K X.mg X.base CX k f fd ps sp) (hr:Room k X.A) (hg:Gl X x) (hm:X.mg x=some (.ref C)) (hb:Binds X.K fd ps []) (hx:zR CX X E) (ha:PA X (e::es) t)
  (hdb:(x==("__debug__":Str))=false:=by decide) (hst:starEach (e::es) X.env=(false,eval e X.env)::starEach es X.env:=by rfl) (hpl:(backTo pos (starEach es X.env)).any (·.1)=false:=by rfl)
  (ht:eval (.Call (.Attribute (.Name x p) m apos) (e::es) [] pos) X.env=(do
   let ov ← eval (.Name x p) X.env
   standAt apos.atName
   let (f,first) ← holding [ov] (getMethod ov m pl)
   callWith pos f first (backTo pos (starEach (e::es) X.env)) (backToKw pos (keywordEach [] X.env))):=by rfl) :
  PE X (.Call (.Attribute (.Name x p) m apos) (e::es) [] pos) (qcG sp [] E t):=by
 intro pins s σ H Q I h
 refine PySem.W.methodCall_KW (pl:=pl) (zp I hg hm ?_ hdb) ht
 refine PySem.W.method_cls I.kIn M.ga (PySem.W.cls_value I.kIn M.rd M.at_ rfl ?_)
 refine PySem.W.callWith_K (first:=[]) (h₀:=X.base) I.ok.mod.kin M.kp (thn (ha pos pins _ σ H _ (I.tok (s.toks + 1)) h) fun us s2 ⟨vs,H2,I2,r,q2⟩=>⟨I2.kIn,?_⟩) hst hpl
 exact qdb F hr hb .nil hx I2 r q2
end
def qe7 (K:PySem.W.Frag) (t:TA):TE:=fun σ H Q=>t σ H fun vs H1=>∃ a C y,vs=[.ref a,y]∧H1 a=some (XN a C none)∧XAt K C∧Q .non H1
theorem ve_type {M:Model} {h:Heap}:PySem.W.Looks M h (typeOf (.type "ValueError")) (.type "type"):=PySem.W.Looks.of_pure (by kernel_rfl)
theorem ve_opaque {M:Model} {h:Heap}:PySem.W.Looks M h (opaqueClassAbove (.type "ValueError")) none:=PySem.W.Looks.of_pure (by kernel_rfl)
structure VInit (K:PySem.W.Frag):Prop where
 ga:PySem.W.findIn K (.type "type") "__getattribute__"=some (some (.builtin "type.__getattribute__"))
 su:PySem.W.subIn K (.type "type") (.type "type")=some true
 at_:PySem.W.findCls K (.type "ValueError") (.type "type") "__init__"=some (.val (.builtin "ValueError.__init__"))
section
variable {X:Cx} {p pos apos:Pos} {e:Expr} {es:List Expr} {t:TA} {K:PySem.W.Frag}
theorem k_vinit {pl:Sem Bool} (hK:X.K=K) (V:VInit K) (hg:Gl X "ValueError") (hm:X.mg "ValueError"=none) (hv:bootBuiltins "ValueError"=some (.type "ValueError")) (ha:PA X (e::es) t)
  (hst:starEach (e::es) X.env=(false,eval e X.env)::starEach es X.env:=by rfl) (hpl:(backTo pos (starEach es X.env)).any (·.1)=false:=by rfl)
  (ht:eval (.Call (.Attribute (.Name "ValueError" p) "__init__" apos) (e::es) [] pos) X.env=(do
   let ov ← eval (.Name "ValueError" p) X.env
   standAt apos.atName
   let (f,first) ← holding [ov] (getMethod ov "__init__" pl)
   callWith pos f first (backTo pos (starEach (e::es) X.env)) (backToKw pos (keywordEach [] X.env))):=by rfl) :
  PE X (.Call (.Attribute (.Name "ValueError" p) "__init__" apos) (e::es) [] pos) (qe7 K t):=by
 subst hK
 intro pins s σ H Q I h
 refine PySem.W.methodCall_KW (pl:=pl) (qaY I hg hm hv ?_) ht
 have hgm:∀ {Q':Value×List Value→Shared→Prop},Q' (.builtin "ValueError.__init__",[]) { s with toks:=s.toks + 1 }→wpAny (model X.prog X.w) X.A (getMethod (.type "ValueError") "__init__" pl) Q' X.xe s:=fun {Q'} q=>by
  unfold getMethod
  refine wpAny_bind ((ve_type.andThen (PySem.W.looks_findIn I.kIn V.ga)).here ?_)
  dsimp only
  rw [if_pos PySem.W.canon_tga]
  refine wpAny_bind (PySem.W.cls_open (hook:=none) I.kIn ve_opaque ve_type V.ga (PySem.W.Looks.now) V.su V.at_ (wpAny_pure ?_))
  show wpAny _ _ (handedOut _) _ _ _
  exact PySem.W.handed_on rfl (wpAny_pure q)
 refine hgm ?_
 have hA:=ha pos pins _ σ H _ (I.tok (s.toks + 1)) h
 rw [hst] at hA ⊢
 refine Calls.callWith_builtin (by show (false||(backTo pos (starEach es X.env)).any (·.1))=false;rw [hpl]<;>rfl) (Calls.evalArgs_plain ?_)
 refine thn hA fun us s2 ⟨vs,H2,I2,r2,a,C,y,e1,ea,c,q⟩=>?_
 subst e1
 obtain ⟨u,v,rfl,ru,rv⟩:=qd5 r2
 cases ru
 obtain ⟨⟨a0,hx⟩,_⟩:=(show ObjOk X.prog X.w H2 s2.heap a (XN a C none) from I2.hok a _ ea)
 refine xbase_init I2.kIn hx c fun h' a1 g1 g2=>?_
 have J:=I2.write (x:=a) (e:=a) (o:=XN a C none) (t':=s2.toks) (by rw [ea];exact True.intro) (.inl rfl) g2 ⟨_,g1⟩ (XN.ok g1)
 rw [upd_id ea] at J
 exact ⟨.non,H2,J,rfl,q⟩
end
structure Keep (fs zs:List Addr) (h h':Heap):Prop where
 keep:∀ b o,h.get? b=some o→b∉zs→b∉fs→h'.get? b=some o
 slot:∀ b o,h.get? b=some o→b∉zs→b∈fs→∃ sl,h'.get? b=some { o with slots:=sl }
structure Trc (h:Heap) (e:Addr) (C:Value) (dx:Option Addr) (T:Addr) (fl:Value):Prop where
 ex:∃ vs,h.get? e=some ⟨C,dx,.fields vs,#[]⟩∧vs[1]?=some (.ref T)∧vs[2]?=some .none
 tb:∃ ts,h.get? T=some ⟨.type "traceback",none,.fields ts,#[]⟩∧ts[3]?=some fl
 ne:T≠e
section
variable {M:Model} {A:Around} {E:Value→Shared→Prop} {s:Shared} {base:Heap} {env:Env} {outer:List Env} {L e:Addr} {C:Value} {dx:Option Addr} {vs:Array Value}
theorem qe8 {head:Value} {had:Bool} {Q:Unit→Shared→Prop} (hfr:A.frames=some (env::outer)) (hl:s.heap.FunFrames base (env::outer)) (hf:env.frame=some L) (he:s.heap.get? e=some ⟨C,dx,.fields vs,#[]⟩) (hsz:1 < vs.size) (h2:vs[2]?=some .none)
  (h:∀ h' T,s.heap.objs.size≤T→Trc h' e C dx T (rawInt L)→Keep (frs (env::outer)) [e] s.heap h'→Q () { s with heap:=h' }) :
  wpAny M A (do let a ← frameOf env;let pl ← entryPlaceOf L had;let b ← EntryCells.newEntry head a .none (rawInt L) .none pl;setField (.ref e) 1 b) Q E s:=by
 have hene:e∉frs (env::outer):=fun hm=>by
  obtain ⟨_,o,ho,hnf⟩:=hl.mem hm
  rw [he] at ho
  cases ho
  exact hnf vs rfl
 refine wpAny_bind (wpAny_frameOf_fun hfr hl hf fun h₁ hs=>wpAny_bind (wpAny_entryPlaceOf fun pl hpl=>?_))
 unfold EntryCells.newEntry newFields
 refine wpAny_bind (wpAny_newObj_type ?_ (hpl.sizeOk5 _ _ _ _ _))
 have he1:h₁.get? e=some ⟨C,dx,.fields vs,#[]⟩:=(hs.2.1 e hene).trans he
 generalize hts:([head,.ref L,.none,rawInt L,.none]++(if pl.isEmpty then List.replicate 6 Value.none else pl)).toArray=ts
 have h3:ts[3]?=some (rawInt L):=by rw [← hts];first | (simp;done) | (rcases hpl with rfl | ⟨_,_,_,_,_,_,_,rfl⟩<;>simp)
 have he2:=Heap.get?_push_of_some (h:=h₁) { cls:=.type "traceback",dict:=none,data:=.fields ts } he1
 have hTe:h₁.objs.size≠e:=Nat.ne_of_gt (Heap.lt_size he1)
 refine wpAny_setField he2 rfl hsz (h _ h₁.objs.size (Nat.le_of_eq hs.1.symm) ⟨⟨vs.setIfInBounds 1 (.ref h₁.objs.size),?_,by simp [hsz],by rw [Array.getElem?_setIfInBounds_ne (by decide)];exact h2⟩,⟨ts,?_,h3⟩,hTe⟩ ⟨fun b o q hb hn=>?_,fun b o q hb hn=>?_⟩)
 ·rw [Heap.get?_update_self _ he2 rfl]
  rfl
 ·rw [Heap.get?_update_other _ _ (Ne.symm hTe)]
  exact Heap.get?_push_size h₁ rfl
 ·have hbe:b≠e:=fun z=>hb (by simp [z])
  rw [Heap.get?_update_other _ _ (Ne.symm hbe)]
  exact Heap.get?_push_of_some _ ((hs.2.1 b hn).trans q)
 ·have hbe:b≠e:=fun z=>hb (by simp [z])
  obtain ⟨sl,z⟩:=hs.2.2 b o q
  exact ⟨sl,by rw [Heap.get?_update_other _ _ (Ne.symm hbe)];exact Heap.get?_push_of_some _ z⟩
theorem qcn {Q:Unit→Shared→Prop} (hfr:A.frames=some (env::outer)) (hl:s.heap.FunFrames base (env::outer)) (hf:env.frame=some L) (he:s.heap.get? e=some ⟨C,dx,.fields vs,#[]⟩) (h1:vs[1]?=some .none) (h2:vs[2]?=some .none)
  (h:∀ h' T,s.heap.objs.size≤T→Trc h' e C dx T (rawInt L)→Keep (frs (env::outer)) [e] s.heap h'→Q () { s with heap:=h' }):wpAny M A (noteFrame (.ref e) env) Q E s:=by
 unfold noteFrame
 simp only [hf]
 refine wpAny_bind (wpAny_field he rfl h1 ?_)
 rw [if_neg (by decide)]
 exact qe8 hfr hl hf he (Array.getElem?_eq_some_iff.mp h1).1 h2 h
theorem qdo {T:Addr} {Q:Unit→Shared→Prop} (hfr:A.frames=some (env::outer)) (hl:s.heap.FunFrames base (env::outer)) (hf:env.frame=some L) (t:Trc s.heap e C dx T .none)
  (h:∀ h' T',s.heap.objs.size≤T'→Trc h' e C dx T' (rawInt L)→Keep (frs (env::outer)) [e,T] s.heap h'→Q () { s with heap:=h' }):wpAny M A (noteFrame (.ref e) env) Q E s:=by
 obtain ⟨⟨vs,he,h1,h2⟩,⟨ts,hT,h3⟩,hne⟩:=t
 unfold noteFrame
 simp only [hf]
 refine wpAny_bind (wpAny_field he rfl h1 ?_)
 rw [if_pos (show (Value.ref T != Value.none)=true from by simp)]
 refine wpAny_bind (wpAny_field hT rfl h3 ?_)
 rw [if_neg (show ¬ ((Value.none==rawInt L)=true) from by simp [rawInt])]
 refine wpAny_bind (wpAny_setField hT rfl (Array.getElem?_eq_some_iff.mp h3).1 ?_)
 have other:∀ b,b≠T→(s.heap.update T (Obj.mapFields (·.setIfInBounds 3 Value.none))).get? b=s.heap.get? b:=fun b hb=>Heap.get?_update_other _ _ (Ne.symm hb)
 have szu:(s.heap.update T (Obj.mapFields (·.setIfInBounds 3 Value.none))).objs.size=s.heap.objs.size:=Heap.size_after_update ..
 refine qe8 (s:={ s with heap:=s.heap.update T (Obj.mapFields (·.setIfInBounds 3 Value.none)) }) hfr (hl.of_keeps fun b o hb hnf=>?_) hf ((other e (Ne.symm hne)).trans he) (Array.getElem?_eq_some_iff.mp h1).1 h2 fun h' T' hs t' k=>?_
 ·have nb:b≠T:=fun q=>by rw [q,hT] at hb;cases hb;exact hnf ts rfl
  exact ⟨o,(other b nb).trans hb,rfl⟩
 ·refine h h' T' (by rw [← szu];exact hs) t' ⟨fun b o q hb hn=>?_,fun b o q hb hn=>?_⟩
  ·have nb:b≠T:=fun z=>hb (by simp [z])
   exact k.keep b o ((other b nb).trans q) (fun z=>hb (by simp only [List.mem_singleton] at z;simp [z])) hn
  ·have nb:b≠T:=fun z=>hb (by simp [z])
   exact k.slot b o ((other b nb).trans q) (fun z=>hb (by simp only [List.mem_singleton] at z;simp [z])) hn
theorem qbg {T:Addr} {fl:Value} {Q:Unit→Shared→Prop} (t:Trc s.heap e C dx T fl) (h:∀ h',Trc h' e C dx T .none→(∀ b o,b≠T→s.heap.get? b=some o→h'.get? b=some o)→h'.objs.size=s.heap.objs.size→Q () { s with heap:=h' }) :
  wpAny M A (setFlight (.ref e) none) Q E s:=by
 obtain ⟨⟨vs,he,h1,h2⟩,⟨ts,hT,h3⟩,hne⟩:=t
 have h3':3 < ts.size:=(Array.getElem?_eq_some_iff.mp h3).1
 unfold setFlight
 refine wpAny_bind (wpAny_field he rfl h1 ?_)
 rw [if_pos (show (Value.ref T != Value.none)=true from by simp)]
 refine wpAny_setField hT rfl h3' (h _ ⟨⟨vs,?_,h1,h2⟩,⟨ts.setIfInBounds 3 .none,?_,by simp [h3']⟩,hne⟩ (fun b o hb q=>?_) (Heap.size_after_update ..))
 ·rw [Heap.get?_update_other _ _ hne]
  exact he
 ·rw [Heap.get?_update_self _ hT rfl]
  rfl
 ·rw [Heap.get?_update_other _ _ (Ne.symm hb)]
  exact q
end
def CX1 (P:Program) (w:World):CXT:=fun outer H s E ev s'=>∃ (a C:Addr) (dx:Option Addr) (T:Addr) (H':Hp),ev=.ref a∧s'.os=s.os∧AllBare s'.gens∧Un (frs outer) [] H H' s.heap s'.heap∧HOk P w H' s'.heap ∧
 H' a=some (XO a C dx)∧Trc s'.heap a (.ref C) dx T .none∧s.heap.objs.size≤T∧H' T=none∧E (.ref C) dx H'
section
variable {X:Cx} {pins:List (Addr×Obj)} {σ:St} {H:Hp} {s:Shared}
theorem qbL {a C T:Addr} {dx:Option Addr} {h':Heap} {fl:Value} {zs:List Addr} (I:Inv X pins σ H s) (ha:H a=some (XO a C dx)) (k:Keep (frs X.stack) zs s.heap h') (hz:∀ b∈zs,b=a∨H b=none) (t:Trc h' a (.ref C) dx T fl):HOk X.prog X.w H h':=fun b u e=>by
 by_cases hb:b=a
 ·subst hb
  rw [ha] at e
  cases e
  obtain ⟨vs,q,_⟩:=t.ex
  exact XO.ok q
 ·have nz:∀ c o,H c=some o→c≠a→c∉zs∧c∉frs X.stack:=fun c o q n=>⟨fun z=>(hz c z).elim n fun y=>(by rw [y] at q;cases q),fun z=>(by have y:=I.stkFree c z;rw [y] at q;cases q)⟩
  refine (I.hok b u e).stay (fun c v hc r=>?_) (fun _ q=>q) fun _ _ q=>q
  rcases hc with rfl | hc
  ·exact k.keep c v r (nz c _ e hb).1 (nz c _ e hb).2
  ·have n:c≠a:=fun z=>by rw [z,ha] at hc;cases hc
   exact k.keep c v r (nz c _ hc n).1 (nz c _ hc n).2
theorem qe9 {a C T:Addr} {dx:Option Addr} {h':Heap} {fl:Value} {zs:List Addr} (I:Inv X pins σ H s) (hex:X.ex=[]) (ha:H a=some (XO a C dx)) (k:Keep (frs X.stack) zs s.heap h') (hz:∀ b∈zs,b=a∨X.s₀.heap.objs.size≤b) (t:Trc h' a (.ref C) dx T fl) :
  Un X.fs [] X.H₀ H X.s₀.heap h':=by
 have B:=I.base
 rw [hex] at B
 have low:∀ b o,X.s₀.heap.get? b=some o→b≠X.env.locals:=fun b o e=>Nat.ne_of_lt (Nat.lt_of_lt_of_le (Heap.lt_size e) I.ok.above)
 have nz:∀ b o,X.s₀.heap.get? b=some o→b≠a→b∉zs:=fun b o e n z=>(hz b z).elim n fun y=>absurd (Nat.lt_of_lt_of_le (Heap.lt_size e) y) (Nat.lt_irrefl _)
 have na:∀ b,H b=none→b≠a:=fun b n z=>by rw [z,ha] at n;cases n
 have nfs:∀ b o,X.s₀.heap.get? b=some o→b∉X.fs→b∉frs X.stack:=fun b o e n z=>(List.mem_cons.mp (I.stkSub b z)).elim (low b o e) n
 refine ⟨fun b o e n hb hx=>?_,fun b o e n hb hx=>?_,B.free,fun b o e hx=>?_,B.tups,B.frzs,B.tbls⟩
 ·exact k.keep b o (B.keep b o e n hb hx) (nz b o e (na b (B.free b o e n hx))) (nfs b o e hb)
 ·obtain ⟨sl,q⟩:=B.slot b o e n hb hx
  have zz:=nz b o e (na b (B.free b o e n hx))
  by_cases hs:b∈frs X.stack
  ·obtain ⟨sl2,q2⟩:=k.slot b _ q zz hs
   exact ⟨sl2,q2⟩
  ·exact ⟨sl,k.keep b _ q zz hs⟩
 ·obtain ⟨o',q⟩:=B.there b o e hx
  by_cases hb:b=a
  ·subst hb
   obtain ⟨vs,z,_⟩:=t.ex
   exact ⟨_,z⟩
  ·have zz:=nz b o e hb
   by_cases hs:b∈frs X.stack
   ·obtain ⟨sl2,q2⟩:=k.slot b _ q zz hs
    exact ⟨_,q2⟩
   ·exact ⟨o',k.keep b _ q zz hs⟩
end
structure XOk (X:Cx) (EK:St→XK):Prop where
 pass:∀ (pins:List (Addr×Obj)) (σ:St) (H:Hp) (s:Shared) (e:Value) (s':Shared),Inv X pins σ H s→CX1 X.prog X.w X.stack H s (EK σ) e s'→X.xe e s'
 rais:∀ (pins:List (Addr×Obj)) (σ:St) (H:Hp) (s:Shared) (a C:Addr) (dx:Option Addr),Inv X pins σ H s→H a=some (XN a C dx)→EK σ (.ref C) dx (upd H a (XO a C dx))→X.xe (.ref a) s
 calm:X.calm=true
section
variable {P:Program} {w:World} {K:PySem.W.Frag} {mg:Str→Option Value} {base:Heap} {N:List Str} {qual:Str} {scope:Scope} {f:Addr} {cd:Value} {A:Around} {outer:List Env} {s0:Shared} {H0:Hp} {E:XK}
theorem qH:XOk (qb9 (CX1 P w) P w K mg base N qual scope f cd A outer s0 H0 E) fun _=>E where
 calm:=rfl
 pass:=by
  intro pins σ H s ev s' I hx
  obtain ⟨a,C,dx,T,H',rfl,hos,hbr,un,hok,ha,t,hT,hTn,q⟩:=hx
  have J:=I.call' (s':=s') (H':=H') (ch:=[]) hos un hok hbr (fun b z=>absurd z (by simp))
  show wpAny _ _ (leaving _ _) _ _ _
  unfold leaving
  refine wpAny_bind (qdo (base:=base) J.ok.frames J.stack rfl t fun h' T' hs t' k=>?_)
  refine qbg (s:={ s' with heap:=h' }) t' fun h2 t2 k2 sz2=>?_
  have hz0:s0.heap.objs.size≤s.heap.objs.size:=I.sz
  have J2:=J.sz
  have kk:Keep (frs (envOfC qual scope s0.heap.objs.size f cd::outer)) [a,T,T'] s'.heap h2:=by
   refine ⟨fun b o e z n=>?_,fun b o e z n=>?_⟩
   ·simp only [List.mem_cons,List.not_mem_nil,or_false,not_or] at z
    exact k2 b o z.2.2 (k.keep b o e (by simp [z.1,z.2.1]) n)
   ·simp only [List.mem_cons,List.not_mem_nil,or_false,not_or] at z
    obtain ⟨sl,y⟩:=k.slot b o e (by simp [z.1,z.2.1]) n
    exact ⟨sl,k2 b _ z.2.2 y⟩
  have nT':H' T'=none:=J.hok.fresh hs
  refine ⟨a,C,dx,T',H',rfl,J.os,hbr,qe9 J rfl ha kk (fun b hb=>?_) t2,qbL J ha kk (fun b hb=>?_) t2,ha,t2,Nat.le_trans J2 hs,nT',q⟩
  ·simp only [List.mem_cons,List.not_mem_nil,or_false] at hb
   rcases hb with rfl | rfl | rfl
   ·exact .inl rfl
   ·exact .inr (Nat.le_trans hz0 hT)
   ·exact .inr (Nat.le_trans J2 hs)
  ·simp only [List.mem_cons,List.not_mem_nil,or_false] at hb
   rcases hb with rfl | rfl | rfl
   ·exact .inl rfl
   ·exact .inr hTn
   ·exact .inr nT'
 rais:=by
  intro pins σ H s a C dx I e q
  obtain ⟨⟨a0,hx⟩,_⟩:=(show ObjOk _ _ H s.heap a (XN a C dx) from I.hok a _ e)
  have J:Inv _ pins σ (upd H a (XO a C dx)) s:=I.write (x:=a) (e:=a) (o:=XO a C dx) (h':=s.heap) (t':=s.toks) (by rw [e];exact True.intro) (.inl rfl) (fun _ _ _ q=>q) ⟨_,hx⟩ (XO.ok hx)
  show wpAny _ _ (leaving _ _) _ _ _
  unfold leaving
  refine wpAny_bind (qcn (base:=base) J.ok.frames J.stack rfl hx rfl rfl fun h' T' hs t' k=>?_)
  refine qbg (s:={ s with heap:=h' }) t' fun h2 t2 k2 sz2=>?_
  have J2:=J.sz
  have ha:upd H a (XO a C dx) a=some (XO a C dx):=qb
  have kk:Keep (frs (envOfC qual scope s0.heap.objs.size f cd::outer)) [a,T'] s.heap h2:=by
   refine ⟨fun b o e z n=>?_,fun b o e z n=>?_⟩
   ·simp only [List.mem_cons,List.not_mem_nil,or_false,not_or] at z
    exact k2 b o z.2 (k.keep b o e (by simp [z.1]) n)
   ·simp only [List.mem_cons,List.not_mem_nil,or_false,not_or] at z
    obtain ⟨sl,y⟩:=k.slot b o e (by simp [z.1]) n
    exact ⟨sl,k2 b _ z.2 y⟩
  have nT':upd H a (XO a C dx) T'=none:=J.hok.fresh hs
  refine ⟨a,C,dx,T',_,rfl,J.os,J.bare,qe9 J rfl ha kk (fun b hb=>?_) t2,qbL J ha kk (fun b hb=>?_) t2,ha,t2,Nat.le_trans J2 hs,nT',q⟩
  ·simp only [List.mem_cons,List.not_mem_nil,or_false] at hb
   rcases hb with rfl | rfl
   ·exact .inl rfl
   ·exact .inr (Nat.le_trans J2 hs)
  ·simp only [List.mem_cons,List.not_mem_nil,or_false] at hb
   rcases hb with rfl | rfl
   ·exact .inl rfl
   ·exact .inr nT'
end
def qfa (K:PySem.W.Frag) (EK:St→XK) (te:TE):TS:=fun _ σ H=>te σ H fun x H1=>∃ a C dx,x=.ref a∧H1 a=some (XN a C dx)∧XAt K C∧EK σ (.ref C) dx (upd H1 a (XO a C dx))
section
variable {X:Cx} {EK:St→XK} {e:Expr} {te:TE} {pos:Pos} {K:PySem.W.Frag}
theorem xraise {M:Model} {A:Around} {E:Value→Shared→Prop} {env:Env} {s:Shared} {x:Sem Value} {Q:Flow→Shared→Prop} (hh:A.handled=none)
  (h:wpAny M A x (fun v s1=>∃ a C dx a0,v=.ref a∧K.In s1.heap∧XAt K C∧s1.heap.get? a=some ⟨.ref C,dx,.fields (xfs a0),#[]⟩∧E (.ref a) s1) E s):wpAny M A (raiseStmt env (some x) none) Q E s:=by
 unfold raiseStmt
 refine wpAny_bind (wpAny_mono h (fun v s1 h1=>?_) fun _ _ z=>z)
 obtain ⟨a,C,dx,a0,rfl,kin,c,he,hE⟩:=h1
 obtain ⟨nm,qn,N,bs,bm,hdct,sn,sub,ab,col,dd,k0,k1,k2,k3,k5,hC,hm⟩:=qdl kin c.xc
 have hcB:(Value.ref C::bm).contains (.type "BaseException")=true:=by rw [List.contains_cons,qaH hm (by simp),Bool.or_true]
 obtain ⟨hp,g,d,tk,os⟩:=s1
 repeat (first | with_reducible refine wpAny_loadPart_at he ?_ | with_reducible refine wpAny_loadPart_at hC ?_ | (with_reducible refine wpAny_isSubtype_exc hC ?_;rw [hcB]) | wp_step)
 exact wpAny_raiseNew_none hh hE
theorem jq (hK:X.K=K) (XX:XOk X EK) (he:PE X e te):PS X (.Raise (some e) none pos) (qfa K EK te):=by
 subst hK
 intro pins s σ H D I h
 rw [arm_exec_Raise]
 refine wpAny_bind (wpAny_standAt (xraise (K:=X.K) (I.ok.hd XX.calm) ?_))
 refine wpAny_bind (thn (he pins s σ H _ I h) fun v s1 ⟨x,H1,I1,rx,a,C,dx,ex,ea,c,q⟩=>wpAny_bind (wpAny_standAt (wpAny_pure ?_)))
 subst ex
 cases rx
 obtain ⟨⟨a0,hx⟩,_⟩:=(show ObjOk _ _ H1 s1.heap a (XN a C dx) from I1.hok a _ ea)
 exact ⟨a,C,dx,a0,rfl,I1.kIn,c,hx,XX.rais pins σ H1 s1 a C dx I1 ea q⟩
end
def qfb (sp:Sp) (EK:St→XK) (t:TA):TE:=fun σ H Q=>t σ H fun vs H1=>sp vs H1 Q (EK σ)
def qej (C:Addr) (m:Str) (sp:Sp) (EK:St→XK) (ta:TE) (t:TA):TE:=fun σ H Q=>ta σ H fun x H1=>∃ a dx fs,x=.ref a∧H1 a=some (.ins C dx fs)∧fs.lookup m=none∧t σ H1 fun vs H2=>sp (x::vs) H2 Q (EK σ)
def qfc (C:Addr) (sp:Sp) (EK:St→XK) (t:TA):TE:=fun σ H Q=>t σ H fun vs H1=>∀ x dx,H1 x=none→H1 dx=none→dx≠x →
 sp (.ref x::vs) (upd (upd H1 dx (.own x)) x (.ins C dx [])) (fun v H2=>v=.non∧Q (.ref x) H2) (EK σ)
theorem FnOk.quiet {P:Program} {w:World} {K:PySem.W.Frag} {mg:Str→Option Value} {base:Heap} {k:Nat} {f:Addr} {fd:FuncData} {ps:List Str} {sp:Sp} (F:FnOk P w K mg base (CX1 P w) k f fd ps sp) :
  FnOk P w K mg base CX0 k f fd ps (fun vs H Q _=>sp vs H Q E0):=by
 refine ⟨fun vs H Q E h=>F.len vs H Q E0 h,fun A outer s H args us vs Q E hr he hb hv hs=>codeAny_mono (F.run A outer s H args us vs Q E0 hr he hb hv hs) fun r s' q=>?_⟩
 cases r with
 | ok fl=>cases fl<;>exact q
 | error e =>
  obtain ⟨_,_,_,_,_,_,_,_,_,_,_,_,_,_,z⟩:=q
  exact z.elim
theorem FnOk.any {P:Program} {w:World} {K:PySem.W.Frag} {mg:Str→Option Value} {base:Heap} {k:Nat} {f:Addr} {fd:FuncData} {ps:List Str} {sp:Sp} {CX:CXT} (F:FnOk P w K mg base CX0 k f fd ps sp):FnOk P w K mg base CX k f fd ps sp:=by
 refine ⟨F.len,fun A outer s H args us vs Q E hr he hb hv hs=>codeAny_mono (F.run A outer s H args us vs Q E hr he hb hv hs) fun r s' q=>?_⟩
 cases r with
 | ok fl=>cases fl<;>exact q
 | error e=>exact q.elim
structure MethOk (P:Program) (w:World) (K:PySem.W.Frag) (mg:Str→Option Value) (base:Heap) (CX:CXT) (k:Nat) (C:Addr) (m:Str) (ps:List Str) (sp:Sp):Prop where
 ex:∃ f fd,FnOk P w K mg base CX k f fd ps sp∧Meth K C m f∧Binds K fd ps []
 cl:Cls K C
structure MakeOk (P:Program) (w:World) (K:PySem.W.Frag) (mg:Str→Option Value) (base:Heap) (CX:CXT) (k:Nat) (C:Addr) (x:Str) (ps:List Str) (sp:Sp):Prop where
 ex:∃ f fd,FnOk P w K mg base CX k f fd ps sp∧Mk K C f∧Binds K fd ps []
 mg_:mg x=some (.ref C)
structure XMakeOk (P:Program) (w:World) (K:PySem.W.Frag) (mg:Str→Option Value) (base:Heap) (k:Nat) (C:Addr) (x:Str) (ps:List Str) (sp:Sp):Prop where
 ex:∃ f fd,FnOk P w K mg base CX0 k f fd ps sp∧XMk K C f∧Binds K fd ps []
 mg_:mg x=some (.ref C)
section
variable {X:Cx} {EK:St→XK} {k:Nat} {f C:Addr} {fd:FuncData} {ps:List Str} {sp:Sp} {x m:Str} {p pos apos:Pos} {e o:Expr} {es:List Expr} {ta:TE} {t:TA}
theorem qcM {pins:List (Addr×Obj)} {σ:St} {H:Hp} {s:Shared} {Q:VK} {us:List Value} {vs:List V} (F:FnOk X.prog X.w X.K X.mg X.base (CX1 X.prog X.w) k f fd ps sp) (hr:Room k X.A) (hb:Binds X.K fd ps []) (XX:XOk X EK)
  (I:Inv X pins σ H s) (r:Vals vs us) (h:sp vs H Q (EK σ)):wpAny (model X.prog X.w) X.A (call (.ref f) us) (EP X pins σ Q) X.xe s:=by
 have hl:(us++[]).length=ps.length:=by rw [List.append_nil,← r.length];exact F.len _ _ _ _ h
 have b:=hb s us I.kIn hl
 rw [List.append_nil] at b
 refine wpAny_call (codeAny_mono (F.run X.A X.stack s H ⟨us,[]⟩ us vs Q (EK σ) hr I.env0 b r h) fun r s' hq=>?_)
 cases r with
 | error e=>exact XX.pass pins σ H s e s' I hq
 | ok fl =>
  cases fl with
  | ret u=>exact I.after hq
  | _=>exact False.elim hq
theorem qar (D:DefOk X.prog X.w X.K X.mg X.base (CX1 X.prog X.w) k x ps sp) (hr:Room k X.A) (XX:XOk X EK) (ha:PA X (e::es) t) (hg:Gl X x:=by rfl) (hdb:(x==("__debug__":Str))=false:=by decide)
  (he:starEach (e::es) X.env=(false,eval e X.env)::starEach es X.env:=by rfl) (hpl:(backTo pos (starEach es X.env)).any (·.1)=false:=by rfl):PE X (.Call (.Name x p) (e::es) [] pos) (qfb sp EK t):=by
 obtain ⟨f,fd,F,hm,hk,hb⟩:=D.ex
 intro pins s σ H Q I h
 refine wpAny_Call_Name_kw (zp I hg hm ?_ hdb)
 refine PySem.W.callWith_K (h₀:=X.base) I.ok.mod.kin hk (thn (ha pos pins s σ H _ I h) fun us s1 ⟨vs,H1,I1,r,q⟩=>⟨I1.kIn,?_⟩) he hpl
 exact qcM F hr hb XX I1 r q
theorem qaa {pl:Sem Bool} (D:MethOk X.prog X.w X.K X.mg X.base (CX1 X.prog X.w) k C m ps sp) (hr:Room k X.A) (XX:XOk X EK) (he:PE X o ta) (ha:PA X (e::es) t)
  (hst:starEach (e::es) X.env=(false,eval e X.env)::starEach es X.env:=by rfl) (hpl:(backTo pos (starEach es X.env)).any (·.1)=false:=by rfl)
  (ht:eval (.Call (.Attribute o m apos) (e::es) [] pos) X.env=(do
   let ov ← eval o X.env
   standAt apos.atName
   let (f,first) ← holding [ov] (getMethod ov m pl)
   callWith pos f first (backTo pos (starEach (e::es) X.env)) (backToKw pos (keywordEach [] X.env))):=by rfl) :
  PE X (.Call (.Attribute o m apos) (e::es) [] pos) (qej C m sp EK ta t):=by
 obtain ⟨f,fd,F,hm,hb⟩:=D.ex
 intro pins s σ H Q I h
 refine PySem.W.methodCall_KW (pl:=pl) (thn (he pins s σ H _ I h) fun u s1 ⟨x,H1,I1,rx,a,dx,fs,ex,ea,l,q⟩=>?_) ht
 subst ex
 obtain rfl:u=Value.ref a:=rx
 refine zi I1 ea D.cl hm l ?_
 refine PySem.W.callWith_K (first:=[.ref a]) (h₀:=X.base) I.ok.mod.kin hm.kp (thn (ha pos pins s1 σ H1 _ I1 q) fun us s2 ⟨vs,H2,I2,r,q2⟩=>⟨I2.kIn,?_⟩) hst hpl
 exact qcM (us:=.ref a::us) (vs:=.ref a::vs) F hr hb XX I2 (.cons rfl r) q2
theorem pe_meth0S {pl:Sem Bool} (D:MethOk X.prog X.w X.K X.mg X.base (CX1 X.prog X.w) k C m ps sp) (hr:Room k X.A) (XX:XOk X EK) (he:PE X o ta)
  (ht:eval (.Call (.Attribute o m apos) [] [] pos) X.env=(do
   let ov ← eval o X.env
   standAt apos.atName
   let (f,first) ← holding [ov] (getMethod ov m pl)
   callWith pos f first (backTo pos (starEach [] X.env)) (backToKw pos (keywordEach [] X.env))):=by rfl) :
  PE X (.Call (.Attribute o m apos) [] [] pos) (qej C m sp EK ta qdX):=by
 obtain ⟨f,fd,F,hm,hb⟩:=D.ex
 intro pins s σ H Q I h
 refine PySem.W.methodCall_KW (pl:=pl) (thn (he pins s σ H _ I h) fun u s1 ⟨x,H1,I1,rx,a,dx,fs,ex,ea,l,q⟩=>?_) ht
 subst ex
 obtain rfl:u=Value.ref a:=rx
 refine zi I1 ea D.cl hm l ?_
 exact PySem.W.callWith_K0 (first:=[.ref a]) I1.kIn hm.kp (qcM (us:=[.ref a]) (vs:=[.ref a]) F hr hb XX I1 (.cons rfl .nil) q)
theorem run_makeS {pins:List (Addr×Obj)} {σ:St} {H:Hp} {s:Shared} {Q:VK} {us:List Value} {vs:List V} (M:Mk X.K C f) (F:FnOk X.prog X.w X.K X.mg X.base (CX1 X.prog X.w) k f fd ps sp) (hr:Room (k + 1) X.A) (hb:Binds X.K fd ps []) (XX:XOk X EK)
  (I:Inv X pins σ H s) (r:Vals vs us) (h:∀ x dx,H x=none→H dx=none→dx≠x→sp (.ref x::vs) (upd (upd H dx (.own x)) x (.ins C dx [])) (fun v H2=>v=.non∧Q (.ref x) H2) (EK σ)) :
  wpAny (model X.prog X.w) X.A (call (.ref C) us) (EP X pins σ Q) X.xe s:=by
 have hq:=h (s.heap.objs.size + 1) s.heap.objs.size (I.hok.fresh (Nat.le_succ _)) (I.hok.fresh (Nat.le_refl _)) (Nat.ne_of_lt (Nat.lt_succ_self _))
 have I2:=Inv.made (C:=C) I
 have r2:Vals (V.ref (s.heap.objs.size + 1)::vs) (Value.ref (s.heap.objs.size + 1)::us):=.cons rfl r
 have hl:(Value.ref (s.heap.objs.size + 1)::us++[]).length=ps.length:=by
  have q:=r2.length
  rw [F.len _ _ _ _ hq] at q
  rw [List.append_nil]
  exact q.symm
 have b:=hb _ (Value.ref (s.heap.objs.size + 1)::us) I2.kIn hl
 rw [List.append_nil] at b
 refine wpAny_call (qda (f:=f) I.kIn M.makes M.init (beq_iff_eq.mp M.fn) (codeAny_mono (F.run _ X.stack _ _ ⟨Value.ref (s.heap.objs.size + 1)::us,[]⟩ (Value.ref (s.heap.objs.size + 1)::us) _ _ (EK σ) (hr.make C us [])
  (I2.env0.make C us []) b r2 hq) fun r s' hq'=>?_))
 cases r with
 | error e=>exact XX.pass pins σ _ _ e s' I2 hq'
 | ok fl =>
  cases fl with
  | ret u =>
   obtain ⟨v,H',I3,rv,ev,q3⟩:=I2.after hq'
   subst ev
   exact ⟨rv,⟨V.ref (s.heap.objs.size + 1),H',I3,rfl,q3⟩⟩
  | _=>exact False.elim hq'
theorem qbM (D:MakeOk X.prog X.w X.K X.mg X.base (CX1 X.prog X.w) k C x ps sp) (hr:Room (k + 1) X.A) (XX:XOk X EK) (ha:PA X (e::es) t) (hg:Gl X x:=by rfl) (hdb:(x==("__debug__":Str))=false:=by decide)
  (he:starEach (e::es) X.env=(false,eval e X.env)::starEach es X.env:=by rfl) (hpl:(backTo pos (starEach es X.env)).any (·.1)=false:=by rfl):PE X (.Call (.Name x p) (e::es) [] pos) (qfc C sp EK t):=by
 obtain ⟨f,fd,F,M,hb⟩:=D.ex
 intro pins s σ H Q I h
 refine wpAny_Call_Name_kw (zp I hg D.mg_ ?_ hdb)
 refine PySem.W.callWith_K (h₀:=X.base) I.ok.mod.kin M.kp (thn (ha pos pins s σ H _ I h) fun us s1 ⟨vs,H1,I1,r,q⟩=>⟨I1.kIn,?_⟩) he hpl
 exact run_makeS M F hr hb XX I1 r q
theorem qai (D:XMakeOk X.prog X.w X.K X.mg X.base k C x ps sp) (hr:Room (k + 1) X.A) (ha:PA X (e::es) t) (hg:Gl X x:=by rfl) (hdb:(x==("__debug__":Str))=false:=by decide)
  (he:starEach (e::es) X.env=(false,eval e X.env)::starEach es X.env:=by rfl) (hpl:(backTo pos (starEach es X.env)).any (·.1)=false:=by rfl):PE X (.Call (.Name x p) (e::es) [] pos) (qcl C sp E0 t):=by
 obtain ⟨f,fd,F,M,hb⟩:=D.ex
 exact pe_xmake M F hr hg D.mg_ hb qE ha hdb he hpl
theorem pe_xm0 (D:XMakeOk X.prog X.w X.K X.mg X.base k C x ps sp) (hr:Room (k + 1) X.A) (hg:Gl X x:=by rfl) (hdb:(x==("__debug__":Str))=false:=by decide):PE X (.Call (.Name x p) [] [] pos) (qcl C sp E0 qdX):=by
 obtain ⟨f,fd,F,M,hb⟩:=D.ex
 exact pe_xmake0 M F hr hg D.mg_ hb qE hdb
theorem j6 {pl:Sem Bool} (D:MethOk X.prog X.w X.K X.mg X.base CX0 k C m ps sp) (hr:Room k X.A) (he:PE X o ta) (ha:PA X (e::es) t)
  (hst:starEach (e::es) X.env=(false,eval e X.env)::starEach es X.env:=by rfl) (hpl:(backTo pos (starEach es X.env)).any (·.1)=false:=by rfl)
  (ht:eval (.Call (.Attribute o m apos) (e::es) [] pos) X.env=(do
   let ov ← eval o X.env
   standAt apos.atName
   let (f,first) ← holding [ov] (getMethod ov m pl)
   callWith pos f first (backTo pos (starEach (e::es) X.env)) (backToKw pos (keywordEach [] X.env))):=by rfl) :
  PE X (.Call (.Attribute o m apos) (e::es) [] pos) (qcH C m sp [] E0 ta t):=by
 obtain ⟨f,fd,F,hm,hb⟩:=D.ex
 exact pe_meth (pl:=pl) he D.cl hm F hr hb .nil qE ha hst hpl ht
theorem qB {pl:Sem Bool} (D:MethOk X.prog X.w X.K X.mg X.base CX0 k C m ps sp) (hr:Room k X.A) (he:PE X o ta)
  (ht:eval (.Call (.Attribute o m apos) [] [] pos) X.env=(do
   let ov ← eval o X.env
   standAt apos.atName
   let (f,first) ← holding [ov] (getMethod ov m pl)
   callWith pos f first (backTo pos (starEach [] X.env)) (backToKw pos (keywordEach [] X.env))):=by rfl) :
  PE X (.Call (.Attribute o m apos) [] [] pos) (qcH C m sp [] E0 ta qdX):=by
 obtain ⟨f,fd,F,hm,hb⟩:=D.ex
 exact pe_meth0 (pl:=pl) he D.cl hm F hr hb .nil qE ht
end
section
variable {P:Program} {w:World} {K:PySem.W.Frag} {mg:Str→Option Value} {base:Heap}
theorem Fun.ok1 {x qual:Str} {st:Stmt} {f:Addr} {fd:FuncData} {N ps:List Str} {k:Nat} {sp:Sp} (F:Fun K x qual st f fd) (S:FnScope N ps (qd st)) (len:∀ vs H Q E,sp vs H Q E→vs.length=ps.length)
  (hbody:∀ (cdv:Value) (A:Around) (outer:List Env) (s:Shared) (H:Hp) (vs:List V) (Q:VK) (E:XK),Room k (A.deeper (envOfC qual (qd st) s.heap.objs.size f cdv))→sp vs H Q E →
   ∃ t,PSs (qb9 (CX1 P w) P w K mg base N qual (qd st) f cdv A outer s H E) (qi st) t∧t { nx:=fun _ H'=>Q .non H',rt:=Q } (jV N vs) H):FnOk P w K mg base (CX1 P w) (k + 1) f fd ps sp:=by
 obtain ⟨oc,od,kV,doc,pm,an,cdv,ct,osl,rfl,lk,hcd⟩:=F.ex
 exact qf3 lk hcd S len fun A outer s H vs Q E hr hsp=>hbody cdv A outer s H vs Q E hr hsp
end
abbrev Cx.tried (X:Cx) (pn:List (Addr×Obj)) (E:Value→Shared→Prop):Cx:={ X with pn:=pn,xe:=E }
abbrev Cx.hand (X:Cx) (a:Addr):Cx:={ X with A:=X.A.mark (some (.ref a)),calm:=false,xe:=fun _ _=>False }
section
variable {X:Cx} {pins pins':List (Addr×Obj)} {σ:St} {H:Hp} {s:Shared} {E:Value→Shared→Prop} {a:Addr}
theorem Inv.tried (I:Inv X pins σ H s) (E:Value→Shared→Prop):Inv (X.tried (X.pn++pins) E) [] σ H s:=
 ⟨⟨I.ok.mod,I.ok.kind,I.ok.glob,I.ok.blt,I.ok.above,I.ok.inj,I.ok.has,I.ok.cab,I.ok.hd,I.ok.frames,I.ok.stk,I.ok.exf,I.ok.bs,I.ok.bsz,I.ok.noex,I.ok.exfs,I.ok.funs,I.ok.frf⟩,I.os,I.bare,I.base,I.loc,I.cell,I.free,I.freeC,
  fun p hp=>I.pin p (by have hp:p∈(X.pn++pins)++[]:=hp;rw [List.append_nil] at hp;exact hp),I.hok,I.len⟩
theorem Inv.untried (I:Inv (X.tried (X.pn++pins) E) pins' σ H s):Inv X pins σ H s:=
 ⟨⟨I.ok.mod,I.ok.kind,I.ok.glob,I.ok.blt,I.ok.above,I.ok.inj,I.ok.has,I.ok.cab,I.ok.hd,I.ok.frames,I.ok.stk,I.ok.exf,I.ok.bs,I.ok.bsz,I.ok.noex,I.ok.exfs,I.ok.funs,I.ok.frf⟩,I.os,I.bare,I.base,I.loc,I.cell,I.free,I.freeC,
  fun p hp=>I.pin p (List.mem_append_left _ hp),I.hok,I.len⟩
theorem Inv.hand (I:Inv X pins σ H s) (a:Addr):Inv (X.hand a) pins σ H s:=
 ⟨⟨I.ok.mod,I.ok.kind,I.ok.glob,I.ok.blt,I.ok.above,I.ok.inj,I.ok.has,I.ok.cab,(fun h=>nomatch h),I.ok.frames,I.ok.stk,I.ok.exf,I.ok.bs,I.ok.bsz,I.ok.noex,I.ok.exfs,I.ok.funs,I.ok.frf⟩,I.os,I.bare,I.base,I.loc,I.cell,I.free,I.freeC,I.pin,I.hok,I.len⟩
theorem Inv.unhand (hc:X.calm=true→X.A.handled=none) (I:Inv (X.hand a) pins σ H s):Inv X pins σ H s:=
 ⟨⟨I.ok.mod,I.ok.kind,I.ok.glob,I.ok.blt,I.ok.above,I.ok.inj,I.ok.has,I.ok.cab,hc,I.ok.frames,I.ok.stk,I.ok.exf,I.ok.bs,I.ok.bsz,I.ok.noex,I.ok.exfs,I.ok.funs,I.ok.frf⟩,I.os,I.bare,I.base,I.loc,I.cell,I.free,I.freeC,I.pin,I.hok,I.len⟩
structure Loose (X:Cx) (pins:List (Addr×Obj)) (H:Hp) (T:Addr):Prop where
 hn:H T=none
 lo:X.s₀.heap.objs.size≤T
 nl:T≠X.env.locals
 nf:T∉X.fs
 nc:∀ x c,X.env.cells.lookup x=some c→c≠T
 np:∀ p∈X.pn++pins,p.1≠T
theorem Inv.loose (I:Inv X pins σ H s) {T:Addr} (hT:s.heap.objs.size≤T) {H':Hp} (hn:H' T=none):Loose X pins H' T where
 hn:=hn
 lo:=Nat.le_trans I.sz hT
 nl:=Nat.ne_of_gt (Nat.lt_of_lt_of_le I.lt hT)
 nf:=I.nofs hT
 nc:=fun x c e=>by
  obtain ⟨v,o,ho,_⟩:=I.cell x c e
  exact Nat.ne_of_lt (Nat.lt_of_lt_of_le (Heap.lt_size ho) hT)
 np:=fun p hp=>Nat.ne_of_lt (Nat.lt_of_lt_of_le (Heap.lt_size (I.pin p hp).1) hT)
theorem Inv.noted {C T:Addr} {dx:Option Addr} {fl:Value} {zs:List Addr} {h':Heap} (I:Inv X pins σ H s) (ha:H a=some (XO a C dx)) (k:Keep (frs X.stack) zs s.heap h') (hz:∀ b∈zs,b=a∨Loose X pins H b) (t:Trc h' a (.ref C) dx T fl) :
  Inv X pins σ H { s with heap:=h' }:=by
 have hh:=qbL I ha k (fun b hb=>(hz b hb).imp (fun e=>e) fun l=>l.hn) t
 have nz:∀ b,H b=none→b∉zs.filter (fun b=>decide (b≠a))→b∉zs:=fun b n z y=>z (List.mem_filter.mpr ⟨y,decide_eq_true fun e=>by rw [e,ha] at n;cases n⟩)
 refine I.call (g':=s.gens) (t':=s.toks) (d':=s.drawn) (ch:=zs.filter fun b=>decide (b≠a)) ⟨fun b o e n hb hx=>k.keep b o e (nz b n hx) hb,fun b o e n hb hx=>k.slot b o e (nz b n hx) hb,fun _ _ _ n _=>n,fun b o e hx=>?_,fun _ _ e=>e,fun _ _ _ e=>e,
  fun b ps e=>⟨#[],by rw [e];simp⟩⟩ hh I.bare fun b hb=>?_
 ·by_cases hba:b=a
  ·subst hba
   obtain ⟨vs,q,_⟩:=t.ex
   exact ⟨_,q⟩
  ·have z:b∉zs:=fun y=>hx (List.mem_filter.mpr ⟨y,decide_eq_true hba⟩)
   by_cases hs:b∈frs X.stack
   ·obtain ⟨sl,q⟩:=k.slot b o e z hs
    exact ⟨_,q⟩
   ·exact ⟨o,k.keep b o e z hs⟩
 ·obtain ⟨y,q⟩:=List.mem_filter.mp hb
  rcases hz b y with e | l
  ·exact absurd e (of_decide_eq_true q)
  ·exact ⟨.inr l.lo,l.nl,l.nc,l.np⟩
theorem unbind_ok {M:Model} {A:Around} {i:Nat} {x:Str} {v:V} {Q:Unit→Shared→Prop} (I:Inv X pins σ H s) (hN:X.N.Nodup) (hi:X.N[i]?=some x) (hx:X.env.scope.names.lookup x=some .local) (hv:σ[i]?=some (some v))
  (h:∀ s',Inv X pins (σ.set i none) H s'→Q () s'):wpAny M A (unbindName X.env x) Q E s:=by
 obtain ⟨m,hn,hl⟩:=id I.loc
 obtain ⟨u,ru,lk⟩:=hl i x v hi hv (.inl hx)
 have hm:m x=some u:=by
  rcases lk with ⟨_,e⟩ | ⟨k,_⟩
  ·exact e
  ·have k':X.env.scope.names.lookup x=some .cell∨X.env.scope.names.lookup x=some .free:=k
   rw [hx] at k'
   rcases k' with z | z<;>cases z
 have hcls:(X.env.scope.kind==.class||(X.env.scope.kind==.module&&X.env.locals != X.env.globals))=false:=by rw [I.ok.kind];rfl
 refine wpAny_unbindName_local hx hn hm hcls fun h' u' hn' hs=>?_
 have lowL:∀ b o,X.s₀.heap.get? b=some o→b≠X.env.locals:=fun b o e=>Nat.ne_of_lt (Nat.lt_of_lt_of_le (Heap.lt_size e) I.ok.above)
 refine h _ ⟨I.ok,I.os,I.bare,⟨fun b o e n hb hx=>?_,fun b o e n hb hx=>?_,I.base.free,fun b o e hx=>?_,I.base.tups,I.base.frzs,I.base.tbls⟩,⟨_,hn',fun j y v' e1 e2 e3=>?_⟩,fun y c e=>?_,I.free,I.freeC,fun p hp=>?_,fun b ob e=>?_,by simpa using I.len⟩
 ·exact (hs.2 b (lowL b o e)).trans (I.base.keep b o e n hb hx)
 ·obtain ⟨sl,e1⟩:=I.base.slot b o e n hb hx
  exact ⟨sl,(hs.2 b (lowL b o e)).trans e1⟩
 ·obtain ⟨o',e1⟩:=I.base.there b o e hx
  exact ⟨o',(hs.2 b (lowL b o e)).trans e1⟩
 ·by_cases hj:j=i
  ·subst hj
   have hlt:j < σ.length:=by rw [I.len];exact (List.getElem?_eq_some_iff.mp hi).1
   rw [List.getElem?_set_self hlt] at e2
   cases e2
  ·rw [List.getElem?_set_ne (Ne.symm hj)] at e2
   obtain ⟨w',r',q⟩:=hl j y v' e1 e2 e3
   refine ⟨w',r',?_⟩
   rcases q with ⟨k,e⟩ | ⟨k,c,e,z⟩
   ·have ny:y≠x:=fun e=>hj (qbD hN e1 (e ▸ hi))
    exact .inl ⟨k,by simp [ny,e]⟩
   ·exact .inr ⟨k,c,e,z.sameBut hs (I.cne y c e)⟩
 ·obtain ⟨w',z⟩:=I.cell y c e
  exact ⟨w',z.sameBut hs (I.cne y c e)⟩
 ·obtain ⟨e,n,ne,nf,d⟩:=I.pin p hp
  exact ⟨(hs.2 p.1 ne).trans e,n,ne,nf,d⟩
 ·refine (I.hok b ob e).stay (fun c w' hc q=>(hs.2 c ?_).trans q) (fun _ q=>q) fun _ _ q=>q
  rintro rfl
  rcases hc with rfl | hc
  ·rw [I.free] at e;cases e
  ·rw [I.free] at hc;cases hc
end
structure Held (X:Cx) (pins:List (Addr×Obj)) (H:Hp) (h:Heap) (a C:Addr) (dx:Option Addr):Prop where
 at_:H a=some (XO a C dx)
 tr:∃ T,Trc h a (.ref C) dx T .none∧Loose X pins H T
def PH (X:Cx) (a C:Addr) (dx:Option Addr) (hs:List ExceptHandler) (th:TS):Prop:=
 ∀ (pins:List (Addr×Obj)) (s:Shared) (σ:St) (H:Hp) (D:Ends),Inv X pins σ H s→Held X pins H s.heap a C dx→th D σ H→wpAny (model X.prog X.w) X.A (handleBy (.ref a) X.env hs) (SP X pins D) X.xe s
def thNil:TS:=fun _ _ _=>False
def thAs (K:PySem.W.Frag) (a C D:Addr) (i:Nat) (tb rest:TS):TS:=fun Z σ H=>∃ b,PySem.W.mroIn K C (.ref D)=some b∧XAt K D∧XAt K C ∧
 if b=true then tb { nx:=fun σ' H'=>Z.nx (σ'.set i none) H',rt:=Z.rt,bk:=fun σ' H'=>Z.bk (σ'.set i none) H',ct:=fun σ' H'=>Z.ct (σ'.set i none) H' } (σ.set i (some (.ref a))) H else rest Z σ H
theorem qfd {M:Model} {A:Around} {E:Value→Shared→Prop} {s:Shared} {K:PySem.W.Frag} {a C D:Addr} {o:Obj} {b:Bool} {Q:Bool→Shared→Prop} (X:K.In s.heap) (ho:s.heap.get? a=some o) (hc:o.cls=.ref C) (d:XAt K D) (hb:PySem.W.mroIn K C (.ref D)=some b) (q:Q b s) :
  wpAny M A (excMatches (.ref a) (.ref D)) Q E s:=by
 obtain ⟨nm,qn,N,bs,bm,hdct,sn,sub,ab,col,dd,k0,k1,k2,k3,k5,hD,hm⟩:=qdl X d.xc
 have hcB:(Value.ref D::bm).contains (.type "BaseException")=true:=by rw [List.contains_cons,qaH hm (by simp),Bool.or_true]
 have f:=tc_notTuple
 have L:=PySem.W.looks_mroIn (M:=M) X hb
 obtain ⟨hp,g,dr,tk,os⟩:=s
 unfold excMatches
 repeat (first | with_reducible refine wpAny_loadPart_at hD ?_ | (with_reducible refine wpAny_loadPart_at ho ?_;rw [hc]) | (with_reducible refine wpAny_isSubtype_exc hD ?_;rw [hcB]) | with_reducible refine L.at ?_ | wp_step)
 cases b<;>(wp_walk;exact q)
section
variable {X:Cx} {a C D:Addr} {dx:Option Addr} {c n:Str} {cp pos:Pos} {b0:Stmt} {body:List Stmt} {rest:List ExceptHandler} {tb tr:TS} {i:Nat} {K:PySem.W.Frag}
theorem qdp:PH X a C dx [] thNil:=fun _ _ _ _ _ _ _ h=>h.elim
theorem suite_as {prog:Program} {w:World} {A:Around} {R:Result→Shared→Prop} {s:Shared} {env:Env} {e:Value}
  (h:wpAny (model prog w) A (setFlight e none) (fun _ s1=>wpAny (model prog w) A (bindName env n e) (fun _ s2=>wpAny (model prog w) A (execs (b0::body) env) (fun f s3=>R (.ok f) s3) (fun _ _=>False) s2) (fun _ _=>False) s1) (fun _ _=>False) s) :
  codeAny (model prog w) A (.handlers e [.ExceptHandler none (some n) (b0::body) pos] env) R s:=by
 refine codeAny_of_tree ?_
 show wpAny _ A (do return Fin.done (← (handleWith e env [.ExceptHandler none (some n) (b0::body) pos]).onRaise (fun x=>do noteFrame x env;theTreesLotGoes x))) _ _ s
 refine wpAny_bind (wpAny_noted ?_)
 unfold handleWith
 refine wpAny_bind (wpAny_standAt (wpAny_bind (wpAny_mono h (fun _ s1 h1=>wpAny_bind (wpAny_mono h1 (fun _ s2 h2=>wpAny_bind (wpAny_attempt (wpAny_mono h2 (fun f s3 h3=>wpAny_pure (wpAny_pure h3)) fun _ _ z=>z.elim))) fun _ _ z=>z.elim)) fun _ _ z=>z.elim)))
theorem qek (hK:X.K=K) (hN:X.N.Nodup) (hi:X.N[i]?=some n) (hx:X.env.scope.names.lookup n=some .local) (hg:Gl X c) (hm:X.mg c=some (.ref D)) (hb:PSs (X.hand a) (b0::body) tb) (hr:PH X a C dx rest tr)
  (hdb:(c==("__debug__":Str))=false:=by decide):PH X a C dx (.ExceptHandler (some (.Name c cp)) (some n) (b0::body) pos::rest) (thAs K a C D i tb tr):=by
 subst hK
 intro pins s σ H Z I hl h
 obtain ⟨b,hb1,xd,xc,q⟩:=h
 obtain ⟨vs,he⟩:=(show IsX H a C dx from .inr hl.at_).get I.hok
 refine wpAny_handleBy_cons (codeAny_handlers_test ?_) (by intro q;cases q)
 have Ih:=I.hand a
 refine zp (X:=X.hand a) Ih hg hm (qfd I.kIn he rfl xd hb1 ?_) hdb
 cases b with
 | false=>exact hr pins s σ H Z I hl q
 | true =>
  obtain ⟨T,t,lo⟩:=hl.tr
  refine suite_as (qbg t fun h1 t1 k1 sz1=>?_)
  have kk:Keep (frs X.stack) [T] s.heap h1:=⟨fun b o e z _=>k1 b o (by simpa using z) e,fun b o e z _=>⟨o.slots,k1 b o (by simpa using z) e⟩⟩
  have I1:=I.noted hl.at_ kk (fun b hb=>.inr (by rw [List.mem_singleton.mp hb];exact lo)) t1
  have I2:=I1.hand a
  refine wpAny_bindName (qa2 (X:=X.hand a) I2 hN hi (.inl hx) (v:=.ref a) rfl (fun s2 I3=>?_) (.inr hx))
  have q':tb { nx:=fun σ' H'=>Z.nx (σ'.set i none) H',rt:=Z.rt,bk:=fun σ' H'=>Z.bk (σ'.set i none) H',ct:=fun σ' H'=>Z.ct (σ'.set i none) H' } (σ.set i (some (.ref a))) H:=q
  refine thn (hb pins s2 _ H _ I3 q') fun f s3 hf=>?_
  have fin:∀ {σ':St} {H':Hp} {Q:Unit→Shared→Prop},Inv (X.hand a) pins σ' H' s3→(∀ s4,Inv X pins (σ'.set i none) H' s4→Q () s4)→wpAny (model X.prog X.w) X.A (do bindName X.env n .none;unbindBehindTheSuite X.env n pos) Q X.xe s3:=fun {σ' H' Q} J k=>by
   have J':=Inv.unhand I.ok.hd J
   have hlt:i < σ'.length:=by rw [J'.len];exact (List.getElem?_eq_some_iff.mp hi).1
   refine wpAny_bind (wpAny_bindName (qa2 J' hN hi (.inl hx) (v:=.non) rfl (fun s4 J4=>?_) (.inr hx)))
   refine wpAny_onRaise (unbind_ok J4 hN hi hx (v:=.non) (by rw [List.getElem?_set_self hlt]) fun s5 J5=>k s5 ?_)
   rw [List.set_set] at J5
   exact J5
  cases f with
  | next=>obtain ⟨σ',H',J,z⟩:=hf;exact fin J fun s4 J4=>⟨_,H',J4,z⟩
  | brk=>obtain ⟨σ',H',J,z⟩:=hf;exact fin J fun s4 J4=>⟨_,H',J4,z⟩
  | cont=>obtain ⟨σ',H',J,z⟩:=hf;exact fin J fun s4 J4=>⟨_,H',J4,z⟩
  | ret u=>obtain ⟨v,σ',H',J,r,z⟩:=hf;exact fin J fun s4 J4=>⟨v,_,H',J4,r,z⟩
end
def tTry (X:Cx) (body:List Stmt) (hs:List ExceptHandler) (te:TS):TS:=fun D σ H=>∃ (EK:St→XK) (tb:TS),(∀ pn xe,XOk (X.tried pn xe) EK→PSs (X.tried pn xe) body tb) ∧
 tb { nx:=te D,rt:=D.rt,bk:=D.bk,ct:=D.ct } σ H∧∀ (a C:Addr) (dx:Option Addr) (σ':St) (H':Hp),EK σ' (.ref C) dx H'→H' a=some (XO a C dx)→∃ th,PH X a C dx hs th∧th D σ' H'
section
variable {X:Cx} {body orelse:List Stmt} {h0:ExceptHandler} {hs:List ExceptHandler} {pos:Pos} {te:TS}
theorem qdq (hc:X.calm=true) (hst:X.stack=X.env::X.outer) (hfr:X.env.frame=some X.env.locals) (ho:PSs X orelse te):PS X (.Try body (h0::hs) orelse [] pos) (tTry X body (h0::hs) te):=by
 intro pins s σ H D I h
 obtain ⟨EK,tb,hb,q,hh⟩:=h
 have hfs:X.A.frames=some (X.env::X.outer):=by rw [← hst];exact I.ok.frames
 let xe':Value→Shared→Prop:=fun e s1=>∃ (a C:Addr) (dx:Option Addr) (σ':St) (H':Hp),e=.ref a∧Inv X pins σ' H' s1∧H' a=some (XO a C dx)∧EK σ' (.ref C) dx H' ∧
  ((∃ T,Trc s1.heap a (.ref C) dx T .none∧Loose X pins H' T)∨∃ a0,s1.heap.get? a=some ⟨.ref C,dx,.fields (xfs a0),#[]⟩)
 have XX:XOk (X.tried (X.pn++pins) xe') EK:=by
  refine ⟨fun pins' σ' H1 s1 e s2 J hx=>?_,fun pins' σ' H1 s1 a C dx J e z=>?_,hc⟩
  ·obtain ⟨a,C,dx,T,H',rfl,hos,hbr,un,hok,ha,t,hT,hTn,z⟩:=hx
   have J1:=J.call' (s':=s2) (H':=H') (ch:=[]) hos un hok hbr (fun b z=>absurd z (by simp))
   have J0:=Inv.untried J
   exact ⟨a,C,dx,σ',H',rfl,Inv.untried J1,ha,z,.inl ⟨T,t,J0.loose hT hTn⟩⟩
  ·have J0:=Inv.untried J
   obtain ⟨⟨a0,hx⟩,_⟩:=(show ObjOk _ _ H1 s1.heap a (XN a C dx) from J0.hok a _ e)
   have J1:Inv X pins σ' (upd H1 a (XO a C dx)) s1:=J0.write (x:=a) (e:=a) (o:=XO a C dx) (h':=s1.heap) (t':=s1.toks) (by rw [e];exact True.intro) (.inl rfl) (fun _ _ _ q=>q) ⟨_,hx⟩ (XO.ok hx)
   exact ⟨a,C,dx,σ',_,rfl,J1,qb,z,.inr ⟨a0,hx⟩⟩
 have B:=hb (X.pn++pins) xe' XX [] s σ H _ (I.tried xe') q
 refine wpAny_Try_except (wpAny_mono B (fun f s1 hf=>?_) fun e s1 he=>?_)
 ·cases f with
  | next=>obtain ⟨σ',H',J,z⟩:=hf;exact ho pins s1 σ' H' D (Inv.untried J) z
  | brk=>obtain ⟨σ',H',J,z⟩:=hf;exact ⟨σ',H',Inv.untried J,z⟩
  | cont=>obtain ⟨σ',H',J,z⟩:=hf;exact ⟨σ',H',Inv.untried J,z⟩
  | ret u=>obtain ⟨v,σ',H',J,r,z⟩:=hf;exact ⟨v,σ',H',Inv.untried J,r,z⟩
 ·obtain ⟨a,C,dx,σ',H',rfl,J,ha,z,tt⟩:=he
  obtain ⟨th,hp,hq⟩:=hh a C dx σ' H' z ha
  have stk:s1.heap.FunFrames X.base (X.env::X.outer):=by rw [← hst];exact J.stack
  have go:∀ (h':Heap) (T':Addr) (zs:List Addr),s1.heap.objs.size≤T'→Trc h' a (.ref C) dx T' (rawInt X.env.locals)→Keep (frs (X.env::X.outer)) zs s1.heap h'→(∀ b∈zs,b=a∨Loose X pins H' b) →
    wpAny (model X.prog X.w) X.A (setFlight (.ref a) none) (fun _ s3=>wpAny (model X.prog X.w) X.A (handleBy (.ref a) X.env (h0::hs)) (SP X pins D) X.xe s3) X.xe { s1 with heap:=h' }:=fun h' T' zs hs' t' k hz=>by
   have lo:=J.loose hs' (J.hok.fresh hs')
   have J1:=J.noted ha (by rw [hst];exact k) hz t'
   refine qbg (s:={ s1 with heap:=h' }) t' fun h2 t2 k2 sz2=>?_
   have kk:Keep (frs X.stack) [T'] h' h2:=⟨fun b o e z _=>k2 b o (by simpa using z) e,fun b o e z _=>⟨o.slots,k2 b o (by simpa using z) e⟩⟩
   have J2:=J1.noted ha kk (fun b hb=>.inr (by rw [List.mem_singleton.mp hb];exact lo)) t2
   exact hp pins _ σ' H' D J2 ⟨ha,T',t2,lo⟩ hq
  rcases tt with ⟨T,t,lo⟩ | ⟨a0,hx⟩
  ·refine qdo (base:=X.base) hfs stk hfr t fun h' T' hs' t' k=>go h' T' _ hs' t' k fun b hb=>?_
   simp only [List.mem_cons,List.not_mem_nil,or_false] at hb
   rcases hb with rfl | rfl
   ·exact .inl rfl
   ·exact .inr lo
  ·refine qcn (base:=X.base) hfs stk hfr hx rfl rfl fun h' T' hs' t' k=>go h' T' _ hs' t' k fun b hb=>?_
   exact .inl (List.mem_singleton.mp hb)
end
def TyX (K:PySem.W.Frag) (H:Hp) (x:V) (t:Value):Prop:=TyOf K H x t∨∃ a C dx,x=.ref a∧t=.ref C∧IsX H a C dx∧XAt K C∧∀ d,dx=some d→∃ fs,H d=some (.xd fs)
theorem TyX.kit {X:Cx} {pins:List (Addr×Obj)} {σ:St} {H:Hp} {s:Shared} {x:V} {u t:Value} (I:Inv X pins σ H s) (rx:RelV x u) (ty:TyX X.K H x t):∃ P:Heap→Prop,PySem.W.KitX X.K u t P∧P s.heap∧u≠.builtin "__main__.__loader__#opaque":=by
 rcases ty with ty | ⟨a,C,dx,rfl,rfl,hx,c,hd⟩
 ·exact ty.kit I rx
 ·cases rx
  obtain ⟨vs,he⟩:=hx.get I.hok
  cases dx with
  | none=>exact ⟨_,qdm (od:=none) c,⟨he,rfl,rfl,True.intro⟩,fun z=>nomatch z⟩
  | some d =>
   obtain ⟨fs,hf⟩:=hd d rfl
   obtain ⟨od,mA,h1,_⟩:=qe6 I hf
   exact ⟨_,qdm (od:=some od) c,⟨he,rfl,rfl,h1⟩,fun z=>nomatch z⟩
def qgf (K:PySem.W.Frag):List V→Hp→VK→Prop:=fun xs H Q=>∃ x y t c b,xs=[x,y]∧TyX K H x t∧qch y=some c∧PySem.W.kitOne K t c=some b∧Q (.bl b) H
def qfe (K:PySem.W.Frag):List V→Hp→VK→Prop:=fun xs H Q=>∃ x p ys t cs b,xs=[x,.ref p]∧TyX K H x t∧H p=some (.tup ys)∧ys.map qch=cs.map some∧PySem.W.kitAny K t cs=some b∧Q (.bl b) H
section
variable {X:Cx} {K:PySem.W.Frag}
theorem qdr (hK:X.K=K):zE X (.builtin "isinstance") (qgf K):=by
 subst hK
 intro pins s σ H xs us Q I r h
 obtain ⟨x,y,t,c,b,rfl,ty,hy,hb,q⟩:=h
 obtain ⟨u,v,rfl,ru,rv⟩:=qd5 r
 have e:=qbx hy rv
 subst e
 obtain ⟨P,Z,p,ne⟩:=ty.kit I ru
 exact PySem.W.kia_one Z I.kIn p hb ne fun tk=>⟨.bl b,H,I.tok tk,rfl,q⟩
theorem qbh (hK:X.K=K):zE X (.builtin "isinstance") (qfe K):=by
 subst hK
 intro pins s σ H xs us Q I r h
 obtain ⟨x,p,ys,t,cs,b,rfl,ty,hp,hy,hb,q⟩:=h
 obtain ⟨u,v,rfl,ru,rv⟩:=qd5 r
 cases rv
 obtain ⟨P,Z,pz,ne⟩:=ty.kit I ru
 obtain ⟨_,its,rv,o,ho,hc,n,hd⟩:=(show ObjOk X.prog X.w H s.heap p (.tup ys) from I.hok p _ hp)
 have e:=qbf hy rv
 subst e
 obtain ⟨c,dd,dt,sl⟩:=o
 have hc':c=.type "tuple":=hc
 have hd':dt=.seq its.toArray n:=hd
 subst hc' hd'
 exact PySem.W.kia_tup Z I.kIn pz ho hb ne fun tk=>⟨.bl b,H,I.tok tk,rfl,q⟩
end
mutual
inductive EqD (K:PySem.W.Frag) (H:Hp):Nat→V→V→Bool→Prop
 | flat {n:Nat} {x y:V} (fx:zB x=true) (fy:zB y=true):EqD K H n x y (eqV x y)
 | self {n:Nat} {a:Addr}:EqD K H n (.ref a) (.ref a) true
 | deep {n:Nat} {a b:Addr} {k:Bool} (h:EqT K H n a b k) (ne:a≠b):EqD K H n (.ref a) (.ref b) k
inductive EqT (K:PySem.W.Frag) (H:Hp):Nat→Addr→Addr→Bool→Prop
 | lst {n:Nat} {a b:Addr} {xs ys:List V} {e:Nat→Bool} (ha:SqL K H a xs) (hb:SqL K H b ys) (hl:xs.length=ys.length) (he:∀ j x y,xs[j]?=some x→ys[j]?=some y→EqD K H n x y (e j)):EqT K H (n + 1) a b ((List.range xs.length).all e)
 | lstL {n:Nat} {a b:Addr} {xs ys:List V} (ha:SqL K H a xs) (hb:SqL K H b ys) (hl:xs.length≠ys.length):EqT K H (n + 1) a b false
 | tup {n:Nat} {a b:Addr} {xs ys:List V} {e:Nat→Bool} (ha:SqT K H a xs) (hb:SqT K H b ys) (he:∀ j x y,xs[j]?=some x→ys[j]?=some y→EqD K H n x y (e j)):EqT K H (n + 1) a b ((List.range (min xs.length ys.length)).all e&&xs.length==ys.length)
 | lt {n:Nat} {a b:Addr} {xs ys:List V} (ha:SqL K H a xs) (hb:SqT K H b ys):EqT K H (n + 1) a b false
 | tl {n:Nat} {a b:Addr} {xs ys:List V} (ha:SqT K H a xs) (hb:SqL K H b ys):EqT K H (n + 1) a b false
end
theorem jr:∀ {xs:List V} {us:List Value} {j:Nat} {u:Value},Vals xs us→us[j]?=some u→∃ x,xs[j]?=some x∧RelV x u
 | _,_,_,_,.nil,e=>by simp at e
 | _,_,0,_,.cons r _,e=>by simp at e;subst e;exact ⟨_,rfl,r⟩
 | _,_,j + 1,u,.cons _ t,e=>by
  obtain ⟨x,h1,h2⟩:=jr (j:=j) (u:=u) t (by simpa using e)
  exact ⟨x,by simpa using h1,h2⟩
section
variable {X:Cx} {pins:List (Addr×Obj)} {σ:St} {H:Hp} {s:Shared}
theorem qcN (I:Inv X pins σ H s):∀ n,(∀ (A:Around) (x y:V) (k:Bool) (u v:Value),EqD X.K H n x y k→RelV x u→RelV y v→A.units + n < cLine→SeqAt.EqAt A s u v k)∧(∀ (A:Around) (a b:Addr) (k:Bool),EqT X.K H n a b k→A.units + n < cLine→SeqAt.RcAt A s (.ref a) (.ref b) k):=by
 intro n
 induction n with
 | zero =>
  have t0:∀ (A:Around) (a b:Addr) (k:Bool),EqT X.K H 0 a b k→A.units + 0 < cLine→SeqAt.RcAt A s (.ref a) (.ref b) k:=fun A a b k h=>by cases h
  refine ⟨fun A x y k u v h rx ry hu=>?_,t0⟩
  cases h with
  | flat fx fy=>exact qd8 rx ry fx fy
  | self=>cases rx;cases ry;exact SeqAt.EqAt.same _
  | deep h ne=>cases h
 | succ n ih =>
  have t1:∀ (A:Around) (a b:Addr) (k:Bool),EqT X.K H (n + 1) a b k→A.units + (n + 1) < cLine→SeqAt.RcAt A s (.ref a) (.ref b) k:=fun A a b k h hu=>by
   have hu0:A.units < cLine:=by omega
   have hu1:A.in1.units + n < cLine:=by show A.units + 1 + n < cLine;omega
   cases h with
   | @lst _ _ _ xs ys e ha hb hl he =>
    obtain ⟨its,r,pl,hz⟩:=I.list ha
    obtain ⟨its2,r2,pl2,hz2⟩:=I.list hb
    have e1:xs.length=its.toArray.size:=by rw [List.size_toArray];exact r.length
    have e2:ys.length=its2.toArray.size:=by rw [List.size_toArray];exact r2.length
    rw [e1]
    refine SeqAt.RcAt.lists pl.isList pl2.isList (by rw [← e1,← e2,hl]) hu0 fun j h1 h2=>?_
    have g1:its[j]?=some its.toArray[j]:=by simp
    have g2:its2[j]?=some its2.toArray[j]:=by simp
    obtain ⟨x,hx,rx⟩:=jr r g1
    obtain ⟨y,hy,ry⟩:=jr r2 g2
    exact ih.1 A.in1 x y (e j) _ _ (he j x y hx hy) rx ry hu1
   | @lstL _ _ _ xs ys ha hb hl =>
    obtain ⟨its,r,pl,hz⟩:=I.list ha
    obtain ⟨its2,r2,pl2,hz2⟩:=I.list hb
    refine SeqAt.RcAt.lists_lengths pl.isList pl2.isList ?_ hu0
    rw [List.size_toArray,List.size_toArray,← r.length,← r2.length]
    simp [hl]
   | @tup _ _ _ xs ys e ha hb he =>
    obtain ⟨its,r,pl,hz⟩:=I.tuple ha
    obtain ⟨its2,r2,pl2,hz2⟩:=I.tuple hb
    have e1:xs.length=its.toArray.size:=by rw [List.size_toArray];exact r.length
    have e2:ys.length=its2.toArray.size:=by rw [List.size_toArray];exact r2.length
    rw [e1,e2]
    refine SeqAt.RcAt.tuples pl pl2 hu0 fun j h1 h2=>?_
    have g1:its[j]?=some its.toArray[j]:=by simp
    have g2:its2[j]?=some its2.toArray[j]:=by simp
    obtain ⟨x,hx,rx⟩:=jr r g1
    obtain ⟨y,hy,ry⟩:=jr r2 g2
    exact ih.1 A.in1 x y (e j) _ _ (he j x y hx hy) rx ry hu1
   | lt ha hb =>
    obtain ⟨its,r,pl,hz⟩:=I.list ha
    obtain ⟨its2,r2,pl2,hz2⟩:=I.tuple hb
    exact SeqAt.RcAt.list_tuple pl.isList pl2 hu0
   | tl ha hb =>
    obtain ⟨its,r,pl,hz⟩:=I.tuple ha
    obtain ⟨its2,r2,pl2,hz2⟩:=I.list hb
    exact SeqAt.RcAt.tuple_list pl pl2.isList hu0
  refine ⟨fun A x y k u v h rx ry hu=>?_,t1⟩
  cases h with
  | flat fx fy=>exact qd8 rx ry fx fy
  | self=>cases rx;cases ry;exact SeqAt.EqAt.same _
  | deep h ne=>cases rx;cases ry;exact SeqAt.EqAt.of_refs ne (t1 A _ _ k h hu)
theorem ne_refs (I:Inv X pins σ H s) {n:Nat} {A:Around} {a b:Addr} {k:Bool} (h:EqT X.K H n a b k) (hu:A.units + n < cLine):SeqAt.RcNeAt A s (.ref a) (.ref b) (!k):=by
 cases n with
 | zero=>cases h
 | succ n =>
  have ih:=qcN I n
  have hu0:A.units < cLine:=by omega
  have hu1:A.in1.units + n < cLine:=by show A.units + 1 + n < cLine;omega
  cases h with
  | @lst _ _ _ xs ys e ha hb hl he =>
   obtain ⟨its,r,pl,hz⟩:=I.list ha
   obtain ⟨its2,r2,pl2,hz2⟩:=I.list hb
   have e1:xs.length=its.toArray.size:=by rw [List.size_toArray];exact r.length
   have e2:ys.length=its2.toArray.size:=by rw [List.size_toArray];exact r2.length
   rw [e1]
   refine SeqAt.RcNeAt.lists pl.isList pl2.isList (by rw [← e1,← e2,hl]) hu0 fun j h1 h2=>?_
   obtain ⟨x,hx,rx⟩:=jr r (show its[j]?=some its.toArray[j] by simp)
   obtain ⟨y,hy,ry⟩:=jr r2 (show its2[j]?=some its2.toArray[j] by simp)
   exact ih.1 A.in1 x y (e j) _ _ (he j x y hx hy) rx ry hu1
  | @lstL _ _ _ xs ys ha hb hl =>
   obtain ⟨its,r,pl,hz⟩:=I.list ha
   obtain ⟨its2,r2,pl2,hz2⟩:=I.list hb
   refine SeqAt.RcNeAt.lists_lengths pl.isList pl2.isList ?_ hu0
   rw [List.size_toArray,List.size_toArray,← r.length,← r2.length]
   simp [hl]
  | @tup _ _ _ xs ys e ha hb he =>
   obtain ⟨its,r,pl,hz⟩:=I.tuple ha
   obtain ⟨its2,r2,pl2,hz2⟩:=I.tuple hb
   have e1:xs.length=its.toArray.size:=by rw [List.size_toArray];exact r.length
   have e2:ys.length=its2.toArray.size:=by rw [List.size_toArray];exact r2.length
   rw [e1,e2]
   refine SeqAt.RcNeAt.tuples pl pl2 hu0 fun j h1 h2=>?_
   obtain ⟨x,hx,rx⟩:=jr r (show its[j]?=some its.toArray[j] by simp)
   obtain ⟨y,hy,ry⟩:=jr r2 (show its2[j]?=some its2.toArray[j] by simp)
   exact ih.1 A.in1 x y (e j) _ _ (he j x y hx hy) rx ry hu1
  | lt ha hb =>
   obtain ⟨its,r,pl,hz⟩:=I.list ha
   obtain ⟨its2,r2,pl2,hz2⟩:=I.tuple hb
   exact SeqAt.RcNeAt.list_tuple pl.isList pl2 hu0
  | tl ha hb =>
   obtain ⟨its,r,pl,hz⟩:=I.tuple ha
   obtain ⟨its2,r2,pl2,hz2⟩:=I.list hb
   exact SeqAt.RcNeAt.tuple_list pl pl2.isList hu0
theorem qff {A:Around} {x y:V} {u v:Value} (rx:RelV x u) (ry:RelV y v) (fx:zB x=true) (fy:zB y=true):SeqAt.RcAt A s u v (eqV x y)∧SeqAt.RcNeAt A s u v (!eqV x y):=by
 cases x with
 | non =>
  cases rx
  cases y with
  | non=>cases ry;exact ⟨SeqAt.RcAt.none_none,SeqAt.RcNeAt.none_none⟩
  | bl b=>cases ry;exact ⟨SeqAt.RcAt.none_bool b,SeqAt.RcNeAt.none_bool b⟩
  | int b=>obtain ⟨t,rfl⟩:=ry;exact ⟨SeqAt.RcAt.none_int b t,SeqAt.RcNeAt.none_int b t⟩
  | str b=>obtain ⟨t,rfl⟩:=ry;exact ⟨SeqAt.RcAt.none_str b t,SeqAt.RcNeAt.none_str b t⟩
  | _=>cases fy
 | bl a =>
  cases rx
  cases y with
  | non=>cases ry;exact ⟨SeqAt.RcAt.bool_none a,SeqAt.RcNeAt.bool_none a⟩
  | bl b=>cases ry;exact ⟨SeqAt.RcAt.bool_bool a b,SeqAt.RcNeAt.bool_bool a b⟩
  | int b=>obtain ⟨t,rfl⟩:=ry;exact ⟨SeqAt.RcAt.bool_int a b t,SeqAt.RcNeAt.bool_int a b t⟩
  | str b=>obtain ⟨t,rfl⟩:=ry;exact ⟨SeqAt.RcAt.bool_str a b t,SeqAt.RcNeAt.bool_str a b t⟩
  | _=>cases fy
 | int a =>
  obtain ⟨t',rfl⟩:=rx
  cases y with
  | non=>cases ry;exact ⟨SeqAt.RcAt.int_none a t',SeqAt.RcNeAt.int_none a t'⟩
  | bl b=>cases ry;exact ⟨SeqAt.RcAt.int_bool a t' b,SeqAt.RcNeAt.int_bool a t' b⟩
  | int b=>obtain ⟨t,rfl⟩:=ry;exact ⟨SeqAt.RcAt.int_int a t' b t,SeqAt.RcNeAt.int_int a t' b t⟩
  | str b=>obtain ⟨t,rfl⟩:=ry;exact ⟨SeqAt.RcAt.int_str a t' b t,SeqAt.RcNeAt.int_str a t' b t⟩
  | _=>cases fy
 | str a =>
  obtain ⟨t',rfl⟩:=rx
  cases y with
  | non=>cases ry;exact ⟨SeqAt.RcAt.str_none a t',SeqAt.RcNeAt.str_none a t'⟩
  | bl b=>cases ry;exact ⟨SeqAt.RcAt.str_bool a t' b,SeqAt.RcNeAt.str_bool a t' b⟩
  | int b=>obtain ⟨t,rfl⟩:=ry;exact ⟨SeqAt.RcAt.str_int a t' b t,SeqAt.RcNeAt.str_int a t' b t⟩
  | str b=>obtain ⟨t,rfl⟩:=ry;exact ⟨SeqAt.RcAt.str_str a t' b t,SeqAt.RcNeAt.str_str a t' b t⟩
  | _=>cases fy
 | _=>cases fx
end
def qgg (K:PySem.W.Frag) (neg:Bool):R2:=fun x y H Q=>(zB x=true∧zB y=true∧Q (.bl (if neg then !eqV x y else eqV x y)) H) ∨
 (∃ a b k n,x=.ref a∧y=.ref b∧n≤60∧EqT K H n a b k∧Q (.bl (if neg then !k else k)) H) ∨
 (∃ a kvs,x=.ref a∧y=.ref a∧H a=some (.dK kvs)∧Q (.bl (!neg)) H)
theorem qbi {κ:Type} [DecidableEq κ]:∀ {kb:List (κ×Value)} {k:κ} {v:Value},(kb.map (·.1)).Nodup→(k,v)∈kb→valueAt kb k=some v
 | [],_,_,_,h=>by cases h
 | (k',v')::r,k,v,hn,h=>by
  obtain ⟨h1,h2⟩:=List.nodup_cons.mp (show (k'::r.map (·.1)).Nodup from hn)
  unfold valueAt
  rw [List.find?_cons]
  by_cases e:k'=k
  ·subst e
   simp only [decide_true]
   rcases List.mem_cons.mp h with z | z
   ·cases z;rfl
   ·exact absurd (List.mem_map.mpr ⟨(k',v),z,rfl⟩) h1
  ·simp only [e,decide_false]
   rcases List.mem_cons.mp h with z | z
   ·cases z;exact absurd rfl e
   ·exact qbi h2 z
theorem qcO {A:Around} {s:Shared} {κ:Type} [DecidableEq κ] (kb:List (κ×Value)) (hn:(kb.map (·.1)).Nodup):∀ ka:List (κ×Value),(∀ p∈ka,p∈kb)→PySem.W.KeqHits A s kb ka true
 | [],_=>.nil
 | (k,v)::r,h=>by
  have hv:valueAt kb k=some v:=qbi hn (h (k,v) List.mem_cons_self)
  exact .hit (e:=true) (b:=true) hv (SeqAt.EqAt.same v) (qcO kb hn r fun p hp=>h p (List.mem_cons_of_mem _ hp))
section
variable {X:Cx} {K:PySem.W.Frag}
theorem k_eqU (hK:X.K=K) (hu:X.A.units + 100 < cLine):OpR X (compareOp .Eq) (qgg K false):=by
 subst hK
 intro pins s σ H x y u v Q I rx ry h
 rcases h with ⟨fx,fy,q⟩ | ⟨a,b,k,n,rfl,rfl,hn,e,q⟩ | ⟨a,kvs,rfl,rfl,ea,q⟩
 ·exact (qff rx ry fx fy).1 _ _ _ _ ⟨.bl _,H,I,rfl,q⟩
 ·cases rx;cases ry
  exact (qcN I n).2 X.A a b k e (by omega) _ _ _ _ ⟨.bl _,H,I,rfl,q⟩
 ·cases rx;cases ry
  obtain ⟨_,hs,vs,r,d⟩:=(show ObjOk X.prog X.w H s.heap a (.dK kvs) from I.hok a _ ea)
  obtain ⟨_,_,_,_,_,_,_,_,nd⟩:=id d
  refine PySem.W.keq_eq hs hs d d (by omega) (fun _=>qcO vs nd vs fun _ h=>h) ?_
  rw [beq_self_eq_true]
  exact ⟨.bl true,H,I,rfl,q⟩
theorem qas (hK:X.K=K) (hu:X.A.units + 100 < cLine):OpR X (compareOp .NotEq) (qgg K true):=by
 subst hK
 intro pins s σ H x y u v Q I rx ry h
 rcases h with ⟨fx,fy,q⟩ | ⟨a,b,k,n,rfl,rfl,hn,e,q⟩ | ⟨a,kvs,rfl,rfl,ea,q⟩
 ·exact (qff rx ry fx fy).2 _ _ _ _ ⟨.bl _,H,I,rfl,q⟩
 ·cases rx;cases ry
  exact ne_refs I e (by omega) _ _ _ _ ⟨.bl _,H,I,rfl,q⟩
 ·cases rx;cases ry
  obtain ⟨_,hs,vs,r,d⟩:=(show ObjOk X.prog X.w H s.heap a (.dK kvs) from I.hok a _ ea)
  obtain ⟨_,_,_,_,_,_,_,_,nd⟩:=id d
  refine PySem.W.keq_ne hs hs d d (by omega) (fun _=>qcO vs nd vs fun _ h=>h) ?_
  rw [beq_self_eq_true]
  exact ⟨.bl false,H,I,rfl,q⟩
end
section
variable {X:Cx} {K:PySem.W.Frag}
def qgh (K:PySem.W.Frag):R2:=fun x y H Q=>rIx K x y H Q∨∃ a v,x=.ref a∧DGet H a y (some v)∧Q v H
theorem qP (hK:X.K=K) (hu:X.A.units + 100 < cLine):IxR X (qgh K):=by
 subst hK
 refine IxR.or ix_seq ?_
 intro value slice pins s σ H x y v u Q I rx ry h hs
 obtain ⟨a,z,rfl,g,q⟩:=h
 cases rx
 exact tail_any (dict_typeIs I g) PySem.F.slot_dict_getitem.lookup (d_getItem (by omega) I g ry fun w' s3 I3 rw'=>⟨z,H,I3,rw',q⟩) hs
def rSetU:qf0:=fun o i v H Q=>qfG o i v H Q∨∃ a H',o=.ref a∧DPut H a i v H'∧Q H'
theorem qel (hu:X.A.units + 100 < cLine):qgR X rSetU:=by
 intro pins s σ H o i v ov iv u Q I ro ri rv h
 rcases h with h | ⟨a,H',rfl,g,q⟩
 ·exact set_list pins s σ H o i v ov iv u Q I ro ri rv h
 ·cases ro
  exact d_setItem (by omega) I g ri rv fun s' I'=>⟨H',I',q⟩
def qgJ (K:PySem.W.Frag) (neg:Bool):R2:=fun x y H Q=>rIn K neg x y H Q∨(∃ a o,y=.ref a∧DGet H a x o∧Q (.bl (if neg then !o.isSome else o.isSome)) H) ∨
 (∃ p xs e n,y=.ref p∧SqL K H p xs∧n≤60∧(∀ z∈xs,EqD K H n z x (e z))∧Q (.bl (if neg then !xs.any e else xs.any e)) H)
theorem qfg {pins:List (Addr×Obj)} {σ:St} {H:Hp} {s:Shared} {xs:List V} {its:List Value} {x:V} {u:Value} {e:V→Bool} {n:Nat} {A:Around} (I:Inv X pins σ H s) (r:Vals xs its) (rx:RelV x u) (hu:A.units + n < cLine) (he:∀ z∈xs,EqD X.K H n z x (e z)) :
  ∃ e':Value→Bool,(∀ w,w∈its.toArray→SeqAt.EqAt A s w u (e' w))∧its.toArray.any e'=xs.any e:=by
 classical
 refine ⟨fun w=>decide (∃ z∈xs,RelV z w∧e z=true),fun w hw=>?_,?_⟩
 ·have hw':w∈its:=by simpa using hw
  obtain ⟨j,hj⟩:=List.mem_iff_getElem?.mp hw'
  obtain ⟨z,hz,rz⟩:=jr r hj
  have hm:=List.mem_of_getElem? hz
  have eq:decide (∃ z∈xs,RelV z w∧e z=true)=e z:=by
   cases q:e z with
   | true=>exact decide_eq_true ⟨z,hm,rz,q⟩
   | false =>
    refine decide_eq_false fun ⟨z',_,rz',q'⟩=>?_
    rw [RelV.inj rz' rz,q] at q'
    cases q'
  show SeqAt.EqAt A s w u (decide (∃ z∈xs,RelV z w∧e z=true))
  rw [eq]
  exact (qcN I n).1 A z x (e z) w u (he z hm) rz rx hu
 ·rw [Bool.eq_iff_iff,List.any_eq_true]
  constructor
  ·intro h
   have h':its.any (fun w=>decide (∃ z∈xs,RelV z w∧e z=true))=true:=by simpa using h
   obtain ⟨w,_,q⟩:=List.any_eq_true.mp h'
   obtain ⟨z,hz,_,ez⟩:=of_decide_eq_true q
   exact ⟨z,hz,ez⟩
  ·rintro ⟨z,hz,ez⟩
   obtain ⟨j,hj⟩:=List.mem_iff_getElem?.mp hz
   obtain ⟨w,hw,rz⟩:=r.get hj
   have:its.any (fun w=>decide (∃ z∈xs,RelV z w∧e z=true))=true:=List.any_eq_true.mpr ⟨w,List.mem_of_getElem? hw,decide_eq_true ⟨z,hz,rz,ez⟩⟩
   simpa using this
theorem qem (hK:X.K=K) (hu:X.A.units + 100 < cLine):OpR X (compareOp .In) (qgJ K false):=by
 subst hK
 intro pins s σ H x y u v Q I rx ry h
 rcases h with h | ⟨a,o,rfl,g,q⟩ | ⟨p,xs,e,n,rfl,hl,hn,he,q⟩
 ·exact op_in_seq pins s σ H x y u v Q I rx ry h
 ·cases ry
  exact d_in (by omega) I g rx fun s' I'=>⟨.bl _,H,I',rfl,q⟩
 ·cases ry
  obtain ⟨its,r,pl,hz⟩:=I.list hl
  obtain ⟨e',h1,h2⟩:=qfg (A:=X.A.in1) I r rx (by show X.A.units + 1 + n < cLine;omega) he
  exact SeqAt.in_listAt e' pl.isList h1 (by rw [h2];exact ⟨.bl _,H,I,rfl,q⟩)
theorem zg (hK:X.K=K) (hu:X.A.units + 100 < cLine):OpR X (compareOp .NotIn) (qgJ K true):=by
 subst hK
 intro pins s σ H x y u v Q I rx ry h
 rcases h with h | ⟨a,o,rfl,g,q⟩ | ⟨p,xs,e,n,rfl,hl,hn,he,q⟩
 ·exact op_notIn_seq pins s σ H x y u v Q I rx ry h
 ·cases ry
  exact d_notIn (by omega) I g rx fun s' I'=>⟨.bl _,H,I',rfl,q⟩
 ·cases ry
  obtain ⟨its,r,pl,hz⟩:=I.list hl
  obtain ⟨e',h1,h2⟩:=qfg (A:=X.A.in1) I r rx (by show X.A.units + 1 + n < cLine;omega) he
  exact SeqAt.notIn_listAt e' pl.isList h1 (by rw [h2];exact ⟨.bl _,H,I,rfl,q⟩)
def rListU (K:PySem.W.Frag):List V→Hp→VK→Prop:=fun xs H Q=>(∃ p ys,xs=[.ref p]∧(SqL K H p ys∨SqT K H p ys)∧∀ l,H l=none→Q (.ref l) (upd H l (.lst ys))) ∨
 (∃ p kvs,xs=[.ref p]∧H p=some (.dK kvs)∧∀ l,H l=none→Q (.ref l) (upd H l (.lst (kvs.map fun kv=>kV kv.1)))) ∨
 (∃ x,xs=[.str x]∧x.length≤1000∧∀ l,H l=none→Q (.ref l) (upd H l (.lst (x.cps.toList.map fun c=>.str ⟨#[c]⟩))))
theorem qby {α β:Type} {F:α→β→Prop}:∀ {l:List α} {m:List β} {j:Nat} {a:α},Paired F l m→l[j]?=some a→∃ b,m[j]?=some b∧F a b
 | _,_,_,_,.nil,e=>by simp at e
 | _,_,0,_,.cons r _,e=>by simp at e;subst e;exact ⟨_,rfl,r⟩
 | _,_,j + 1,a,.cons _ t,e=>by
  obtain ⟨b,h1,h2⟩:=qby (j:=j) (a:=a) t (by simpa using e)
  exact ⟨b,by simpa using h1,h2⟩
theorem qaS:∀ {ys:List V} {us:List Value},ys.length=us.length→(∀ (j:Nat) y u,ys[j]?=some y→us[j]?=some u→RelV y u)→Vals ys us
 | [],[],_,_=>.nil
 | [],_::_,h,_=>by cases h
 | _::_,[],h,_=>by cases h
 | y::ys,u::us,h,q=>.cons (q 0 y u rfl rfl) (qaS (Nat.succ.inj h) fun j y' u' h1 h2=>q (j + 1) y' u' (by simpa using h1) (by simpa using h2))
theorem qbN (hK:X.K=K) (hc:X.calm=true):zE X (.type "list") (rListU K):=by
 subst hK
 intro pins s σ H xs us Q I r h
 rcases h with h | ⟨p,kvs,rfl,ea,q⟩ | ⟨x,rfl,hx,q⟩
 ·exact call_list_of pins s σ H xs us Q I r h
 ·obtain ⟨u,rfl,ru⟩:=qbb r
  cases ru
  obtain ⟨hz,hs,vs,rv,d⟩:=(show ObjOk X.prog X.w H s.heap p (.dK kvs) from I.hok p _ ea)
  obtain ⟨ep,hat⟩:=d.dictAt
  have hl:kvs.length=vs.length:=rv.length
  refine PySem.W.kdl_call (PySem.W.kdl_dict (knd:=jD X.prog X.w) (kvs:=vs) (ep:=ep) hs) (I.ok.hd hc) hat (by rw [← hl];exact hz) fun h' tk acc' c' kp e it=>?_
  obtain ⟨i1,i2⟩:=it
  have hv:Vals (kvs.map fun kv=>kV kv.1) acc'.toList:=by
   refine qaS (by rw [List.length_map,hl,← i1];simp) fun j y u h1 h2=>?_
   obtain ⟨k,x,h3,h4⟩:=i2 j u (by simpa using h2)
   rw [List.getElem?_map] at h1
   cases q1:kvs[j]? with
   | none=>rw [q1] at h1;cases h1
   | some kv =>
    rw [q1] at h1
    cases h1
    obtain ⟨q2,h5,h6,h7⟩:=qby rv q1
    rw [h3] at h5
    cases h5
    have e1:kv.1=k:=h6
    show RelV (kV kv.1) u
    rw [e1]
    rcases jh (show qcF k u=true from h4) with ⟨i,t,rfl,rfl⟩ | ⟨z,t,rfl,rfl⟩
    ·exact ⟨t,rfl⟩
    ·exact ⟨t,rfl⟩
  refine ⟨.ref s.heap.objs.size,_,I.laid (t':=tk) kp (Nat.le_refl _) (show ObjOk X.prog X.w _ h' _ (.lst (kvs.map fun kv=>kV kv.1)) from ⟨by rw [List.length_map];exact hz,acc'.toList,c',hv,by simpa using e⟩),rfl,q _ (I.hok.fresh (Nat.le_refl _))⟩
 ·obtain ⟨u,rfl,t,rfl⟩:=qbb r
  have hsz:x.cps.size≤sizeLine:=Nat.le_of_lt (qq hx)
  refine call_list_str (I.ok.hd hc) x t (fun h' tk acc' c' kp e it=>?_) hsz
  obtain ⟨i1,i2⟩:=it
  have hv:Vals (x.cps.toList.map fun c=>V.str ⟨#[c]⟩) acc'.toList:=by
   refine qaS (by rw [List.length_map];simp [i1]) fun j y u h1 h2=>?_
   obtain ⟨c,t',h3,rfl⟩:=i2 j u (by simpa using h2)
   rw [List.getElem?_map] at h1
   have h3':x.cps.toList[j]?=some c:=by simpa using h3
   rw [h3'] at h1
   cases h1
   exact ⟨t',rfl⟩
  refine ⟨.ref s.heap.objs.size,_,I.laid (t':=tk) kp (Nat.le_refl _) (show ObjOk X.prog X.w _ h' _ (.lst (x.cps.toList.map fun c=>V.str ⟨#[c]⟩)) from ⟨by rw [List.length_map];simpa using hsz,acc'.toList,c',hv,by simpa using e⟩),rfl,q _ (I.hok.fresh (Nat.le_refl _))⟩
end
structure CMethOk (P:Program) (w:World) (K:PySem.W.Frag) (mg:Str→Option Value) (base:Heap) (CX:CXT) (k:Nat) (C:Addr) (x m:Str) (ps:List Str) (sp:Sp):Prop where
 ex:∃ f fd,FnOk P w K mg base CX k f fd ps sp∧CMeth K C m f∧Binds K fd ps []
 mg_:mg x=some (.ref C)
section
variable {X:Cx} {k:Nat} {C:Addr} {ps:List Str} {sp:Sp} {x m:Str} {p pos apos:Pos} {e:Expr} {es:List Expr} {t:TA}
theorem qds (D:MakeOk X.prog X.w X.K X.mg X.base CX0 k C x ps sp) (hr:Room (k + 1) X.A) (ha:PA X (e::es) t) (hg:Gl X x:=by rfl) (hdb:(x==("__debug__":Str))=false:=by decide)
  (he:starEach (e::es) X.env=(false,eval e X.env)::starEach es X.env:=by rfl) (hpl:(backTo pos (starEach es X.env)).any (·.1)=false:=by rfl):PE X (.Call (.Name x p) (e::es) [] pos) (qfF C sp [] E0 t):=by
 obtain ⟨f,fd,F,M,hb⟩:=D.ex
 exact pe_make M F hr hg D.mg_ hb .nil qE ha hdb he hpl
theorem zw {pl:Sem Bool} (D:CMethOk X.prog X.w X.K X.mg X.base CX0 k C x m ps sp) (hr:Room k X.A) (ha:PA X (e::es) t) (hg:Gl X x:=by rfl) (hdb:(x==("__debug__":Str))=false:=by decide)
  (hst:starEach (e::es) X.env=(false,eval e X.env)::starEach es X.env:=by rfl) (hpl:(backTo pos (starEach es X.env)).any (·.1)=false:=by rfl)
  (ht:eval (.Call (.Attribute (.Name x p) m apos) (e::es) [] pos) X.env=(do
   let ov ← eval (.Name x p) X.env
   standAt apos.atName
   let (f,first) ← holding [ov] (getMethod ov m pl)
   callWith pos f first (backTo pos (starEach (e::es) X.env)) (backToKw pos (keywordEach [] X.env))):=by rfl) :
  PE X (.Call (.Attribute (.Name x p) m apos) (e::es) [] pos) (qcG sp [] E0 t):=by
 obtain ⟨f,fd,F,M,hb⟩:=D.ex
 exact pe_clsm (pl:=pl) M F hr hg D.mg_ hb qE ha hdb hst hpl ht
end
theorem own_eq_same {prog:Program} {w:World} {A:Around} {E:Value→Shared→Prop} {s:Shared} {K:PySem.W.Frag} {x C:Addr} {ox:Obj} {od:Option Obj} {Q:Value→Shared→Prop} (hu:A.units < cLine) (X:K.In s.heap) (I:PySem.W.InstAt s.heap x ox C od)
  (hs:PySem.W.findIn K (.ref C) "__eq__"=some (some (.builtin "object.__eq__"))) (ho:PySem.W.mroIn K C (.type "object")=some true) (h:Q (.bool true) s):wpAny (model prog w) A (richCompare .Eq (.ref x) (.ref x)) Q E s:=by
 have call1:∀ {A':Around} {Q':Value→Shared→Prop},Q' (.bool true) s→wpAny (model prog w) A' (call (.builtin "object.__eq__") [.ref x,.ref x]) Q' E s:=fun {A' Q'} q=>by
  refine wpAny_call (codeAny_call_builtin PySem.F.slot_object_eq.plain PySem.F.entry_object_eq (@PySem.W.check_slot (model prog w) _ _ s "object.__eq__" "object" "__eq__" (.ref x) [.ref x] [] _ (by decide +kernel) (by decide +kernel) (I.type.andThen (PySem.W.looks_mroIn X ho)) (PySem.F.args_object_eq_2 _ _) ?_))
  refine wpAny_bind (wpAny_pure (wpAny_bind (wpAny_isSame_ref_self ?_)))
  exact wpAny_pure q
 have one:wpAny (model prog w) A (tryCompare (.ref x) "__eq__" (.ref x)) (fun r s'=>∃ v,r=some v∧Q v s') E s:=by
  unfold tryCompare
  refine wpAny_bind ?_
  simp only [callSpecialIfBound?,bindSpecialIfBound?]
  refine wpAny_holding (wpAny_bind (wpAny_bind (wpAny_bind (I.type.here ((PySem.W.looks_findIn X hs).here ?_)))))
  refine wpAny_bind (wpAny_askSetting (wpAny_ite ?_))
  have b:=PySem.F.slot_object_eq.bind (.ref x)
  have fin:wpAny (model prog w) A (call (.builtin "object.__eq__") ([.ref x]++[.ref x])>>=fun v=>pure (some v)) (fun r s'=>wpAny (model prog w) A (match r with | some .notImplemented | none=>pure none | some v=>pure (some v)) (fun r s'=>∃ v,r=some v∧Q v s') E s') E s:=
   wpAny_bind (call1 (wpAny_pure (wpAny_pure ⟨_,rfl,h⟩)))
  split
  ·exact wpAny_bind (wpAny_of_eq b (wpAny_pure fin))
  ·exact wpAny_tryCatch (wpAny_bind (wpAny_of_eq b (wpAny_pure fin)))
 unfold richCompare
 simp only [oneThing_ref]
 refine wpAny_holding (wpAny_bind (wpAny_cRoomFor hu ?_))
 refine wpAny_bind (I.type.here (wpAny_bind (I.type.here ?_)))
 rw [if_neg (by simp)]
 refine wpAny_bind (wpAny_pure ?_)
 simp only [Bool.false_eq_true,if_false]
 refine wpAny_bind (wpAny_mono one (fun r s' z=>?_) fun _ _ e=>e)
 obtain ⟨v,rfl,hq⟩:=z
 exact wpAny_pure hq
structure OEq (K:PySem.W.Frag) (C:Addr):Prop where
 eq:PySem.W.findIn K (.ref C) "__eq__"=some (some (.builtin "object.__eq__"))
 ob:PySem.W.mroIn K C (.type "object")=some true
def qhl (K:PySem.W.Frag):R2:=fun x y H Q=>qgg K false x y H Q∨∃ a C dx fs,x=.ref a∧y=.ref a∧H a=some (.ins C dx fs)∧OEq K C∧Q (.bl true) H
theorem k_eqW {X:Cx} {K:PySem.W.Frag} (hK:X.K=K) (hu:X.A.units + 100 < cLine):OpR X (compareOp .Eq) (qhl K):=by
 subst hK
 intro pins s σ H x y u v Q I rx ry h
 rcases h with h | ⟨a,C,dx,fs,rfl,rfl,ea,oe,q⟩
 ·exact k_eqU rfl hu pins s σ H x y u v Q I rx ry h
 ·cases rx;cases ry
  obtain ⟨mA,O,_⟩:=qaQ I.hok ea
  obtain ⟨od,J,_⟩:=O.look
  exact own_eq_same (by omega) I.kIn J oe.eq oe.ob ⟨.bl true,H,I,rfl,q⟩
theorem jJ {X:Cx}:MtR X "list.append" qcK:=mt_append
theorem qbz {X:Cx}:MtR X "list.extend" qd9:=mt_extend
theorem qen {X:Cx}:MtR X "list.pop" qhe:=mt_pop
theorem mtR_popAt {X:Cx}:MtR X "list.pop" qe2:=mt_popAt
theorem boot_ValueError:bootBuiltins "ValueError"=some (.type "ValueError"):=by decide +kernel
section
variable {D:Ends} {σ:St} {H:Hp} {Q:VK} {t u:TS} {te ta tb tc:TE} {tas:TA} {K:PySem.W.Frag} {sp:Sp} {E:XK} {EK:St→XK} {C:Addr} {f m:Str}
theorem vFldU (h:ta σ H fun x H1=>(∃ a C dx fs v,x=.ref a∧H1 a=some (.ins C dx fs)∧Cls K C∧NoAttr K C f∧fs.lookup f=some v∧Q v H1) ∨
 (∃ a C dx fs v,x=.ref a∧IsX H1 a C (some dx)∧XAt K C∧NoAttr K C f∧H1 dx=some (.xd fs)∧fs.lookup f=some v∧Q v H1)):qgd K ta f σ H Q:=h
theorem vSFldU (h:te σ H fun y H1=>ta σ H1 fun x H2=>(∃ a C dx fs,x=.ref a∧H2 a=some (.ins C dx fs)∧Cls K C∧NoAttr K C f∧fs.length < 1000∧D.nx σ (upd H2 a (.ins C dx (jv f y fs)))) ∨
 (∃ a C,x=.ref a∧H2 a=some (XN a C none)∧XAt K C∧NoAttr K C f∧∀ dx,H2 dx=none→D.nx σ (upd (upd H2 dx (.xd [(f,y)])) a (XN a C (some dx))))):qge K ta te f D σ H:=h
theorem vXMake (h:tas σ H fun vs H1=>vs.length≤1000∧∀ x,H1 x=none→sp (.ref x::vs) (upd H1 x (XN x C none)) (fun v H2=>v=.non∧Q (.ref x) H2) E):qcl C sp E tas σ H Q:=h
theorem vMake (h:tas σ H fun vs H1=>∀ x dx,H1 x=none→H1 dx=none→dx≠x→sp (.ref x::(vs++[])) (upd (upd H1 dx (.own x)) x (.ins C dx [])) (fun v H2=>v=.non∧Q (.ref x) H2) E):qfF C sp [] E tas σ H Q:=h
theorem vMeth (h:ta σ H fun x H1=>∃ a dx fs,x=.ref a∧H1 a=some (.ins C dx fs)∧fs.lookup m=none∧tas σ H1 fun vs H2=>sp (x::(vs++[])) H2 Q E):qcH C m sp [] E ta tas σ H Q:=h
theorem vVinit (h:tas σ H fun vs H1=>∃ a C y,vs=[.ref a,y]∧H1 a=some (XN a C none)∧XAt K C∧Q .non H1):qe7 K tas σ H Q:=h
theorem vCallS (h:tas σ H fun vs H1=>sp vs H1 Q (EK σ)):qfb sp EK tas σ H Q:=h
theorem vMethS (h:ta σ H fun x H1=>∃ a dx fs,x=.ref a∧H1 a=some (.ins C dx fs)∧fs.lookup m=none∧tas σ H1 fun vs H2=>sp (x::vs) H2 Q (EK σ)):qej C m sp EK ta tas σ H Q:=h
theorem vMakeS (h:tas σ H fun vs H1=>∀ x dx,H1 x=none→H1 dx=none→dx≠x→sp (.ref x::vs) (upd (upd H1 dx (.own x)) x (.ins C dx [])) (fun v H2=>v=.non∧Q (.ref x) H2) (EK σ)):qfc C sp EK tas σ H Q:=h
theorem vRaise (h:te σ H fun x H1=>∃ a C dx,x=.ref a∧H1 a=some (XN a C dx)∧XAt K C∧EK σ (.ref C) dx (upd H1 a (XO a C dx))):qfa K EK te D σ H:=h
theorem qeN {x y:V} {t cv:Value} {b:Bool} (ty:TyX K H x t) (hy:qch y=some cv) (hb:PySem.W.kitOne K t cv=some b) (h:Q (.bl b) H):qgf K [x,y] H Q:=⟨x,y,t,cv,b,rfl,ty,hy,hb,h⟩
end
section
variable {prog:Program} {w:World} {A:Around} {E:Value→Shared→Prop} {s:Shared}
theorem none_dict {a:Addr} {Q:Value→Shared→Prop} (hT:s.TypeIs (.ref a) "dict") (hu:A.units < cLine) (h:Q (.bool false) s):wpAny (model prog w) A (richCompare .Eq .none (.ref a)) Q E s:=by
 refine SeqAt.rc_eq_decline_or (k:=false) rfl hT (by decide) PySem.F.sub_dict_NoneType PySem.F.slot_NoneType_eq PySem.F.slot_dict_eq_refl
  (fun _ hq=>call_gives PySem.F.slot_NoneType_eq rfl PySem.F.entry_NoneType_eq (PySem.F.args_NoneType_eq_2 _ _) (SeqAt.NoneType___eq___none_ref_0 a) hq) (fun Q' hq=>?_) (fun _ hq=>wpAny_of_eq (rfl:isSame .none (.ref a)=pure false) hq) (.inr hu) h
 refine wpAny_call_entry PySem.F.slot_dict_eq_refl hT PySem.F.entry_dict_eq ?_ (PySem.F.args_dict_eq_2 _ _)
 show wpAny _ _ (Builtin.Dict.dictSlotArgs "__eq__" ⟨[.ref a,.none],[]⟩>>=_) _ _ s
 refine wpAny_bind ?_
 unfold Builtin.Dict.dictSlotArgs
 refine wpAny_bind (wpAny_notOrdered_dict hT ?_)
 show wpAny _ _ (pure (Value.ref a,Value.none)) _ _ s
 refine wpAny_pure ?_
 refine wpAny_bind (wpAny_isInstance (T:="NoneType") (b:=false) rfl PySem.F.sub_NoneType_dict ?_)
 simp only [Bool.not_false,if_true]
 exact wpAny_bind (wpAny_rule (wpAny_pure ⟨_,rfl,hq⟩))
theorem none_own {K:PySem.W.Frag} {x C:Addr} {ox:Obj} {od:Option Obj} {Q:Value→Shared→Prop} (hu:A.units < cLine) (X:K.In s.heap) (I:PySem.W.InstAt s.heap x ox C od) (oe:OEq K C) (hn:PySem.W.mroIn K C (.type "NoneType")=some false)
  (h:Q (.bool false) s):wpAny (model prog w) A (richCompare .Eq .none (.ref x)) Q E s:=by
 have t1:wpAny (model prog w) A (tryCompare .none "__eq__" (.ref x)) (fun r s'=>r=none∧s'=s) E s:=by
  unfold tryCompare
  refine wpAny_bind ?_
  simp only [callSpecialIfBound?,bindSpecialIfBound?]
  refine wpAny_holding (wpAny_bind (wpAny_bind ?_))
  refine wpAny_bind (wpAny_of_eq (rfl:typeOf .none=pure (.type "NoneType")) ?_)
  refine wpAny_of_eq PySem.F.slot_NoneType_eq.lookup ?_
  refine wpAny_bind (wpAny_askSetting (wpAny_ite ?_))
  have fin:wpAny (model prog w) A (call (.builtin "NoneType.__eq__") ([.none]++[.ref x])>>=fun v=>pure (some v)) (fun r s'=>wpAny (model prog w) A (match r with | some .notImplemented | none=>pure none | some v=>pure (some v)) (fun r s'=>r=none∧s'=s) E s') E s:=
   wpAny_bind (call_gives PySem.F.slot_NoneType_eq rfl PySem.F.entry_NoneType_eq (PySem.F.args_NoneType_eq_2 _ _) (SeqAt.NoneType___eq___none_ref_0 x) (wpAny_pure (wpAny_pure ⟨rfl,rfl⟩)))
  split
  ·exact wpAny_bind (wpAny_of_eq (PySem.F.slot_NoneType_eq.bind .none) (wpAny_pure fin))
  ·exact wpAny_tryCatch (wpAny_bind (wpAny_of_eq (PySem.F.slot_NoneType_eq.bind .none) (wpAny_pure fin)))
 have t2:wpAny (model prog w) A (tryCompare (.ref x) "__eq__" .none) (fun r s'=>r=none∧s'=s) E s:=by
  unfold tryCompare
  refine wpAny_bind ?_
  simp only [callSpecialIfBound?,bindSpecialIfBound?]
  refine wpAny_holding (wpAny_bind (wpAny_bind (wpAny_bind (I.type.here ((PySem.W.looks_findIn X oe.eq).here ?_)))))
  refine wpAny_bind (wpAny_askSetting (wpAny_ite ?_))
  have b:=PySem.F.slot_object_eq.bind (.ref x)
  have c:∀ {Q':Value→Shared→Prop},Q' .notImplemented s→wpAny (model prog w) A (call (.builtin "object.__eq__") [.ref x,.none]) Q' E s:=fun {Q'} q=>by
   refine wpAny_call (codeAny_call_builtin PySem.F.slot_object_eq.plain PySem.F.entry_object_eq (@PySem.W.check_slot (model prog w) _ _ s "object.__eq__" "object" "__eq__" (.ref x) [.none] [] _ (by decide +kernel) (by decide +kernel) (I.type.andThen (PySem.W.looks_mroIn X oe.ob)) (PySem.F.args_object_eq_2 _ _) ?_))
   refine wpAny_bind (wpAny_pure (wpAny_bind (wpAny_of_eq (rfl:isSame (.ref x) .none=pure false) ?_)))
   exact wpAny_pure q
  have fin:wpAny (model prog w) A (call (.builtin "object.__eq__") ([.ref x]++[.none])>>=fun v=>pure (some v)) (fun r s'=>wpAny (model prog w) A (match r with | some .notImplemented | none=>pure none | some v=>pure (some v)) (fun r s'=>r=none∧s'=s) E s') E s:=
   wpAny_bind (c (wpAny_pure (wpAny_pure ⟨rfl,rfl⟩)))
  split
  ·exact wpAny_bind (wpAny_of_eq b (wpAny_pure fin))
  ·exact wpAny_tryCatch (wpAny_bind (wpAny_of_eq b (wpAny_pure fin)))
 unfold richCompare
 refine wpAny_holding (wpAny_bind (wpAny_cRoomFor hu ?_))
 show wpAny _ _ (typeOf .none>>=_) _ _ _
 refine wpAny_bind (wpAny_of_eq (rfl:typeOf .none=pure (.type "NoneType")) (wpAny_bind (I.type.here ?_)))
 rw [if_pos (by rfl)]
 refine wpAny_bind ((PySem.W.looks_mroIn X hn).here ?_)
 simp only [Bool.false_eq_true,if_false]
 refine wpAny_bind (wpAny_mono t1 (fun r s' z=>?_) fun _ _ e=>e)
 obtain ⟨rfl,rfl⟩:=z
 simp only [Bool.not_false,if_true]
 refine wpAny_bind (wpAny_mono t2 (fun r s' z=>?_) fun _ _ e=>e)
 obtain ⟨rfl,rfl⟩:=z
 refine wpAny_bind (wpAny_rule (wpAny_bind (wpAny_of_eq (rfl:isSame .none (.ref x)=pure false) (wpAny_pure h))))
end
def rNoneRef (K:PySem.W.Frag):R2:=fun x y H Q=>∃ a,x=.non∧y=.ref a∧((∃ xs,SqL K H a xs∨SqT K H a xs)∨(∃ kvs,H a=some (.dK kvs))∨∃ C dx fs,H a=some (.ins C dx fs)∧OEq K C∧PySem.W.mroIn K C (.type "NoneType")=some false)∧Q (.bl false) H
def rEqZ (K:PySem.W.Frag):R2:=fun x y H Q=>qhl K x y H Q∨rNoneRef K x y H Q
theorem zh {X:Cx} {K:PySem.W.Frag} (hK:X.K=K) (hu:X.A.units + 100 < cLine):OpR X (compareOp .Eq) (rEqZ K):=by
 intro pins s σ H x y u v Q I rx ry h
 rcases h with h | ⟨a,rfl,rfl,h,q⟩
 ·exact k_eqW hK hu pins s σ H x y u v Q I rx ry h
 ·subst hK
  cases rx;cases ry
  have fin:EP X pins σ Q (.bool false) s:=⟨.bl false,H,I,rfl,q⟩
  rcases h with ⟨xs,hl | hl⟩ | ⟨kvs,ea⟩ | ⟨C,dx,fs,ea,oe,hn⟩
  ·obtain ⟨its,r,pl,_⟩:=I.list hl
   exact SeqAt.RcAt.none_list pl.isList (by omega) _ _ _ _ fin
  ·obtain ⟨its,r,pl,_⟩:=I.tuple hl
   exact SeqAt.RcAt.none_tuple pl (by omega) _ _ _ _ fin
  ·obtain ⟨_,_,vs,_,d⟩:=(show ObjOk X.prog X.w H s.heap a (.dK kvs) from I.hok a _ ea)
   exact none_dict d.typeIs (by omega) fin
  ·obtain ⟨mA,O,_⟩:=qaQ I.hok ea
   obtain ⟨od,J,_⟩:=O.look
   exact none_own (by omega) I.kIn J oe hn fin
def XL (K:PySem.W.Frag) (C:Addr) (bm:List Value):Prop:=∃ nm qn N bs hdct sn sub ab col dd k0 k1 k2 k3 k5,K.lookup C=some (excClassObj nm qn C N bs bm hdct sn sub ab col dd k0 k1 k2 k3 k5 "ValueError.__new__")
section
variable {K:PySem.W.Frag} {C D:Addr} {bm bn:List Value}
theorem XL.xat (x:XL K C bm) (hb:qbX bm=true)
  (ga:PySem.W.findIn K (.ref C) "__getattribute__"=some (some (.builtin "BaseException.__getattribute__"))) (gn:PySem.W.findIn K (.ref C) "__getattr__"=some none)
  (bx:PySem.W.mroIn K C (.type "BaseException")=some true) (ob:PySem.W.mroIn K C (.type "object")=some true) (hd:PySem.W.hasDictIn K C=true) (cl:PySem.W.findIn K (.ref C) "__class__"=some (some (.builtin "object.__class__")))
  (cg:PySem.W.specialIn K (.builtin "object.__class__") "__get__"=some (some (.builtin "getset_descriptor.__get__"))) (ct:PySem.W.takesIn K (.builtin "object.__class__")=some true)
  (sa:PySem.W.findIn K (.ref C) "__setattr__"=some (some (.builtin "object.__setattr__"))):XAt K C:=by
 obtain ⟨nm,qn,N,bs,hdct,sn,sub,ab,col,dd,k0,k1,k2,k3,k5,e⟩:=x
 refine ⟨ga,gn,bx,ob,hd,cl,cg,ct,sa,?_,?_⟩
 ·unfold PySem.W.clsIn
  rw [e]
  exact hb
 ·unfold qgI
  rw [e]
  simp [hb]
theorem XL.kit (x:XL K C bm) (y:XL K D bn):PySem.W.kitOne K (.ref C) (.ref D)=some ((Value.ref C::bm).contains (.ref D)):=by
 obtain ⟨nm,qn,N,bs,hdct,sn,sub,ab,col,dd,k0,k1,k2,k3,k5,e⟩:=x
 obtain ⟨nm',qn',N',bs',hdct',sn',sub',ab',col',dd',k0',k1',k2',k3',k5',e'⟩:=y
 unfold PySem.W.kitOne PySem.W.kitCls
 split
 ·rename_i z
  have z:C=D:=Value.ref.inj (beq_iff_eq.mp z)
  subst z
  simp
 ·dsimp only
  have q1:(PySem.W.clsIn K D).isSome=true:=by unfold PySem.W.clsIn;rw [e'];rfl
  have q2:(PySem.W.typeIn K (.ref D)==some (.type "type"))=true:=by show ((K.lookup D).map (·.cls)==_)=true;rw [e'];rfl
  rw [if_pos (by rw [q1,q2];rfl)]
  unfold PySem.W.subIn PySem.W.mroIn PySem.W.clsIn
  dsimp only
  rw [e]
  rfl
theorem XL.kitT (x:XL K C bm) {T:String} (h:PySem.W.kitMeta T=true):PySem.W.kitOne K (.ref C) (.type T)=some (bm.contains (.type T)):=by
 obtain ⟨nm,qn,N,bs,hdct,sn,sub,ab,col,dd,k0,k1,k2,k3,k5,e⟩:=x
 unfold PySem.W.kitOne PySem.W.kitCls
 split
 ·rename_i z
  exact absurd (beq_iff_eq.mp z) nofun
 ·dsimp only
  rw [if_pos h]
  unfold PySem.W.subIn PySem.W.mroIn PySem.W.clsIn
  dsimp only
  rw [e]
  show some ((Value.ref C::bm).contains _)=_
  rw [List.contains_cons]
  rfl
abbrev qaI:List Value:=[.type "ValueError",.type "Exception",.type "BaseException",.type "object"]
theorem qeo:qbX qaI=true:=by decide
theorem zU {c:Addr}:qbX (.ref c::qaI)=true:=qeo
theorem kits {K:PySem.W.Frag} {cs:List Addr} {c:Addr} (hn:(cs++[c]).Nodup) (h:∀ i,i < cs.length→XL K (cs.getD i c) (.ref c::qaI)) (hc:XL K c qaI) :
  (∀ i j,i < cs.length→j < cs.length→PySem.W.kitOne K (.ref (cs.getD i c)) (.ref (cs.getD j c))=some (decide (i=j)))∧(∀ i,i < cs.length + 1→PySem.W.kitOne K (.ref (cs.getD i c)) (.ref c)=some true) ∧
  (∀ i,i < cs.length + 1→PySem.W.kitOne K (.ref (cs.getD i c)) (.type "ValueError")=some true)∧∀ j,j < cs.length→PySem.W.kitOne K (.ref c) (.ref (cs.getD j c))=some false:=by
 have gd:∀ (j:Nat) (hj:j < cs.length),cs.getD j c=cs[j]:=fun j hj=>by simp [List.getD,hj]
 have hl:cs.getD cs.length c=c:=by simp
 have hne:∀ j,j < cs.length→c≠cs.getD j c:=fun j hj e=>by
  have h2:=(List.nodup_append.mp hn).2.2 (cs.getD j c) (by rw [gd j hj];exact List.getElem_mem hj) c (by simp)
  exact h2 e.symm
 refine ⟨fun i j hi hj=>?_,fun i hi=>?_,fun i hi=>?_,fun j hj=>?_⟩
 ·rw [(h i hi).kit (h j hj)]
  congr 1
  rw [List.contains_cons,List.contains_cons]
  have e1:((Value.ref (cs.getD j c))==Value.ref c)=false:=beq_eq_false_iff_ne.mpr fun e=>hne j hj (Value.ref.inj e).symm
  have e2:List.contains qaI (Value.ref (cs.getD j c))=false:=rfl
  rw [e1,e2]
  by_cases hij:i=j
  ·subst hij;simp
  ·have e3:((Value.ref (cs.getD j c))==Value.ref (cs.getD i c))=false:=beq_eq_false_iff_ne.mpr fun e=>by
    have e:=Value.ref.inj e
    rw [gd i hi,gd j hj] at e
    have hp:=List.pairwise_iff_getElem.mp (List.nodup_append.mp hn).1
    rcases Nat.lt_or_gt_of_ne hij with q | q
    ·exact hp i j hi hj q e.symm
    ·exact hp j i hj hi q e
   rw [e3];simp [hij]
 ·rcases Nat.lt_or_ge i cs.length with hi' | hi'
  ·rw [(h i hi').kit hc,List.contains_cons,List.contains_cons];simp
  ·have:i=cs.length:=by omega
   subst this
   rw [hl,hc.kit hc];simp
 ·rcases Nat.lt_or_ge i cs.length with hi' | hi'
  ·rw [(h i hi').kitT (by decide +kernel)];rfl
  ·have:i=cs.length:=by omega
   subst this
   rw [hl,hc.kitT (by decide +kernel)];rfl
 ·rw [hc.kit (h j hj),List.contains_cons]
  have e1:((Value.ref (cs.getD j c))==Value.ref c)=false:=beq_eq_false_iff_ne.mpr fun e=>hne j hj (Value.ref.inj e).symm
  rw [e1];rfl
end
end L2
namespace HT
open PySem PySem.Spec PyProof.Rows
section
variable {prog:Program} {w:World} {A:Around} {E:Value→Shared→Prop} {s:Shared}
end
end HT
namespace L2
open PySem PySem.Spec PyProof.Rows
def tRev (K:PySem.W.Frag) (te:TE) (ts:TO):TE:=fun σ H Q=>te σ H fun x H1=>ts σ H1 fun o H2=>o=some (-1)∧∃ a y z,x=.ref a∧SqT K H2 a [y,z]∧∀ p,H2 p=none→Q (.ref p) (upd H2 p (.tup [z,y]))
theorem vRev {K:PySem.W.Frag} {te:TE} {ts:TO} {σ:St} {H:Hp} {Q:VK} (h:te σ H fun x H1=>ts σ H1 fun o H2=>o=some (-1)∧∃ a y z,x=.ref a∧SqT K H2 a [y,z]∧∀ p,H2 p=none→Q (.ref p) (upd H2 p (.tup [z,y]))):tRev K te ts σ H Q:=h
section
variable {X:Cx} {K:PySem.W.Frag} {e st:Expr} {te:TE} {ts:TO} {p2 pos:Pos}
def qep (K:PySem.W.Frag):List V→Hp→VK→Prop:=fun xs H Q=>∃ p ys,xs=[.ref p]∧((SqL K H p ys∧∀ l,H l=none→Q (.ref l) (upd H l (.tup ys)))∨(SqT K H p ys∧Q (.ref p) H))
theorem k_tupleU (hK:X.K=K):zE X (.type "tuple") (qep K):=by subst hK;exact call_tuple_of
end
theorem Inv.turnedL {X:Cx} {pins:List (Addr×Obj)} {σ:St} {H:Hp} {s:Shared} {h':Heap} {t':Nat} {fp:List Addr} (I:Inv X pins σ H s) (k:∀ b o,b∉fp→s.heap.get? b=some o→h'.get? b=some o) (hf:∀ b∈fp,qbo X pins H b):Inv X pins σ H { s with heap:=h',toks:=t' }:=by
 have nit:∀ b u,H b=some u→b∉fp:=fun b u e z=>by rw [(hf b z).1] at e;cases e
 have hL:X.env.locals∉fp:=fun z=>(hf _ z).2.1 rfl
 refine I.step (g':=s.gens) (d':=s.drawn) (ch:=fp) (fun b hb=>?_) (fun b o _ _ hc e _=>k b o hc e) (fun b o _ _ hc e _=>⟨o.slots,k b o hc e⟩) (fun _ _ _ _ n=>n)
  (fun b o hc e=>⟨o,k b o hc e⟩) (fun _ _ e=>e) (fun _ _ _ e=>e) (fun b ps e=>⟨#[],by rw [e];simp⟩) (fun m hm=>?_) (fun b u e=>?_) I.bare
 ·obtain ⟨f0,f1,f2,f3,f4,f5⟩:=hf b hb
  exact ⟨f3,f1,f4,f5⟩
 ·obtain ⟨o,es,ep,ho,r⟩:=hm
  exact ⟨o,es,ep,k _ o hL ho,r⟩
 ·refine (I.hok b u e).stay (fun c v hc q=>k c v ?_ q) (fun _ q=>q) fun _ _ q=>q
  rcases hc with z | z
  ·rw [z];exact nit b u e
  ·exact nit c _ z
def Ite (K:PySem.W.Frag) (a:Addr):It:=
 ⟨fun i H=>∃ xs x,SqL K H a xs∧xs[i]?=some x,fun i H x H'=>∃ t y,x=.ref t∧H t=none∧H'=upd H t (.tup [.int i,y])∧∀ xs,SqL K H a xs→xs[i]?=some y,fun i H=>∃ xs,SqL K H a xs∧xs.length≤i⟩
theorem qco {h:Heap} {o v:Obj} {b:Addr} (e:(h.push o).get? b=some v) (ne:b≠h.objs.size):h.get? b=some v:=(Heap.get?_push_cases e).elim (fun z=>absurd z.1 ne) fun z=>z
theorem turn_enum {P:Program} {w:World} {K:PySem.W.Frag} {es:List Expr} {x1} {pos:Pos} (a e it:Addr) (hei:e≠it):Turn P w K (.Tuple es x1 pos) (Ite K a) [e,it] e (fun i h=>(∃ old,IsEnum h e it i old)∧h.IsListIter it a i) where
 mem:=by simp
 obj:=fun i h st b hb=>by
  obtain ⟨⟨old,he⟩,o,e1,c,d⟩:=st
  simp only [List.mem_cons,List.not_mem_nil,or_false] at hb
  rcases hb with rfl | rfl
  ·exact ⟨_,he,fun v z=>by
    have z':Data.fields _=Data.cell v:=z
    cases z'⟩
  ·exact ⟨o,e1,fun v z=>by rw [d] at z;cases z⟩
 keep:=fun i h h' st k=>by
  obtain ⟨⟨old,he⟩,hit⟩:=st
  exact ⟨⟨old,k e (by simp) _ he⟩,hit.at fun o x=>k it (by simp) o x⟩
 item:=by
  intro X hP hw hK hc i pins s σ H E I hf st hg
  subst hP hw hK
  obtain ⟨⟨old,he⟩,hit⟩:=st
  obtain ⟨xs,x,hq,hx⟩:=hg
  obtain ⟨its,rv,p,hz⟩:=I.list hq
  obtain ⟨u,hu,ru⟩:=rv.get hx
  refine wpAny_pyNext_enum_item he hit p.isList (x:=u) (by simpa using hu) hei fun h' ho hit' hT hsz hk=>?_
  refine ⟨_,rfl,wpAny_letOwnedTupleGo_enum ho fun h2 he2 hs2=>?_⟩
  have fre:H s.heap.objs.size=none:=I.hok.fresh (Nat.le_refl _)
  have ne1:s.heap.objs.size≠e:=Nat.ne_of_gt (Heap.lt_size he)
  have ne2:s.heap.objs.size≠it:=by obtain ⟨o,e1,_⟩:=hit;exact Nat.ne_of_gt (Heap.lt_size e1)
  have I1:Inv X pins σ (upd H s.heap.objs.size (.tup [.int i,x])) { s with heap:=s.heap.push { cls:=.type "tuple",data:=.seq #[.int i s.toks,u] },toks:=s.toks + 1 }:=
   I.laid (fun b u e=>Heap.get?_push_of_some _ e) (Nat.le_refl _) ⟨by show 2≤sizeLine;decide,[.int i s.toks,u],.cons ⟨_,rfl⟩ (.cons ru .nil),⟨_,Heap.get?_push_size _ rfl,rfl,_,rfl⟩⟩
  have hf1:∀ b∈[e,it],qbo X pins (upd H s.heap.objs.size (.tup [.int i,x])) b:=fun b hb=>by
   obtain ⟨f0,f⟩:=hf b hb
   refine ⟨?_,f⟩
   rw [qk]
   ·exact f0
   ·simp only [List.mem_cons,List.not_mem_nil,or_false] at hb
    rcases hb with rfl | rfl
    ·exact ne1.symm
    ·exact ne2.symm
  have kk:∀ b o,b∉[e,it]→(s.heap.push { cls:=.type "tuple",data:=.seq #[.int i s.toks,u] }).get? b=some o→h2.get? b=some o:=fun b o hb z=>by
   simp only [List.mem_cons,List.not_mem_nil,or_false,not_or] at hb
   by_cases hz:b=s.heap.objs.size
   ·subst hz
    rw [Heap.get?_push_size _ rfl] at z
    cases z
    exact (hs2.2 _ ne1).trans hT
   ·exact (hs2.2 b hb.1).trans (hk b o hb.1 hb.2 (qco z hz))
  have I2:=I1.turnedL (h':=h2) (t':=s.toks + 1) (fp:=[e,it]) kk hf1
  exact ⟨.ref s.heap.objs.size,_,I2,rfl,⟨_,x,rfl,fre,rfl,fun ys hy=>by rw [I.list_inj hy hq];exact hx⟩,⟨⟨_,by simpa using he2⟩,hit'.at fun o y=>(hs2.2 it hei.symm).trans y⟩,fun b hb=>(hf1 b hb).1⟩
 done:=by
  intro X hP hw hK hc i pins s σ H E I hf st hg
  subst hP hw hK
  obtain ⟨⟨old,he⟩,hit⟩:=st
  obtain ⟨xs,hq,hx⟩:=hg
  obtain ⟨its,rv,p,hz⟩:=I.list hq
  have hl:=rv.length
  exact wpAny_pyNext_enum_end (I.ok.hd hc) he hit p.isList (Array.getElem?_eq_none (by simp;omega)) fun h' eb=>⟨rfl,I.turnedL (t':=s.toks) (fp:=[e,it]) (fun b o hb z=>eb b o (fun z'=>hb (by simp [z'])) z) hf⟩
 self:=fun _ _ _ _ _ st h=>by
  obtain ⟨⟨old,he⟩,_⟩:=st
  exact wpAny_pyIter_enum he h
theorem qal:bootBuiltins "enumerate"=some (.type "enumerate"):=by decide +kernel
def qgi (K:PySem.W.Frag) (ta:TA):TI:=fun σ H R=>ta σ H fun vs H1=>∃ a xs,vs=[.ref a]∧SqL K H1 a xs∧R (Ite K a) H1
theorem pi_enum {X:Cx} {K:PySem.W.Frag} {a:Expr} {ta:TA} {es:List Expr} {x1} {tp p pos:Pos} (hK:X.K=K) (hg:Gl X "enumerate") (hm:X.mg "enumerate"=none) (ha:PA X [a] ta) (hs:starEach [a] X.env=[(false,eval a X.env)]:=by rfl):PI X (.Tuple es x1 tp) (.Call (.Name "enumerate" p) [a] [] pos) (qgi K ta):=by
 subst hK
 intro pins s σ H R I h
 refine Call_ (qaY I hg hm qal (PyProof.Rows.callWith_type1 (thn (ha pos pins s σ H _ I h) fun us s1 ⟨vs,H1,I1,r1,q1⟩=>?_) hs rfl))
 obtain ⟨a,xs,e,hq,q⟩:=q1
 subst e
 cases r1 with
 | cons r rr =>
  cases rr
  cases r
  obtain ⟨its,rv,pl,hz⟩:=I1.list hq
  refine call_enumerate_list pl.isList fun h' he hi hsz hk=>wpAny_pyIter_enum he ?_
  refine ⟨_,[s1.heap.objs.size + 1,s1.heap.objs.size],_,_,H1,rfl,I1.kept (t':=s1.toks) hk,turn_enum a _ _ (Nat.succ_ne_self _),⟨⟨_,he⟩,hi⟩,fun b hb=>?_,q⟩
  simp only [List.mem_cons,List.not_mem_nil,or_false] at hb
  rcases hb with rfl | rfl
  ·exact I1.fpOk (Nat.le_succ _) (I1.hok.fresh (Nat.le_succ _))
  ·exact I1.fpOk (Nat.le_refl _) (I1.hok.fresh (Nat.le_refl _))
theorem for_enum {K:PySem.W.Frag} {a:Addr} {xs:List V} {g:TG} {tb:TS} {D:Ends} {σ:St} {H:Hp} (Pv:Nat→St→Hp→Prop) (h0:Pv 0 σ H) (hl:∀ i σ H,i≤xs.length→Pv i σ H→SqL K H a xs)
  (hs:∀ i x t σ H,xs[i]?=some x→H t=none→Pv i σ H→g (.ref t) σ (upd H t (.tup [.int i,x])) fun σ2 H2=>tb { D with nx:=Pv (i + 1),ct:=Pv (i + 1),bk:=D.nx } σ2 H2) (hd:∀ σ H,Pv xs.length σ H→D.nx σ H) :
  ∃ W:Nat→Nat→St→Hp→Prop,(∃ m,W 0 m σ H)∧∀ i m σ H,W i m σ H →
   ((Ite K a).stop i H∧D.nx σ H)∨((Ite K a).go i H∧∃ N:St→Hp→Prop,(∀ σ' H',N σ' H'→∃ m',m' < m∧W (i + 1) m' σ' H')∧∀ x H',(Ite K a).yld i H x H'→g x σ H' fun σ2 H2=>tb { D with nx:=N,ct:=N,bk:=D.nx } σ2 H2):=by
 refine ⟨fun i m σ H=>m=xs.length - i∧i≤xs.length∧Pv i σ H,⟨xs.length,by simp,Nat.zero_le _,h0⟩,?_⟩
 rintro i m σ H ⟨rfl,hi,p⟩
 have q:=hl i σ H hi p
 by_cases hlt:i < xs.length
 ·refine .inr ⟨⟨xs,xs[i],q,by simp [hlt]⟩,Pv (i + 1),fun σ' H' p'=>⟨xs.length - (i + 1),by omega,rfl,hlt,p'⟩,fun x H' y=>?_⟩
  obtain ⟨t,v,rfl,ht,rfl,y⟩:=y
  exact hs i v t σ _ (y xs q) ht p
 ·have e:i=xs.length:=by omega
  subst e
  exact .inl ⟨⟨xs,q,Nat.le_refl _⟩,hd σ H p⟩
theorem vEnum {K:PySem.W.Frag} {tas:TA} {σ:St} {H:Hp} {R:It→Hp→Prop} (h:tas σ H fun vs H1=>∃ a xs,vs=[.ref a]∧SqL K H1 a xs∧R (Ite K a) H1):qgi K tas σ H R:=h
section
variable {X:Cx}
theorem vals_strs (l:List (Str×Tok)):Vals ((l.map (·.1)).map V.str) (strValues l):=by
 induction l with
 | nil=>exact .nil
 | cons p r ih=>exact .cons ⟨p.2,rfl⟩ ih
def rSplit:V→List V→Hp→VK→Prop:=fun x vs H Q=>∃ z y,x=.str z∧vs=[.str y]∧(y.length==0)=false∧z.length + 2≤sizeLine∧∀ p,H p=none→Q (.ref p) (upd H p (.lst ((Txt.split z y).map V.str)))
theorem split_any {prog:Program} {w:World} {A:Around} {E:Value→Shared→Prop} {s:Shared} {Q:Value→Shared→Prop} {x y:Str} {t u:Tok} (hy:(y.length==0)=false) (hsz:x.length + 2≤sizeLine)
  (h:∀ (l:List (Str×Tok)) k,l.map (·.1)=Txt.split x y→l.length≤sizeLine→Q (.ref s.heap.objs.size) { s with heap:=s.heap.push { cls:=.type "list",data:=.seq (strValues l).toArray },toks:=k }) :
  wpAny (model prog w) A (call (.builtin "str.split") [.str x t,.str y u]) Q E s:=by
 have hn:(Builtin.Str.partsBetween x (Builtin.Str.occurrences x y 0 x.length (x.length + 1)) y.length).length≤sizeLine:=by
  have e1:=StrLaws.occ_length_le x y 0 x.length (x.length + 1)
  rw [length_partsBetween];omega
 cases h1:(decide (x.length < y.length)||decide (Builtin.Str.strKind x < Builtin.Str.strKind y))
 ·cases hf:(Builtin.Str.occurrences x y 0 x.length (x.length + 1)).isEmpty
  ·refine call_meets F.slot_str_split (typeIs_str _ _ _) F.entry_str_split (F.args_str_split_2 _ _) (meets_str_split_sep x y t u h1 hy hf (by omega) hn) ?_
   show wants Q E _ { s with toks:=_,heap:=s.heap.push { cls:=.type "list",data:=.seq (strsFrom s.toks (Builtin.Str.partsBetween x (Builtin.Str.occurrences x y 0 x.length (x.length + 1)) y.length)).toArray } }
   rw [strsFrom_eq]
   have e:=(numbered_texts s.toks (Builtin.Str.partsBetween x (Builtin.Str.occurrences x y 0 x.length (x.length + 1)) y.length))
   exact h (numbered s.toks _) _ (e.trans ((if_neg (ne_true_of_eq_false h1)).trans (if_neg (ne_true_of_eq_false hf))).symm) (by rw [← List.length_map (f:=(·.1)),e];exact hn)
  ·exact call_meets F.slot_str_split (typeIs_str _ _ _) F.entry_str_split (F.args_str_split_2 _ _) (meets_str_split_not_found x y t u h1 hy hf)
    (h [(x,t)] s.toks ((if_neg (ne_true_of_eq_false h1)).trans (if_pos hf)).symm (by show 1≤sizeLine;decide))
 ·exact call_meets F.slot_str_split (typeIs_str _ _ _) F.entry_str_split (F.args_str_split_2 _ _) (meets_str_split_cannot_occur x y t u h1)
   (h [(x,t)] s.toks (if_pos h1).symm (by show 1≤sizeLine;decide))
theorem qdt:MtR X "str.split" rSplit:=by
 intro pins s σ H x vs v us Q I rx rv h
 obtain ⟨z,y,rfl,rfl,hy,hz,q⟩:=h
 obtain ⟨t,rfl⟩:=rx
 obtain ⟨u,rfl,ru⟩:=rv.one
 obtain ⟨tu,rfl⟩:=ru
 refine split_any hy hz fun l k e hl=>?_
 refine ⟨.ref _,_,I.laid (o:=.lst ((Txt.split z y).map V.str)) (fun b o e=>Heap.get?_push_of_some _ e) (Nat.le_refl _) ?_,rfl,q _ (I.hok.fresh (Nat.le_refl _))⟩
 rw [← e]
 exact ⟨by rw [List.length_map,List.length_map];exact hl,_,_,vals_strs l,Heap.get?_push_size _ rfl⟩
end
end L2
namespace L2
open PySem PySem.Spec PyProof.Rows PySem.Builtin PySem.Builtin.Str
theorem qcP {a b:Str} (h:a.cps.toList=b.cps.toList):a=b:=by
 cases a
 cases b
 exact congrArg Str.mk (Array.toList_inj.mp h)
theorem qa5 (a b:Str):(a++b).cps.toList=a.cps.toList++b.cps.toList:=by
 show (a.cps++b.cps).toList=_
 exact Array.toList_append
def jl (c:List Nat):List (List Nat)→List Nat
 | []=>[]
 | [x]=>x
 | x::y::r=>x++c++jl c (y::r)
theorem zV (z:Str):∀ xs:List Str,(Str.join z xs).cps.toList=jl z.cps.toList (xs.map (·.cps.toList))
 | []=>rfl
 | [x]=>rfl
 | x::y::r=>by
  show (x++z++Str.join z (y::r)).cps.toList=x.cps.toList++z.cps.toList++jl z.cps.toList ((y::r).map (·.cps.toList))
  rw [qa5,qa5,zV z (y::r)]
theorem qaT (z:Str) (xs:List Str):Txt.join z xs=Str.join z xs:=StrLaws.glued_eq_join z xs
theorem qa0:∀ {xs ys:List Str},xs.map (·.cps.toList)=ys.map (·.cps.toList)→xs=ys
 | [],[],_=>rfl
 | [],_::_,h=>by cases h
 | _::_,[],h=>by cases h
 | x::r,y::s,h=>by
  have h:=List.cons.inj h
  rw [qcP h.1,qa0 h.2]
theorem vDGet2 {td ty tx:TE} {σ:St} {H:Hp} {Q:VK} (h:td σ H fun x H1=>∃ a,x=.ref a∧IsD H1 a∧ty σ H1 fun y H2=>tx σ H2 fun z H3=>∃ o,DGet H3 a y o∧Q (o.getD z) H3):tDGet2 td ty tx σ H Q:=h
end L2
namespace L2
open PySem PySem.Spec PyProof.Rows
theorem qa6 (a b:Str):eqV (.str a) (.str b)=decide (a=b):=by
 have e:eqV (.str a) (.str b)=(a==b):=by simp [eqV]
 rw [e,Bool.eq_iff_iff,beq_iff_eq,decide_eq_true_iff]
section
variable {X:Cx} {K:PySem.W.Frag}
end
theorem slice_ixD (k n:Nat):Builtin.Str.strSliceIndices (some (k:Int)) none 1 n=(List.range (n - k)).map (k + ·):=by
 unfold Builtin.Str.strSliceIndices sliceRange
 simp only [show (1:Int) > 0 by decide,if_true]
 rw [if_neg (show ¬ ((k:Int) < 0) by omega)]
 have e1:max 0 (min (k:Int) n)=((min k n:Nat):Int):=by omega
 rw [e1]
 by_cases hk:k≤n
 ·rw [Nat.min_eq_left hk]
  have e2:(fun (j:Nat)=>((k:Int) + 1 * (j:Int)).toNat)=(k + ·):=by funext j;omega
  rw [e2]
  congr 2
  split
  ·rw [Int.ediv_one];omega
  ·omega
 ·rw [Nat.min_eq_right (by omega),show n - k=0 by omega]
  rw [if_neg (by omega)]
  rfl
theorem qeq (a:Array Nat) (k:Nat):∀ m,k + m≤a.size→((List.range m).map (k + ·)).filterMap (a[·]?)=(a.toList.drop k).take m
 | 0,_=>by simp
 | m + 1,h=>by
  rw [List.range_succ,List.map_append,List.filterMap_append,qeq a k m (by omega),List.take_add_one]
  congr 1
  have e:a[k + m]?=some a[k + m]:=Array.getElem?_eq_getElem (by omega)
  have e':(a.toList.drop k)[m]?=some a[k + m]:=by rw [List.getElem?_drop,Array.getElem?_toList];exact e
  rw [e',List.map_cons,List.filterMap_cons,e]
  rfl
theorem slice_drop (z:Str) (k:Nat):(Txt.slice z (some (k:Int)) none).cps.toList=z.cps.toList.drop k:=by
 unfold Txt.slice
 rw [slice_ixD]
 have hz:z.length=z.cps.toList.length:=by simp [Str.length]
 split
 ·rename_i h
  rw [List.length_map,List.length_range] at h
  have h:z.length - k=z.length:=by simpa using h
  by_cases hk:k=0
  ·subst hk;rw [List.drop_zero]
  ·have:z.cps.toList=[]:=List.length_eq_zero_iff.mp (by omega)
   rw [this];simp
 ·show (List.filterMap _ _).toArray.toList=_
  by_cases hk:k≤z.length
  ·have:=qeq z.cps k (z.length - k) (by show k + (z.length - k)≤z.length;omega)
   rw [this]
   exact List.take_of_length_le (by rw [List.length_drop];omega)
  ·rw [show z.length - k=0 by omega,List.drop_of_length_le (by omega)]
   rfl
theorem slice_len (z:Str) (lo hi:Option Int):(Txt.slice z lo hi).length≤z.length:=Txt.slice_le z lo hi
theorem qbj (xs:List V) (k:Nat):qaP xs none (some (k:Int))=xs.take k:=by
 unfold qaP
 rw [HT.sIx_none,HT.sIx_nat,List.drop_zero,Nat.sub_zero]
 by_cases h:k≤xs.length
 ·rw [Nat.min_eq_left h]
 ·rw [Nat.min_eq_right (by omega),List.take_of_length_le (Nat.le_refl _),List.take_of_length_le (by omega)]
theorem za (xs:List V) (k:Nat):qaP xs (some (k:Int)) none=xs.drop k:=by
 unfold qaP
 rw [HT.sIx_none,HT.sIx_nat]
 by_cases h:k≤xs.length
 ·rw [Nat.min_eq_left h,List.take_of_length_le (by rw [List.length_drop];omega)]
 ·rw [Nat.min_eq_right (by omega),List.drop_length,List.drop_of_length_le (by omega)]
  simp
section
variable {X:Cx} {K:PySem.W.Frag}
end
end L2
namespace HT
open PySem PySem.Spec PyProof.Rows
section
variable {prog:Program} {w:World} {A:Around} {E:Value→Shared→Prop} {s:Shared}
end
end HT
namespace L2
open PySem PySem.Spec PyProof.Rows
def tStep (K:PySem.W.Frag) (te:TE) (ts:TO):TE:=fun σ H Q=>te σ H fun x H1=>ts σ H1 fun o H2=>∃ a y z,x=.ref a∧SqT K H2 a [y,z]∧((o=some (-1)∧∀ p,H2 p=none→Q (.ref p) (upd H2 p (.tup [z,y])))∨(o=some 1∧Q (.ref a) H2))
theorem vStep {K:PySem.W.Frag} {te:TE} {ts:TO} {σ:St} {H:Hp} {Q:VK} (h:te σ H fun x H1=>ts σ H1 fun o H2=>∃ a y z,x=.ref a∧SqT K H2 a [y,z]∧((o=some (-1)∧∀ p,H2 p=none→Q (.ref p) (upd H2 p (.tup [z,y])))∨(o=some 1∧Q (.ref a) H2))):tStep K te ts σ H Q:=h
section
variable {X:Cx} {K:PySem.W.Frag} {e st:Expr} {te:TE} {ts:TO} {p2 pos:Pos}
end
def FG (K:PySem.W.Frag) (nm:Str) (st:Stmt):Prop:=∃ f fd,PySem.W.nsIn K mainGlobals nm=some (some (.ref f))∧Fun K nm nm st f fd
def FM (K:PySem.W.Frag) (C:Addr) (m ql:Str) (st:Stmt):Prop:=∃ f fd,PySem.W.findIn K (.ref C) m=some (some (.ref f))∧PySem.W.isFn K (.ref f)=true∧Fun K m ql st f fd
def FC (K:PySem.W.Frag) (C:Addr) (m ql:Str) (st:Stmt):Prop:=∃ f fd,PySem.W.findCls K (.ref C) (.type "type") m=some (.val (.ref f))∧Fun K m ql st f fd
structure XQ (K:PySem.W.Frag) (C:Addr):Prop where
 xa:PySem.W.findIn K (.ref C) "__getattribute__"=some (some (.builtin "BaseException.__getattribute__"))
 xb:PySem.W.findIn K (.ref C) "__getattr__"=some none
 xd:PySem.W.mroIn K C (.type "BaseException")=some true
 xe:PySem.W.mroIn K C (.type "object")=some true
 xf:PySem.W.hasDictIn K C=true
 xg:PySem.W.findIn K (.ref C) "__class__"=some (some (.builtin "object.__class__"))
 xh:PySem.W.findIn K (.ref C) "__setattr__"=some (some (.builtin "object.__setattr__"))
 p:PySem.W.keepIn K (.ref C)=true
section
variable {P:Program} {w:World} {K:PySem.W.Frag} {mg:Str→Option Value} {base h:Heap} {CX:CXT} {k:Nat} {sp:Sp} {st:Stmt} {f:Addr} {fd:FuncData} {ps:List Str} {nm m ql x:Str} {C:Addr}
abbrev BA (x ql:Str) (st:Stmt) (ps:List Str):Prop:=∀ (kV doc pm:Value) (an:Option Addr) (cdv ct:Value) (us:List Value),us.length=ps.length→bindArgs (PySem.W.fnOf x ql (qj st) (qi st) (qd st) .none kV doc pm an cdv ct) ⟨us,[]⟩=pure (ps.zip us)
theorem fg_mk (X:K.In h) (G:h.Ns mainGlobals mg) (a:PySem.W.nsIn K mainGlobals nm=some (some (.ref f))) (F:Fun K nm nm st f fd) (o:FnOk P w K mg base CX k f fd ps sp)
  (hb:BA nm nm st ps:=by first | (exact fun _ _ _ _ _ _ us hl=>(match us,hl with | [_],_=>rfl)) | (exact fun _ _ _ _ _ _ us hl=>(match us,hl with | [_,_],_=>rfl)) | (exact fun _ _ _ _ _ _ us hl=>(match us,hl with | [_,_,_],_=>rfl)) | (exact fun _ _ _ _ _ _ us hl=>(match us,hl with | [_,_,_,_],_=>rfl))) :
  DefOk P w K mg base CX k nm ps sp:=⟨_,_,o,PySem.W.mg_of X G a,F.kp,F.binds hb⟩
theorem fm_mk (wcl:Cls K C) (a:PySem.W.findIn K (.ref C) m=some (some (.ref f))) (n:PySem.W.isFn K (.ref f)=true) (F:Fun K m ql st f fd) (o:FnOk P w K mg base CX k f fd ps sp)
  (hb:BA m ql st ps:=by first | (exact fun _ _ _ _ _ _ us hl=>(match us,hl with | [_],_=>rfl)) | (exact fun _ _ _ _ _ _ us hl=>(match us,hl with | [_,_],_=>rfl)) | (exact fun _ _ _ _ _ _ us hl=>(match us,hl with | [_,_,_],_=>rfl)) | (exact fun _ _ _ _ _ _ us hl=>(match us,hl with | [_,_,_,_],_=>rfl))) :
  MethOk P w K mg base CX k C m ps sp:=⟨⟨_,_,o,⟨a,n,F.kp⟩,F.binds hb⟩,wcl⟩
theorem fw_mk (X:K.In h) (G:h.Ns mainGlobals mg) (c:PySem.W.nsIn K mainGlobals x=some (some (.ref C))) (w5:PySem.W.makesIn K C=true) (w6:PySem.W.keepIn K (.ref C)=true) (a:PySem.W.findIn K (.ref C) "__init__"=some (some (.ref f))) (n:PySem.W.isFn K (.ref f)=true) (F:Fun K "__init__" ql st f fd) (o:FnOk P w K mg base CX k f fd ps sp)
  (hb:BA "__init__" ql st ps:=by first | (exact fun _ _ _ _ _ _ us hl=>(match us,hl with | [_],_=>rfl)) | (exact fun _ _ _ _ _ _ us hl=>(match us,hl with | [_,_],_=>rfl)) | (exact fun _ _ _ _ _ _ us hl=>(match us,hl with | [_,_,_],_=>rfl))) :
  MakeOk P w K mg base CX k C x ps sp:=⟨⟨_,_,o,⟨w5,a,n,w6⟩,F.binds hb⟩,PySem.W.mg_of X G c⟩
theorem qcp (X:K.In h) (G:h.Ns mainGlobals mg) (c:PySem.W.nsIn K mainGlobals x=some (some (.ref C))) (Y:XAt K C) (q:XQ K C) (a:PySem.W.findIn K (.ref C) "__init__"=some (some (.ref f))) (n:PySem.W.isFn K (.ref f)=true) (F:Fun K "__init__" ql st f fd) (o:FnOk P w K mg base CX0 k f fd ps sp)
  (hb:BA "__init__" ql st ps:=by first | (exact fun _ _ _ _ _ _ us hl=>(match us,hl with | [_],_=>rfl)) | (exact fun _ _ _ _ _ _ us hl=>(match us,hl with | [_,_],_=>rfl))) :
  XMakeOk P w K mg base k C x ps sp:=⟨⟨_,_,o,⟨Y,a,n,q.p⟩,F.binds hb⟩,PySem.W.mg_of X G c⟩
theorem fc_mk (X:K.In h) (G:h.Ns mainGlobals mg) (c:PySem.W.nsIn K mainGlobals x=some (some (.ref C))) (r1:PySem.W.readsIn K C (.type "type")=true) (r2:PySem.W.findCls K (.ref C) (.type "type") m=some (.val (.ref f))) (r3:PySem.W.specialIn K (.ref C) "__getattribute__"=some (some (.builtin "type.__getattribute__"))) (F:Fun K m ql st f fd) (o:FnOk P w K mg base CX k f fd ps sp)
  (hb:BA m ql st ps:=by (exact fun _ _ _ _ _ _ us hl=>(match us,hl with | [_,_],_=>rfl))) :
  CMethOk P w K mg base CX k C x m ps sp:=⟨⟨_,_,o,⟨r1,r2,r3,F.kp⟩,F.binds hb⟩,PySem.W.mg_of X G c⟩
theorem qbO {bm:List Value} (x:XL K C bm) (hb:qbX bm=true) (q:XQ K C) (w16:PySem.W.specialIn K (.builtin "object.__class__") "__get__"=some (some (.builtin "getset_descriptor.__get__"))) (w17:PySem.W.takesIn K (.builtin "object.__class__")=some true):XAt K C:=x.xat hb q.xa q.xb q.xd q.xe q.xf q.xg w16 w17 q.xh
end
end L2
namespace HT
open PySem PySem.Spec PyProof.Rows
section
variable {prog:Program} {w:World} {A:Around} {E:Value→Shared→Prop} {s:Shared}
theorem assign_Tuple_list {env:Env} {elts:List Expr} {x1} {pos:Pos} {l:Addr} {items:Array Value} {Q:Unit→Shared→Prop} (hh:A.handled=none) (hl:s.heap.IsList l items)
  (hn:(assignEach elts env).length=items.size) (hstar:(assignEach elts env).findIdx? (·.1)=none)
  (h:∀ h',Heap.ExtBut s.heap.objs.size s.heap h'→wpAny (model prog w) A (assignInOrder ((assignEach elts env).map (·.2)) items.toList) Q E { s with heap:=h' }) :
  wpAny (model prog w) A (assign (.Tuple elts x1 pos) env (.ref l)) Q E s:=by
 rw [assign_Tuple]
 refine wpAny_bind (wpAny_standAt ?_)
 unfold unpack
 rw [hn,hstar]
 exact wpAny_bind (wpAny_holding (PySem.W.kun_itemsOf hh hl h))
end
end HT
namespace L2
open PySem PySem.Spec PyProof.Rows
def qfM (K:PySem.W.Frag) (n:Nat) (t:TGs):TG:=fun v σ H Q=>∃ a xs,v=.ref a∧(SqT K H a xs∨SqL K H a xs)∧xs.length=n∧t xs σ H Q
theorem vAsgU {te:TE} {K:PySem.W.Frag} {n:Nat} {gs:TGs} {D:Ends} {σ:St} {H:Hp} (h:te σ H fun x H1=>qfM K n gs x σ H1 D.nx):qfU te (qfM K n gs) D σ H:=h
section
variable {X:Cx} {K:PySem.W.Frag} {pos p:Pos} {x:Str}
theorem pg_tupU {es:List Expr} {k:Nat} {t:TGs} {n:Nat} (hc:X.calm=true) (h:PGs X es t)
  (hn:(assignEach es X.env).length=n:=by rfl) (hst:(assignEach es X.env).findIdx? (·.1)=none:=by rfl):PG X (.Tuple es k pos) (qfM X.K n t):=by
 intro pins s σ H v u Q I r hw
 obtain ⟨a,xs,e1,hq,hl,hw⟩:=hw
 rcases hq with hq | hq
 ·exact qc6 hc h hn hst pins s σ H v u Q I r ⟨a,xs,e1,hq,hl,hw⟩
 ·subst e1
  cases r
  obtain ⟨its,rv,ht,hz⟩:=I.list hq
  refine HT.assign_Tuple_list (I.ok.hd hc) ht.isList (by simp [hn,← hl,rv.length]) hst fun h' hx=>?_
  have I1:Inv X pins σ H { s with heap:=h' }:=I.kept (t':=s.toks) fun b o e=>hx b o (Nat.ne_of_lt (Heap.lt_size e)) e
  exact h pins _ σ H xs _ Q I1 (by simpa using rv) hw
end
section
variable {X:Cx} {K:PySem.W.Frag} {e lo st:Expr} {te:TE} {tl ts:TO} {p2 pos:Pos}
end
def qhm (K:PySem.W.Frag) (te:TE) (ts:TO):TE:=fun σ H Q=>te σ H fun x H1=>ts σ H1 fun o H2=>o=some (-1)∧∃ a xs,x=.ref a∧SqL K H2 a xs∧∀ p,H2 p=none→Q (.ref p) (upd H2 p (.lst xs.reverse))
theorem qhn {K:PySem.W.Frag} {te:TE} {ts:TO} {σ:St} {H:Hp} {Q:VK} (h:te σ H fun x H1=>ts σ H1 fun o H2=>o=some (-1)∧∃ a xs,x=.ref a∧SqL K H2 a xs∧∀ p,H2 p=none→Q (.ref p) (upd H2 p (.lst xs.reverse))):qhm K te ts σ H Q:=h
theorem qdu:∀ {xs:List V} {us:List Value},Vals xs us→Vals xs.reverse us.reverse
 | _,_,.nil=>.nil
 | _,_,.cons r t=>by
  rw [List.reverse_cons,List.reverse_cons]
  exact (qdu t).append (.cons r .nil)
section
variable {X:Cx} {K:PySem.W.Frag} {e st:Expr} {te:TE} {ts:TO} {p2 pos:Pos}
theorem qfh (hK:X.K=K) (he:PE X e te) (hs:PO X (some st) ts):PE X (.Subscript e (.Slice none none (some st) p2) pos) (qhm K te ts):=by
 subst hK
 intro pins s σ H Q I h
 refine Subscript_ (thn (he pins s σ H _ I h) fun v s1 ⟨x,H1,I1,r1,q1⟩=>?_)
 refine wpAny_Slice ?_
 rw [evalPart_none]
 refine wpAny_pure ?_
 refine wpAny_pure ?_
 refine thn (hs pins s1 σ H1 _ I1 q1) fun vt s2 ⟨o,H2,I2,pt,eo,a,xs,ex,hx,q⟩=>?_
 subst eo ex
 cases r1
 have I4:Inv X pins σ H2 { s2 with heap:=s2.heap.push { cls:=.type "slice",data:=.fields #[.none,.none,vt] } }:=I2.kept (t':=s2.toks) fun b ob q=>Heap.get?_push_of_some _ q
 obtain ⟨its,r,ht,hz⟩:=I4.list hx
 have hlen:=r.length
 show wpAny (model X.prog X.w) X.A (subscriptTail e (.Slice none none (some st) p2) (.ref a) (.ref s2.heap.objs.size)) (EP X pins σ Q) X.xe { s2 with heap:=s2.heap.push { cls:=.type "slice",data:=.fields #[.none,.none,vt] } }
 refine tail_any (ops:=[.ref a,.ref s2.heap.objs.size]) ht.isList.typeIs slot_list_getitem.lookup (wpAny_getItem_list_slice ht.isList (Heap.IsSliceOf.new ..) .none .none pt (by decide) ?_ (by rw [List.size_toArray]<;>omega)) (by with_unfolding_all rfl)
 rw [PySem.W.krv_pick]
 refine ⟨.ref _,_,I4.laid (t':=s2.toks) (o:=.lst xs.reverse) (fun b ob q=>Heap.get?_push_of_some _ q) (Nat.le_refl _) ?_,rfl,q _ (I4.hok.fresh (Nat.le_refl _))⟩
 exact ⟨by rw [List.length_reverse];exact hz,_,0,qdu r,Heap.get?_push_size _ rfl⟩
def qho:HO→Bool
 | .lst _=>true
 | .tup _=>true
 | .dK _=>true
 | _=>false
def qgj (K:PySem.W.Frag):R2:=fun x y H Q=>qgJ K true x y H Q∨∃ (p:Addr) (xs:List Str) (b:Addr) (o:HO),y=.ref p∧SqL K H p (xs.map V.str)∧x=.ref b∧H b=some o∧qho o=true∧Q (.bl true) H
theorem str_declines_dict (b:Str) (u:Tok) (l:Addr) (c:Value) (dd:Option Addr) (es:Array DictEntry) (ep:Nat) (sl:Array (Option Value)) :
  Meets (Builtin.«str.__eq__» ⟨[.str b u,.ref l],[]⟩) (fun _ R s=>s.heap.get? l=some { cls:=c,dict:=dd,data:=.dict es ep,slots:=sl }∧R (.ok (.ret .notImplemented)) s):=
 .of_wp fun prog w A R s h=>by obtain ⟨hp,g,d,tk,os⟩:=s;obtain ⟨hl,h⟩:=h;wp_walk using wpAny_loadPart' hl,wpAny_load hl;exact ⟨_,rfl,h⟩
theorem str_dict {A:Around} {s:Shared} {a:Addr} {b:Str} {u:Tok} {c:Value} {dd:Option Addr} {es:Array DictEntry} {ep:Nat} {sl:Array (Option Value)} (ho:s.heap.get? a=some { cls:=c,dict:=dd,data:=.dict es ep,slots:=sl }) (hT:s.TypeIs (.ref a) "dict") (hu:A.units < cLine):SeqAt.EqAt A s (.str b u) (.ref a) false:=fun prog w E Q h=>by
 unfold eqBool
 refine wpAny_holding ?_
 refine wpAny_ite_split (fun hab=>absurd (eq_of_beq hab) nofun) (fun _=>?_)
 refine wpAny_bind ?_
 refine SeqAt.rc_eq_decline_or (k:=false) (typeIs_str s b u) hT (by decide) PySem.F.sub_dict_str PySem.F.slot_str_eq PySem.F.slot_dict_eq_refl
  (fun _ hq=>call_meets PySem.F.slot_str_eq (typeIs_str s b u) PySem.F.entry_str_eq (PySem.F.args_str_eq_2 _ _) (str_declines_dict b u a c dd es ep sl) ⟨ho,hq⟩) (fun Q' hq=>?_) (fun _ hq=>wpAny_of_eq (rfl:isSame (.str b u) (.ref a)=pure false) hq) (.inr hu) (wpAny_truthy_bool h)
 refine wpAny_call_entry PySem.F.slot_dict_eq_refl hT PySem.F.entry_dict_eq ?_ (PySem.F.args_dict_eq_2 _ _)
 show wpAny _ _ (Builtin.Dict.dictSlotArgs "__eq__" ⟨[.ref a,.str b u],[]⟩>>=_) _ _ s
 refine wpAny_bind ?_
 unfold Builtin.Dict.dictSlotArgs
 refine wpAny_bind (wpAny_notOrdered_dict hT ?_)
 show wpAny _ _ (pure (Value.ref a,Value.str b u)) _ _ s
 refine wpAny_pure ?_
 refine wpAny_bind (wpAny_isInstance (T:="str") (b:=false) rfl PySem.F.sub_str_dict ?_)
 simp only [Bool.not_false,if_true]
 exact wpAny_bind (wpAny_rule (wpAny_pure ⟨_,rfl,hq⟩))
theorem str_obj {pins:List (Addr×Obj)} {σ:St} {H:Hp} {s:Shared} {A:Around} {a:Addr} {o:HO} {b:Str} {u:Tok} (I:Inv X pins σ H s) (ha:H a=some o) (ho:qho o=true) (hu:A.units < cLine):SeqAt.EqAt A s (.str b u) (.ref a) false:=by
 cases o with
 | lst xs =>
  obtain ⟨its,r,pl,_⟩:=I.list (SqL.of (K:=X.K) ha)
  exact SeqAt.EqAt.str_list b u pl.isList hu
 | tup xs =>
  obtain ⟨its,r,pl,_⟩:=I.tuple (SqT.of (K:=X.K) ha)
  exact SeqAt.EqAt.str_tuple b u pl hu
 | dK kvs =>
  obtain ⟨_,_,vs,_,dd⟩:=qfH I.hok ha
  have hT:=dd.typeIs
  obtain ⟨⟨c,d,data,sl⟩,es,ep,h1,h2,h3,_⟩:=dd
  cases h3
  exact str_dict h1 hT hu
 | _=>cases ho
theorem k_notinX (hK:X.K=K) (hu:X.A.units + 100 < cLine):OpR X (compareOp .NotIn) (qgj K):=by
 intro pins s σ H x y u v Q I rx ry h
 rcases h with h | ⟨p,xs,b,o,rfl,hl,rfl,hb,ho,q⟩
 ·exact zg hK hu pins s σ H x y u v Q I rx ry h
 ·subst hK
  cases rx
  cases ry
  obtain ⟨its,r,pl,hz⟩:=I.list hl
  refine SeqAt.notIn_listAt (fun _=>false) pl.isList (fun w' hw=>?_) ?_
  ·have hw':w'∈its:=by simpa using hw
   obtain ⟨j,hj⟩:=List.mem_iff_getElem?.mp hw'
   obtain ⟨z,hz,rz⟩:=jr r hj
   obtain ⟨t,_,rfl⟩:=List.mem_map.mp (List.mem_of_getElem? hz)
   obtain ⟨tk,rfl⟩:=rz
   exact str_obj I hb ho (by show X.A.units + 1 < cLine;omega)
  ·have e:its.toArray.any (fun _=>false)=false:=by simp
   rw [e]
   exact ⟨.bl true,H,I,rfl,q⟩
end
section
variable {X:Cx} {a:Expr} {ta:TA} {p p2 pos pos2:Pos}
theorem mtR_reverse {X:Cx}:MtR X "list.reverse" qde:=mt_reverse
end
def Itd (n:Nat):It:=⟨fun i _=>i < n,fun i H x H'=>H'=H∧x=.int ((n:Int) - i),fun i _=>n≤i⟩
theorem turn_down {P:Program} {w:World} {K:PySem.W.Frag} {tg:Expr} (it:Addr) (n:Nat):Turn P w K tg (Itd n) [it] it (fun i h=>IsRangeIter h it ((n:Int) + (i:Nat) * (-1)) ((n:Int) - (i:Nat)) (-1)) where
 mem:=by simp
 obj:=fun i h st b hb=>by
  obtain rfl:b=it:=by simpa using hb
  exact ⟨_,st,fun v z=>by have z':Data.fields _=Data.cell v:=z;cases z'⟩
 keep:=fun i h h' st k=>k it (by simp) _ st
 item:=by
  intro X hP hw hK hc i pins s σ H E I hf st hg
  subst hP hw hK
  obtain ⟨g0,g1,_,g3,g4,g5⟩:=hf it (by simp)
  refine (Walks.range (prog:=X.prog) (w:=X.w) (I.ok.hd hc) it (n:Int) (-1) n).item i s _ _ hg st fun v h' tk hv st' kk=>?_
  obtain ⟨t,rfl⟩:=hv
  have J:Inv X pins σ H { s with heap:=h',toks:=tk }:=I.turned (fun b o hb e=>kk b o (by simpa using hb) e) g0 g1 g3 g4 g5
  refine ⟨_,rfl,qd0 (s:={ s with heap:=h',toks:=tk }) (n:="range_iterator") st' rfl rfl (by decide) ⟨.int ((n:Int) - i),H,J,⟨t,?_⟩,⟨rfl,rfl⟩,st',fun b hb=>(hf b hb).1⟩⟩
  congr 1
  omega
 done:=by
  intro X hP hw hK hc i pins s σ H E I hf st hg
  subst hP hw hK
  obtain ⟨g0,g1,_,g3,g4,g5⟩:=hf it (by simp)
  exact wpAny_pyNext_range_end (I.ok.hd hc) st (by have:n≤i:=hg;omega) fun h' eb=>⟨rfl,I.turned (t':=s.toks) (fun b o hb e=>eb b o hb e) g0 g1 g3 g4 g5⟩
 self:=fun _ _ _ _ _ st h=>wpAny_pyIter_rangeiter st h
def qgk (ta:TA):TI:=fun σ H R=>ta σ H fun vs H1=>∃ n:Nat,vs=[.int n,.int 0,.int (-1)]∧n≤1000∧R (Itd n) H1
theorem vDown {ta:TA} {σ:St} {H:Hp} {R:It→Hp→Prop} (h:ta σ H fun vs H1=>∃ n:Nat,vs=[.int n,.int 0,.int (-1)]∧n≤1000∧R (Itd n) H1):qgk ta σ H R:=h
theorem qcq (n:Nat):Builtin.Range.rangeSize (n:Int) 0 (-1)=n:=by
 unfold Builtin.Range.rangeSize
 rw [if_neg (by decide)]
 split
 ·rw [show (-(-1):Int)=1 by decide,Int.ediv_one];omega
 ·omega
theorem small_down {n:Nat} (h:n≤1000):Builtin.Range.small (n:Int) 0 (-1)=true:=by
 unfold Builtin.Range.small
 rw [qcq]
 simp only [Builtin.Range.rangeFitsLong,Bool.and_eq_true,Bool.or_eq_true,decide_eq_true_eq,beq_iff_eq]
 simp
 omega
theorem pi_down {X:Cx} {tg:Expr} {a b c:Expr} {ta:TA} {p pos:Pos} (hg:Gl X "range") (hm:X.mg "range"=none) (ha:PA X [a,b,c] ta) (hs:starEach [a,b,c] X.env=[(false,eval a X.env),(false,eval b X.env),(false,eval c X.env)]:=by rfl) (hs2:starEach [b,c] X.env=[(false,eval b X.env),(false,eval c X.env)]:=by rfl) :
  PI X tg (.Call (.Name "range" p) [a,b,c] [] pos) (qgk ta):=by
 intro pins s σ H R I h
 refine Call_ (qaY I hg hm boot_range (PyProof.Rows.callWith_type1 (thn (ha pos pins s σ H _ I h) fun us s1 ⟨vs,H1,I1,r1,q1⟩=>?_) (by rw [hs,hs2]) (by rw [hs2];rfl)))
 obtain ⟨n,e,hn,q⟩:=q1
 subst e
 cases r1 with
 | cons r rr =>
  cases rr with
  | cons r2 rr =>
   cases rr with
   | cons r3 rr =>
    cases rr
    obtain ⟨t,rfl⟩:=r
    obtain ⟨t2,rfl⟩:=r2
    obtain ⟨t3,rfl⟩:=r3
    refine call_range_3 (by decide) ?_ (.inl (PyProof.noPylong_small (by omega)))
    refine wpAny_pyIter_range (IsRange.new ..) (small_down hn) ?_
    have J:Inv X pins σ H1 { s1 with heap:=s1.heap.push { cls:=.type "range",data:=.fields #[.int n t,.int 0 t2,.int (-1) t3] },toks:=s1.toks }:=I1.kept fun b o e=>Heap.get?_push_of_some _ e
    refine ⟨_,[(s1.heap.push { cls:=.type "range",data:=.fields #[.int n t,.int 0 t2,.int (-1) t3] }).objs.size],_,_,H1,rfl,J.kept (t':=s1.toks) fun b o e=>Heap.get?_push_of_some _ e,turn_down _ n,?_,fun b hb=>?_,q⟩
    ·have e1:(n:Int) + ((0:Nat):Int) * (-1)=n:=by simp
     have e2:(n:Int) - ((0:Nat):Int)=Builtin.Range.rangeSize (n:Int) 0 (-1):=by rw [qcq];simp
     show IsRangeIter _ _ ((n:Int) + ((0:Nat):Int) * (-1)) ((n:Int) - ((0:Nat):Int)) (-1)
     rw [e1,e2]
     exact Heap.get?_push_size _ rfl
    ·obtain rfl:b=(s1.heap.push { cls:=.type "range",data:=.fields #[.int n t,.int 0 t2,.int (-1) t3] }).objs.size:=by simpa using hb
     exact J.fpOk (Nat.le_refl _) (J.hok.fresh (Nat.le_refl _))
theorem for_down {n:Nat} {g:TG} {tb:TS} {D:Ends} {σ:St} {H:Hp} (Pv:Nat→St→Hp→Prop) (h0:Pv 0 σ H)
  (hs:∀ i σ H,i < n→Pv i σ H→g (.int ((n:Int) - i)) σ H fun σ2 H2=>tb { D with nx:=Pv (i + 1),ct:=Pv (i + 1),bk:=D.nx } σ2 H2) (hd:∀ σ H,Pv n σ H→D.nx σ H) :
  ∃ W:Nat→Nat→St→Hp→Prop,(∃ m,W 0 m σ H)∧∀ i m σ H,W i m σ H →
   ((Itd n).stop i H∧D.nx σ H)∨((Itd n).go i H∧∃ N:St→Hp→Prop,(∀ σ' H',N σ' H'→∃ m',m' < m∧W (i + 1) m' σ' H')∧∀ x H',(Itd n).yld i H x H'→g x σ H' fun σ2 H2=>tb { D with nx:=N,ct:=N,bk:=D.nx } σ2 H2):=by
 refine ⟨fun i m σ H=>m=n - i∧i≤n∧Pv i σ H,⟨n,by simp,Nat.zero_le _,h0⟩,?_⟩
 rintro i m σ H ⟨rfl,hi,p⟩
 by_cases hlt:i < n
 ·refine .inr ⟨hlt,Pv (i + 1),fun σ' H' p'=>⟨n - (i + 1),by omega,rfl,hlt,p'⟩,fun x H' y=>?_⟩
  obtain ⟨rfl,rfl⟩:=y
  exact hs i σ _ hlt p
 ·obtain rfl:i=n:=by omega
  exact .inl ⟨Nat.le_refl _,hd σ H p⟩
theorem enum_from1 (l:Addr) (xs:Array Value) (k:Nat) (od:Option Addr) (os':Array (Option Value)) (t:Tok) :
  Meets (Builtin.«enumerate.__new__» ⟨[.type "enumerate",.ref l],[("start",.int 1 t)]⟩) (fun _ R s=>s.heap.get? l=some { cls:=.type "list",dict:=od,data:=.seq xs k,slots:=os' } ∧
   R (.ok (.ret (.ref (s.heap.objs.size + 1)))) { s with heap:=(s.heap.push { cls:=.type "list_iterator",data:=.fields #[.ref l,.int 0 0] }).push { cls:=.type "enumerate",data:=.fields #[.none,.bool false,.ref s.heap.objs.size,rawInt 1,.none,.none] } }):=
 .of_wp fun prog w A R s h=>by
  obtain ⟨hh,gs,dr,tt,os⟩:=s
  obtain ⟨a1,a2⟩:=h
  have b1:=sub_enumerate
  have b2:Heap.IsList (Shared.heap ⟨hh,gs,dr,tt,os⟩) l xs:=⟨_,a1,rfl,k,rfl⟩
  wp_walk using AutoSeq1.wpAny_loadPart' a1
  refine wpAny_stack_any fun rows=>?_
  refine wpAny_pure ?_
  split
  ·rename_i c _ _ _ _ _
   generalize (c==Value.type "enumerate")=cc
   cases cc
   ·wp_walk using AutoSeq1.wpAny_loadPart' a1,wpAny_pyIter_list b2
    exact ⟨_,rfl,by rw [Heap.size_push];exact a2⟩
   ·wp_walk using AutoSeq1.wpAny_loadPart' a1,wpAny_pyIter_list b2
    exact ⟨_,rfl,by rw [Heap.size_push];exact a2⟩
  ·wp_walk using AutoSeq1.wpAny_loadPart' a1,wpAny_pyIter_list b2
   exact ⟨_,rfl,by rw [Heap.size_push];exact a2⟩
section
variable {prog:Program} {w:World} {A:Around} {E:Value→Shared→Prop} {s:Shared}
theorem call_enum1 {l:Addr} {xs:Array Value} {t:Tok} {Q:Value→Shared→Prop} (hL:s.heap.IsList l xs)
  (h:∀ h',IsEnum h' (s.heap.objs.size + 1) s.heap.objs.size 1 .none→h'.IsListIter s.heap.objs.size l 0→(∀ b o,s.heap.get? b=some o→h'.get? b=some o)→Q (.ref (s.heap.objs.size + 1)) { s with heap:=h' }) :
  wpAny (model prog w) A (call (.type "enumerate") [.ref l] [("start",.int 1 t)]) Q E s:=by
 obtain ⟨⟨c0,od,dt,sl⟩,hl,hc,k,hd⟩:=hL
 cases hc
 cases hd
 have ft:=PySem.F.called_enumerate
 obtain ⟨cm,tl,e1⟩:=ft.mro
 have e2:=ft.made
 have e3:=ft.sub
 have e4:=ft.notType
 have e5:=ft.canCreate
 have e6:checkTypeCall "enumerate" ⟨[.ref l],[("start",.int 1 t)]⟩=pure ():=by kernel_rfl
 have e7:checkBuiltinCall "enumerate.__new__" ⟨[.type "enumerate",.ref l],[("start",.int 1 t)]⟩=pure ():=by kernel_rfl
 refine wpAny_call (codeAny_of_tree ?_)
 show wpAny _ _ (callAny (.type "enumerate") _) _ _ _
 refine wpAny_pure ⟨Code.quiet_builtin _ (by decide +kernel),codeAny_builtin PySem.F.entry_type_call ?_⟩
 rw [Around.under_plain (weight_type_call_type "enumerate" _ _) (units_type_call_type "enumerate" _ _)]
 repeat any_goals first | assumption | wp_step
 have st:({ s with heap:=(s.heap.push { cls:=.type "list_iterator",data:=.fields #[.ref l,.int 0 0] }).push { cls:=.type "enumerate",data:=.fields #[.none,.bool false,.ref s.heap.objs.size,rawInt 1,.none,.none] } }:Shared).heap.get? (s.heap.objs.size + 1)=some { cls:=.type "enumerate",data:=.fields #[.none,.bool false,.ref s.heap.objs.size,rawInt 1,.none,.none] }:=by
  have:=Heap.get?_push_size (s.heap.push { cls:=.type "list_iterator",data:=.fields #[.ref l,.int 0 0] }) (o:={ cls:=.type "enumerate",data:=.fields #[.none,.bool false,.ref s.heap.objs.size,rawInt 1,.none,.none] }) rfl
  rw [Heap.size_push] at this
  exact this
 have keep:∀ b o,s.heap.get? b=some o→((s.heap.push { cls:=.type "list_iterator",data:=.fields #[.ref l,.int 0 0] }).push { cls:=.type "enumerate",data:=.fields #[.none,.bool false,.ref s.heap.objs.size,rawInt 1,.none,.none] }).get? b=some o:=fun b o z=>Heap.get?_push_of_some _ (Heap.get?_push_of_some _ z)
 have itr:((s.heap.push { cls:=.type "list_iterator",data:=.fields #[.ref l,.int 0 0] }).push { cls:=.type "enumerate",data:=.fields #[.none,.bool false,.ref s.heap.objs.size,rawInt 1,.none,.none] }).IsListIter s.heap.objs.size l 0:=⟨_,Heap.get?_push_of_some _ (Heap.get?_push_size _ rfl),rfl,rfl⟩
 have fin:=h _ st itr keep
 have M:=enum_from1 l xs k od sl t prog w A.in1 (fun r s'=>r=.ok (.ret (.ref (s.heap.objs.size + 1)))∧s'={ s with heap:=(s.heap.push { cls:=.type "list_iterator",data:=.fields #[.ref l,.int 0 0] }).push { cls:=.type "enumerate",data:=.fields #[.none,.bool false,.ref s.heap.objs.size,rawInt 1,.none,.none] } }) s ⟨hl,rfl,rfl⟩
 refine codeAny_mono (codeAny_call_builtin (R:=fun r s'=>r=.ok (.ret (.ref (s.heap.objs.size + 1)))∧s'={ s with heap:=(s.heap.push { cls:=.type "list_iterator",data:=.fields #[.ref l,.int 0 0] }).push { cls:=.type "enumerate",data:=.fields #[.none,.bool false,.ref s.heap.objs.size,rawInt 1,.none,.none] } }) ft.plain PySem.F.entry_enumerate_new (wpAny_of_eq e7 M)) fun r s1 hr=>?_
 obtain ⟨rfl,rfl⟩:=hr
 generalize (s.heap.push { cls:=.type "list_iterator",data:=.fields #[.ref l,.int 0 0] }).push { cls:=.type "enumerate",data:=.fields #[.none,.bool false,.ref s.heap.objs.size,rawInt 1,.none,.none] }=hN at st fin ⊢
 have hT:({ s with heap:=hN }:Shared).TypeIs (.ref (s.heap.objs.size + 1)) "enumerate":=⟨_,st,rfl⟩
 have e8:=ft.init.lookup
 have e9:=ft.init.bind (.ref (s.heap.objs.size + 1))
 repeat any_goals first | assumption | wp_step
 have hok:argsOk "object.__init__" ⟨[.ref (s.heap.objs.size + 1),.ref l],[("start",.int 1 t)]⟩:=by unfold argsOk;rw [signature?_of (id:="object.__init__") (n:=['_','_','t','i','n','i','_','_']) (o:=['t','c','e','j','b','o']) (by kernel_rfl) PySem.F.owner_object];kernel_rfl
 have M2:wpAny (model prog w) A.in1.in1 (Builtin.«object.__init__» ⟨[.ref (s.heap.objs.size + 1),.ref l],[("start",.int 1 t)]⟩) (fun fin s'=>match fin with | .done f=>(Except.ok f:Result)=.ok (.ret .none)∧s'={ s with heap:=hN } | .again c'=>c'.quiet=true∧codeAny (model prog w) A.in1 c' (fun r s'=>r=.ok (.ret .none)∧s'={ s with heap:=hN }) s') (fun e s'=>(Except.error e:Result)=.ok (.ret .none)∧s'={ s with heap:=hN }) { s with heap:=hN }:=by
  repeat any_goals first | assumption | wp_step
  exact ⟨rfl,rfl⟩
 refine codeAny_mono (codeAny_call_builtin (R:=fun r s'=>r=.ok (.ret .none)∧s'={ s with heap:=hN }) ft.init.plain PySem.F.entry_object_init (ft.init.check _ _ _ _ _ _ _ _ hT hok M2)) fun r s2 hr=>?_
 obtain ⟨rfl,rfl⟩:=hr
 repeat any_goals first | assumption | wp_step
end
theorem qfi {prog:Program} {w:World} {A:Around} (hh:A.handled=none) (it l:Addr) (hne:l≠it) (xs:Array Value) :
  Draws prog w A it [it,l] (xs.size + 1) (fun j v=>∃ i,j=i + 1∧xs[i]?=some v) (fun j h=>∃ i,j=i + 1∧h.IsListIter it l i∧h.IsList l xs):=by
 have D:=Draws.list (prog:=prog) (w:=w) hh it l hne xs
 refine ⟨fun j h ⟨i,_,st⟩=>D.live i h st,fun j h h' ⟨i,e,st⟩ hk=>⟨i,e,D.frame i h h' st hk⟩,fun j s Q E hj ⟨i,e,st⟩ hQ=>?_,fun s Q E ⟨i,e,st⟩ hE=>?_⟩
 ·subst e
  exact D.item i s Q E (by omega) st fun x h' tk hP st' sb=>hQ x h' tk ⟨i,rfl,hP⟩ ⟨i + 1,rfl,st'⟩ sb
 ·obtain rfl:xs.size=i:=by omega
  exact D.done s Q E st hE
def Itf (K:PySem.W.Frag) (a:Addr):It:=
 ⟨fun i H=>∃ xs x,SqL K H a xs∧xs[i]?=some x,fun i H x H'=>∃ t y,x=.ref t∧H t=none∧H'=upd H t (.tup [.int ((i:Nat) + 1:Nat),y])∧∀ xs,SqL K H a xs→xs[i]?=some y,fun i H=>∃ xs,SqL K H a xs∧xs.length=i⟩
theorem turn_enum1 {P:Program} {w:World} {K:PySem.W.Frag} {es:List Expr} {x1} {pos:Pos} (a e it:Addr) (hei:e≠it) (hea:e≠a) (hai:a≠it):Turn P w K (.Tuple es x1 pos) (Itf K a) [e,it] e (fun i h=>(∃ old,IsEnum h e it ((i + 1:Nat):Int) old)∧h.IsListIter it a i) where
 mem:=by simp
 obj:=fun i h st b hb=>by
  obtain ⟨⟨old,he⟩,o,e1,c,d⟩:=st
  simp only [List.mem_cons,List.not_mem_nil,or_false] at hb
  rcases hb with rfl | rfl
  ·exact ⟨_,he,fun v z=>by have z':Data.fields _=Data.cell v:=z;cases z'⟩
  ·exact ⟨o,e1,fun v z=>by rw [d] at z;cases z⟩
 keep:=fun i h h' st k=>by
  obtain ⟨⟨old,he⟩,hit⟩:=st
  exact ⟨⟨old,k e (by simp) _ he⟩,hit.at fun o x=>k it (by simp) o x⟩
 item:=by
  intro X hP hw hK hc i pins s σ H E I hf st hg
  subst hP hw hK
  obtain ⟨⟨old,he⟩,hit⟩:=st
  obtain ⟨xs,x,hq,hx⟩:=hg
  obtain ⟨its,rv,p,hz⟩:=I.list hq
  obtain ⟨u,hu,ru⟩:=rv.get hx
  have hsz:i < its.toArray.size:=by have:=(List.getElem?_eq_some_iff.mp hu).1;simpa using this
  refine wpAny_pyNext_enum_itemD (qfi (show X.A.in1.handled=none from I.ok.hd hc) it a hai its.toArray) he ⟨i,rfl,hit,p.isList⟩ (by omega) hei (by simp [hei,hea]) fun x' h' tk hPx ho hst hT hsz' hk=>?_
  obtain ⟨i',e1,hx'⟩:=hPx
  obtain rfl:i=i':=by omega
  obtain rfl:x'=u:=by
   rw [List.getElem?_toArray] at hx'
   exact Option.some.inj (hx'.symm.trans hu)
  obtain ⟨i2,e2,hit',hl'⟩:=hst
  obtain rfl:i + 1=i2:=by omega
  refine ⟨_,rfl,wpAny_letOwnedTupleGo_enum ho fun h2 he2 hs2=>?_⟩
  have fre:H s.heap.objs.size=none:=I.hok.fresh (Nat.le_refl _)
  have ne1:s.heap.objs.size≠e:=Nat.ne_of_gt (Heap.lt_size he)
  have ne2:s.heap.objs.size≠it:=by obtain ⟨o,e1,_⟩:=hit;exact Nat.ne_of_gt (Heap.lt_size e1)
  have I1:Inv X pins σ (upd H s.heap.objs.size (.tup [.int ((i + 1:Nat):Int),x])) { s with heap:=s.heap.push { cls:=.type "tuple",data:=.seq #[.int ((i + 1:Nat):Int) tk,x'] },toks:=tk + 1 }:=
   I.laid (fun b u e=>Heap.get?_push_of_some _ e) (Nat.le_refl _) ⟨by show 2≤sizeLine;decide,[.int ((i + 1:Nat):Int) tk,x'],.cons ⟨_,rfl⟩ (.cons ru .nil),⟨_,Heap.get?_push_size _ rfl,rfl,_,rfl⟩⟩
  have hf1:∀ b∈[e,it],qbo X pins (upd H s.heap.objs.size (.tup [.int ((i + 1:Nat):Int),x])) b:=fun b hb=>by
   obtain ⟨f0,f⟩:=hf b hb
   refine ⟨?_,f⟩
   rw [qk]
   ·exact f0
   ·simp only [List.mem_cons,List.not_mem_nil,or_false] at hb
    rcases hb with rfl | rfl
    ·exact ne1.symm
    ·exact ne2.symm
  have kk:∀ b o,b∉[e,it]→(s.heap.push { cls:=.type "tuple",data:=.seq #[.int ((i + 1:Nat):Int) tk,x'] }).get? b=some o→h2.get? b=some o:=fun b o hb z=>by
   simp only [List.mem_cons,List.not_mem_nil,or_false,not_or] at hb
   by_cases hz:b=s.heap.objs.size
   ·subst hz
    rw [Heap.get?_push_size _ rfl] at z
    cases z
    exact (hs2.2 _ ne1).trans hT
   ·exact (hs2.2 b hb.1).trans (hk b o hb.1 hb.2 (qco z hz))
  have I2:=I1.turnedL (h':=h2) (t':=tk + 1) (fp:=[e,it]) kk hf1
  exact ⟨.ref s.heap.objs.size,_,I2,rfl,⟨_,x,rfl,fre,rfl,fun ys hy=>by rw [I.list_inj hy hq];exact hx⟩,⟨⟨_,by simpa using he2⟩,hit'.at fun o y=>(hs2.2 it hei.symm).trans y⟩,fun b hb=>(hf1 b hb).1⟩
 done:=by
  intro X hP hw hK hc i pins s σ H E I hf st hg
  subst hP hw hK
  obtain ⟨⟨old,he⟩,hit⟩:=st
  obtain ⟨xs,hq,hx⟩:=hg
  obtain ⟨its,rv,p,hz⟩:=I.list hq
  have hl:=rv.length
  refine wpAny_pyNext_enum_endD (qfi (show X.A.in1.handled=none from I.ok.hd hc) it a hai its.toArray) he ⟨i,by rw [List.size_toArray];omega,hit,p.isList⟩ fun h' eb=>⟨rfl,I.turnedL (t':=s.toks) (fp:=[e,it]) (fun b o hb z=>eb b o (fun z'=>hb (by simp [z'])) z) hf⟩
 self:=fun _ _ _ _ _ st h=>by
  obtain ⟨⟨old,he⟩,_⟩:=st
  exact wpAny_pyIter_enum he h
def qfj (K:PySem.W.Frag) (te:TE):TI:=fun σ H R=>te σ H fun v H1=>∃ a xs,v=.ref a∧SqL K H1 a xs∧R (Itf K a) H1
theorem vEnum1 {K:PySem.W.Frag} {te:TE} {σ:St} {H:Hp} {R:It→Hp→Prop} (h:te σ H fun v H1=>∃ a xs,v=.ref a∧SqL K H1 a xs∧R (Itf K a) H1):qfj K te σ H R:=h
theorem for_enum1 {K:PySem.W.Frag} {a:Addr} {xs:List V} {g:TG} {tb:TS} {D:Ends} {σ:St} {H:Hp} (Pv:Nat→St→Hp→Prop) (h0:Pv 0 σ H) (hl:∀ i σ H,i≤xs.length→Pv i σ H→SqL K H a xs)
  (hs:∀ i x t σ H,xs[i]?=some x→H t=none→Pv i σ H→g (.ref t) σ (upd H t (.tup [.int ((i + 1:Nat):Int),x])) fun σ2 H2=>tb { D with nx:=Pv (i + 1),ct:=Pv (i + 1),bk:=D.nx } σ2 H2) (hd:∀ σ H,Pv xs.length σ H→D.nx σ H) :
  ∃ W:Nat→Nat→St→Hp→Prop,(∃ m,W 0 m σ H)∧∀ i m σ H,W i m σ H →
   ((Itf K a).stop i H∧D.nx σ H)∨((Itf K a).go i H∧∃ N:St→Hp→Prop,(∀ σ' H',N σ' H'→∃ m',m' < m∧W (i + 1) m' σ' H')∧∀ x H',(Itf K a).yld i H x H'→g x σ H' fun σ2 H2=>tb { D with nx:=N,ct:=N,bk:=D.nx } σ2 H2):=by
 refine ⟨fun i m σ H=>m=xs.length - i∧i≤xs.length∧Pv i σ H,⟨xs.length,by simp,Nat.zero_le _,h0⟩,?_⟩
 rintro i m σ H ⟨rfl,hi,p⟩
 have q:=hl i σ H hi p
 by_cases hlt:i < xs.length
 ·refine .inr ⟨⟨xs,xs[i],q,by simp [hlt]⟩,Pv (i + 1),fun σ' H' p'=>⟨xs.length - (i + 1),by omega,rfl,hlt,p'⟩,fun x H' y=>?_⟩
  obtain ⟨t,v,rfl,ht,rfl,y⟩:=y
  exact hs i v t σ _ (y xs q) ht p
 ·obtain rfl:i=xs.length:=by omega
  exact .inl ⟨⟨xs,q,rfl⟩,hd σ H p⟩
theorem callWith_tyK {M:Model} {A:Around} {E:Value→Shared→Prop} {s:Shared} {pos:Pos} {T:String} {x:Sem Value} {kws:List (Option Str×Sem Value)} {Q:Value→Shared→Prop} (h1:kws.all (·.1.isSome)=true) (h2:kws.any (·.1.isNone)=false)
  (h:wpAny M A (spliced [(false,x)]) (fun vs s1=>wpAny M A (evalAll (kws.map (·.2))) (fun ks s2=>wpAny M A (call (.type T) vs ((kws.filterMap (·.1)).zip ks)) Q E s2) E s1) E s):wpAny M A (callWith pos (.type T) [] [(false,x)] kws) Q E s:=by
 have g:wpAny M A (evalArgs (.type T) true [(false,x)] kws) (fun a s1=>wpAny M A (call (.type T) ([]++a.pos) a.kw) Q E s1) E s:=evalArgs_kw h1 h
 unfold callWith
 refine wpAny_bind (wpAny_holding (wpAny_mono g (fun ar sv hv=>?_) fun _ _ z=>z))
 refine wpAny_bind (wpAny_standAt ?_)
 simp only [h2,List.any_cons,List.any_nil,Bool.or_false]
 refine wpAny_bind (wpAny_pure (wpAny_bind ?_))
 exact wpAny_mono hv (fun rv sw hw=>wpAny_bind (wpAny_holding (wpAny_point (wpAny_pure hw)))) fun _ _ z=>z
theorem pi_enum1 {X:Cx} {K:PySem.W.Frag} {a:Expr} {ta:TE} {es:List Expr} {x1} {tp p pos kp cp:Pos} {ck:Nat} (hK:X.K=K) (hg:Gl X "enumerate") (hm:X.mg "enumerate"=none) (ha:PE X a ta) (hs:starEach [a] X.env=[(false,eval a X.env)]:=by rfl):PI X (.Tuple es x1 tp) (.Call (.Name "enumerate" p) [a] [⟨some "start",.Constant (.int 1) ck cp,kp⟩] pos) (qfj K ta):=by
 subst hK
 intro pins s σ H R I h
 refine wpAny_Call_Name_kw (qaY I hg hm qal ?_)
 rw [hs]
 refine callWith_tyK (x:=eval a X.env) rfl rfl ?_
 refine Calls.spliced_cons (thn (ha pins s σ H _ I h) fun u s1 ⟨v,H1,I1,r1,q1⟩=>Calls.spliced_nil ?_)
 obtain ⟨l,xs,e,hq,q⟩:=q1
 subst e
 cases r1
 refine thn (pk_cons (X:=X) (te:=tC (.int 1)) qg pk_nil pos pins s1 σ H1 (fun vs H'=>vs=[.int 1]∧H'=H1) I1 ⟨rfl,rfl⟩) fun ks s2 ⟨zs,H2,I2,rz,ez,eH⟩=>?_
 subst ez eH
 cases rz with
 | cons rz rr =>
  cases rr
  obtain ⟨t,rfl⟩:=rz
  obtain ⟨its,rv,pl,hz⟩:=I2.list hq
  have la:l < s2.heap.objs.size:=by obtain ⟨_,e,_⟩:=pl.isList;exact Heap.lt_size e
  refine call_enum1 pl.isList fun h' he hi hk=>wpAny_pyIter_enum he ?_
  refine ⟨_,[s2.heap.objs.size + 1,s2.heap.objs.size],_,_,H2,rfl,I2.kept (t':=s2.toks) hk,turn_enum1 l _ _ (Nat.succ_ne_self _) (Nat.ne_of_gt (Nat.lt_succ_of_lt la)) (Nat.ne_of_lt la),⟨⟨_,he⟩,hi⟩,fun b hb=>?_,q⟩
  simp only [List.mem_cons,List.not_mem_nil,or_false] at hb
  rcases hb with rfl | rfl
  ·exact I2.fpOk (Nat.le_succ _) (I2.hok.fresh (Nat.le_succ _))
  ·exact I2.fpOk (Nat.le_refl _) (I2.hok.fresh (Nat.le_refl _))
end L2
namespace L2
open PySem PySem.Spec PyProof.Rows PySem.Builtin PySem.Builtin.Str
theorem qfk {x y:Str} {a b:Nat} (hy:1≤y.length) (hb:b≤x.length) (hn:∀ k,a≤k→k < b→¬ StrLaws.At x y x.length k) (l r:List Nat):(strSub x a b).cps.toList≠l++y.cps.toList++r:=fun h=>by
 rw [StrLaws.strSub_toList] at h
 have hyl:y.cps.toList.length=y.length:=by simp [Str.length]
 have hxl:x.cps.toList.length=x.length:=by simp [Str.length]
 have hl:=congrArg List.length h
 simp only [List.length_take,List.length_drop,List.length_append,hyl,hxl] at hl
 refine hn (a + l.length) (by omega) (by omega) ⟨by omega,?_⟩
 rw [StrLaws.subAt_eq,beq_iff_eq]
 have e1:(x.cps.toList.drop (a + l.length)).take y.length=((((x.cps.toList.drop a).take (b - a)).drop l.length).take y.length):=by
  rw [List.drop_take,List.drop_drop,List.take_take]
  congr 1
  omega
 rw [e1,h,List.append_assoc,List.drop_left,← hyl,List.take_left]
theorem qbP {x y:Str} (hy:1≤y.length):∀ (cuts:List Nat) (a f:Nat),StrLaws.ChainG x y x.length a cuts f→(∀ k,f≤k→¬ StrLaws.At x y x.length k)→∀ p∈StrLaws.partsFrom x y.length a cuts,∀ l r,p.cps.toList≠l++y.cps.toList++r
 | [],a,f,h,hn,p,hp=>by
  obtain rfl:f=a:=h
  rw [List.mem_singleton.mp hp]
  exact qfk hy (Nat.le_refl _) fun k h1 _=>hn k h1
 | c::cs,a,f,h,hn,p,hp=>by
  rcases List.mem_cons.mp hp with rfl | hq
  ·exact qfk hy (by have:=h.2.1.1;omega) h.2.2.1
  ·exact qbP hy cs _ f h.2.2.2 hn p hq
theorem split_no {x y:Str} (hy:1≤y.length) (hk:Builtin.Str.strKind y=1):∀ p∈Txt.split x y,∀ l r,p.cps.toList≠l++y.cps.toList++r:=by
 obtain ⟨f,hG,hn⟩:=StrLaws.occ_tight x y hy
 have hyl:y.cps.toList.length=y.length:=by simp [Str.length]
 have hxl:x.cps.toList.length=x.length:=by simp [Str.length]
 intro p hp l r
 unfold Txt.split at hp
 split at hp
 ·rename_i hc
  rw [List.mem_singleton.mp hp]
  intro h
  rw [Bool.or_eq_true,decide_eq_true_eq,decide_eq_true_eq] at hc
  rcases hc with hc | hc
  ·have hl:=congrArg List.length h
   simp only [List.length_append,hyl,hxl] at hl
   omega
  ·rw [hk] at hc
   have:1≤Builtin.Str.strKind x:=by
    unfold Builtin.Str.strKind
    split
    ·omega
    ·split<;>omega
   omega
 ·split at hp
  ·rename_i he
   have e:occurrences x y 0 x.length (x.length + 1)=[]:=List.isEmpty_iff.mp he
   rw [e] at hG
   have hpx:p=x:=List.mem_singleton.mp hp
   have hs:strSub x 0 x.length=x:=qcP (by rw [StrLaws.strSub_toList,List.drop_zero,Nat.sub_zero,← hxl,List.take_length])
   rw [hpx,← hs]
   exact qbP hy [] 0 f hG hn (strSub x 0 x.length) (List.mem_singleton.mpr rfl) l r
  ·rw [StrLaws.partsBetween_eq] at hp
   exact qbP hy _ 0 f hG hn p hp l r
theorem qfN:∀ {xs ys:List (List Nat)},xs≠[]→(∀ x∈xs,∀ l r,x≠l++[32,62,32]++r)→(∀ y∈ys,y≠[]∧32∉y∧62∉y)→ys≠[]→jl [32,62,32] xs=jl [32,62,32] ys→xs=ys
 | [],_,h,_,_,_,_=>absurd rfl h
 | _::_,[],_,_,_,h,_=>absurd rfl h
 | [x],[y],_,_,_,_,h=>by
  have:x=y:=h
  rw [this]
 | [x],y::y'::s,_,hx,_,_,h=>by
  have h:x=y++[32,62,32]++jl [32,62,32] (y'::s):=h
  exact absurd h (hx x List.mem_cons_self _ _)
 | x::x'::r,[y],_,_,hy,_,h=>by
  have h:x++[32,62,32]++jl [32,62,32] (x'::r)=y:=h
  exact absurd (show 62∈y by rw [← h];simp) (hy y List.mem_cons_self).2.2
 | x::x'::r,y::y'::s,_,hx,hy,_,h=>by
  have h:x++[32,62,32]++jl [32,62,32] (x'::r)=y++[32,62,32]++jl [32,62,32] (y'::s):=h
  obtain ⟨_,hy1,hy2⟩:=hy y List.mem_cons_self
  obtain ⟨hz0,hz1,hz2⟩:=hy y' (List.mem_cons_of_mem _ List.mem_cons_self)
  have hrest:∃ c R,jl [32,62,32] (y'::s)=c::R∧c≠62:=by
   cases y' with
   | nil=>exact absurd rfl hz0
   | cons c t =>
    refine ⟨c,?_⟩
    have hc:c≠62:=fun e=>hz2 (by rw [e];exact List.mem_cons_self)
    cases s with
    | nil=>exact ⟨t,rfl,hc⟩
    | cons y'' s'=>exact ⟨_,rfl,hc⟩
  rw [List.append_assoc,List.append_assoc] at h
  rcases List.append_eq_append_iff.mp h with ⟨d,e1,e2⟩ | ⟨d,e1,e2⟩
  ·cases d with
   | nil =>
    rw [List.append_nil] at e1
    have e2:[32,62,32]++jl [32,62,32] (x'::r)=[32,62,32]++jl [32,62,32] (y'::s):=e2
    have e3:=List.append_cancel_left e2
    rw [e1,qfN (by simp) (fun z hz=>hx z (List.mem_cons_of_mem _ hz)) (fun z hz=>hy z (List.mem_cons_of_mem _ hz)) (by simp) e3]
   | cons c t =>
    have:c=32:=by have e2:=(List.cons.inj e2).1;exact e2.symm
    exact absurd (by rw [e1,this];simp) hy1
  ·match d,e1,e2 with
   | [],e1,e2 =>
    rw [List.append_nil] at e1
    have e2:[32,62,32]++jl [32,62,32] (y'::s)=[32,62,32]++jl [32,62,32] (x'::r):=e2
    have e3:=List.append_cancel_left e2
    rw [e1,qfN (by simp) (fun z hz=>hx z (List.mem_cons_of_mem _ hz)) (fun z hz=>hy z (List.mem_cons_of_mem _ hz)) (by simp) e3.symm]
   | [a],e1,e2 =>
    have:=(List.cons.inj (List.cons.inj e2).2).1
    exact absurd this (by decide)
   | [a,b],e1,e2 =>
    obtain ⟨c,R,e3,hc⟩:=hrest
    have e4:=(List.cons.inj (List.cons.inj (List.cons.inj e2).2).2).2
    rw [e3] at e4
    exact absurd (List.cons.inj e4).1 hc
   | a::b::c::t,e1,e2 =>
    have h1:=List.cons.inj e2
    have h2:=List.cons.inj h1.2
    have h3:=List.cons.inj h2.2
    have:x=y++[32,62,32]++t:=by rw [e1,← h1.1,← h2.1,← h3.1];simp
    exact absurd this (hx x List.mem_cons_self _ _)
theorem split_gt {ls:List Str} (ne:ls≠[]) (h:∀ l∈ls,l.cps.toList≠[]∧32∉l.cps.toList∧62∉l.cps.toList):Txt.split (Txt.join " > " ls) " > "=ls:=by
 have es:(" > ":Str).cps.toList=[32,62,32]:=by decide +kernel
 apply qa0
 refine qfN ?_ (fun x hx l r=>?_) (fun x hx=>?_) (by simpa using ne) ?_
 ·have:=split_pos (Txt.join " > " ls) " > "
  intro h
  rw [List.map_eq_nil_iff] at h
  rw [h] at this
  exact absurd this (by decide)
 ·obtain ⟨p,hp,rfl⟩:=List.mem_map.mp hx
  have:=split_no (y:=" > ") (by decide) (by decide +kernel) p hp l r
  rw [es] at this
  exact this
 ·obtain ⟨l,hl,rfl⟩:=List.mem_map.mp hx
  exact h l hl
 ·have h1:=zV " > " (Txt.split (Txt.join " > " ls) " > ")
  have h2:=zV " > " ls
  rw [← qaT] at h2
  rw [StrLaws.join_split] at h1
  rw [es] at h1 h2
  exact h1.symm.trans h2
end L2
namespace L2
open PySem PySem.Spec PyProof.Rows
theorem ent_unchain:entryFor table "proto.unchain"=some Builtin.«proto.unchain»:=entryFor_of_fast (by kernel_rfl)
def Calm1 (h:Heap) (a:Addr):Prop:=∃ o vs,h.get? a=some o∧o.data=.fields vs∧vs[2]?=some .none
section
variable {P:Program} {w:World} {A:Around} {E:Value→Shared→Prop} {s:Shared}
theorem qbA {α:Type} {x a:Addr} {ox:Obj} {ws:Array Value} {Q:α→Shared→Prop} (e0:A.handled=some (.ref a)) (na:a≠x) (ca:Calm1 s.heap a) (hx:s.heap.get? x=some ox) (dx:ox.data=.fields ws) (z:2 < ws.size)
  (k:E (.ref x) { s with heap:=s.heap.update x (Obj.mapFields (·.setIfInBounds 2 (.ref a))) }):wpAny (model P w) A (raiseNew (α:=α) (.ref x)) Q E s:=by
 obtain ⟨o,vs,g1,g2,g3⟩:=ca
 unfold raiseNew
 refine wpAny_bind (wpAny_handled ?_)
 rw [e0]
 have nb:((Value.ref a) != (Value.ref x))=true:=by
  simp [bne,BEq.beq,na]
 show wpAny _ _ (if ((Value.ref a) != (Value.ref x))=true then _ else _) _ _ s
 rw [if_pos nb]
 refine wpAny_bind (wpAny_holding (wpAny_runValue (codeAny_builtin ent_unchain ?_)))
 unfold Builtin.«proto.unchain»
 refine wpAny_bind (wpAny_field g1 g2 g3 ?_)
 show wpAny _ _ (if (Value.none==Value.none)=true then _ else _) _ _ s
 rw [if_pos (show ((Value.none==Value.none)=true) from rfl)]
 refine wpAny_pure ?_
 show wpAny (model P w) A (updateField x 2 (Value.ref a)>>=fun _=>throw (Value.ref x)) Q E s
 unfold updateField
 refine wpAny_bind (wpAny_bind (wpAny_load hx ?_))
 rw [dx]
 show wpAny _ _ (if 2 < ws.size then _ else _) _ _ s
 rw [if_pos z]
 exact wpAny_update hx (wpAny_throw k)
theorem qaJ {it l a:Addr} {i:Nat} {items:Array Value} {Q:Option Value→Shared→Prop} (e0:A.handled=some (.ref a)) (na:a≠it) (ca:Calm1 s.heap a) (hit:s.heap.IsListIter it l i) (hl:s.heap.IsList l items) (hx:items[i]?=none)
  (k:∀ h',Heap.ExtBut it s.heap h'→Q none { s with heap:=h' }):wpAny (model P w) A (pyNext (.ref it)) Q E s:=by
 obtain ⟨r,hr,rc,rd⟩:=id hit
 obtain ⟨m,hm,_,nn,md⟩:=hl
 unfold pyNext
 refine wpAny_bind (wpAny_attempt (wpAny_callSpecial?_slot (name:=Str.ofString "__next__") hit.typeIs slot_listiter_next (wpAny_call_entry slot_listiter_next hit.typeIs entry_listiter_next ?_ (args_listiter_next _))))
 show wpAny _ _ (field (Value.ref it) 0>>=_) _ _ _
 refine wpAny_bind (wpAny_field hr rd (x:=.ref l) rfl ?_)
 show wpAny _ _ (if ((Value.ref l)==.none)=true then _ else _) _ _ s
 rw [if_neg (fun z:((Value.ref l)==.none)=true=>Bool.false_ne_true z)]
 show wpAny _ _ (field (Value.ref it) 1>>=_) _ _ _
 refine wpAny_bind (wpAny_field hr rd (x:=.int i 0) rfl ?_)
 show wpAny _ _ (seqItems? (Value.ref l)>>=_) _ _ _
 refine wpAny_bind (wpAny_seqItems hm md ?_)
 simp only [hx,Int.toNat_natCast]
 refine wpAny_bind (wpAny_rule (wpAny_bind (wpAny_setField hr rd (by simp) ?_)))
 show wpAny _ _ (newExc (Value.type "StopIteration") []>>=_) _ _ _
 refine wpAny_bind ?_
 simp only [newTuple,newExc]
 refine wpAny_bind (wpAny_newObj_type (wpAny_bind (m:=firstArgMember _ _) (wpAny_of_eq (a:=Value.none) (by first | rfl | (simp only [firstArgMember];rfl)) (wpAny_newObj_type ?_ (by size_fits)))) (by size_fits))
 have b1:=(Heap.SameBut.update s.heap it (Obj.mapFields (·.setIfInBounds 0 .none))).extBut.push ⟨.type "tuple",none,.seq #[] 0,#[]⟩
 show wpAny _ _ (raiseNew (Value.ref (((s.heap.update it (Obj.mapFields (·.setIfInBounds 0 .none))).push ⟨.type "tuple",none,.seq #[] 0,#[]⟩).objs.size))) _ _ { s with heap:=(((s.heap.update it (Obj.mapFields (·.setIfInBounds 0 .none))).push ⟨.type "tuple",none,.seq #[] 0,#[]⟩).push _) }
 generalize ((s.heap.update it (Obj.mapFields (·.setIfInBounds 0 .none))).push ⟨.type "tuple",none,.seq #[] 0,#[]⟩)=h1 at b1 ⊢
 obtain ⟨o,vs,g1,g2,g3⟩:=ca
 have g1':=b1 _ _ na g1
 refine qbA (a:=a) (show A.in1.handled=some (.ref a) from e0) (Nat.ne_of_lt (Heap.lt_size g1')) ⟨o,vs,Heap.get?_push_of_some _ g1',g2,g3⟩ (Heap.get?_push_size _ rfl) rfl (by show 2 < 6;decide) ?_
 refine wpAny_bind (wpAny_isInstance (T:="StopIteration") (b:=true) ⟨_,Heap.get?_update_self _ (Heap.get?_push_size _ rfl) rfl,rfl⟩ isSubtype_stop ?_)
 refine wpAny_pure (k _ fun b ob nb e=>?_)
 have e1:=b1 b ob nb e
 rw [Heap.get?_update_ne _ _ _ _ (Nat.ne_of_lt (Heap.lt_size e1))]
 exact Heap.get?_push_of_some _ e1
theorem ascii_end_amid {it a:Addr} {x:Str} {t:Tok} {i:Nat} {Q:Option Value→Shared→Prop} (e0:A.handled=some (.ref a)) (na:a≠it) (ca:Calm1 s.heap a) (hit:s.heap.IsStrIter it "str_ascii_iterator" x t i) (hx:x.cps[i]?=none)
  (k:∀ h',Heap.ExtBut it s.heap h'→Q none { s with heap:=h' }):wpAny (model P w) A (pyNext (.ref it)) Q E s:=by
 obtain ⟨r,hr,rc,rd⟩:=id hit
 unfold pyNext
 refine wpAny_bind (wpAny_attempt (wpAny_callSpecial?_slot (name:=Str.ofString "__next__") hit.typeIs F.slot_str_ascii_iterator_next (wpAny_call_entry F.slot_str_ascii_iterator_next hit.typeIs F.entry_str_ascii_iterator_next ?_ (F.args_str_ascii_iterator_next_1 _))))
 show wpAny _ _ (field (Value.ref it) 0>>=_) _ _ _
 refine wpAny_bind (wpAny_field hr rd (x:=.str x t) rfl ?_)
 show wpAny _ _ (field (Value.ref it) 1>>=_) _ _ _
 refine wpAny_bind (wpAny_field hr rd (x:=.int i 0) rfl ?_)
 simp only [hx,Int.toNat_natCast]
 refine wpAny_bind (wpAny_rule (wpAny_bind (wpAny_setField hr rd (by simp) ?_)))
 refine wpAny_bind (wpAny_letGo ?_)
 show wpAny _ _ (newExc (Value.type "StopIteration") []>>=_) _ _ _
 refine wpAny_bind ?_
 simp only [newTuple,newExc]
 refine wpAny_bind (wpAny_newObj_type (wpAny_bind (m:=firstArgMember _ _) (wpAny_of_eq (a:=Value.none) (by first | rfl | (simp only [firstArgMember];rfl)) (wpAny_newObj_type ?_ (by size_fits)))) (by size_fits))
 generalize hq:s.heap.update it _=h0
 have b0:Heap.ExtBut it s.heap h0:=by rw [← hq];exact (Heap.SameBut.update ..).extBut
 have b1:=b0.push ⟨.type "tuple",none,.seq #[] 0,#[]⟩
 show wpAny _ _ (raiseNew (Value.ref ((h0.push ⟨.type "tuple",none,.seq #[] 0,#[]⟩).objs.size))) _ _ { s with heap:=((h0.push ⟨.type "tuple",none,.seq #[] 0,#[]⟩).push _) }
 generalize (h0.push ⟨.type "tuple",none,.seq #[] 0,#[]⟩)=h1 at b1 ⊢
 obtain ⟨o,vs,g1,g2,g3⟩:=ca
 have g1':=b1 _ _ na g1
 refine qbA (a:=a) (show A.in1.handled=some (.ref a) from e0) (Nat.ne_of_lt (Heap.lt_size g1')) ⟨o,vs,Heap.get?_push_of_some _ g1',g2,g3⟩ (Heap.get?_push_size _ rfl) rfl (by show 2 < 6;decide) ?_
 refine wpAny_bind (wpAny_isInstance (T:="StopIteration") (b:=true) ⟨_,Heap.get?_update_self _ (Heap.get?_push_size _ rfl) rfl,rfl⟩ isSubtype_stop ?_)
 refine wpAny_pure (k _ fun b ob nb e=>?_)
 have e1:=b1 b ob nb e
 rw [Heap.get?_update_ne _ _ _ _ (Nat.ne_of_lt (Heap.lt_size e1))]
 exact Heap.get?_push_of_some _ e1
theorem Calm1.keep {h h':Heap} {a:Addr} (c:Calm1 h a) (k:∀ o,h.get? a=some o→h'.get? a=some o):Calm1 h' a:=by
 obtain ⟨o,vs,g1,g2,g3⟩:=c
 exact ⟨o,vs,k o g1,g2,g3⟩
theorem walks_amid {it ax a:Addr} (e0:A.handled=some (.ref a)) (na:a≠it) (hne:ax≠it) (items:Array Value) :
  Walks P w A it [it,ax,a] [it] items.size (fun i v=>items[i]?=some v) (fun i h=>(h.IsListIter it ax i∧h.IsList ax items)∧Calm1 h a) where
 sub:=fun b hb=>by simp at hb;simp [hb]
 frame:=fun _ _ _ st hk=>⟨⟨st.1.1.at fun o e=>hk it (by simp) o e,st.1.2.at fun o e=>hk ax (by simp) o e⟩,st.2.keep fun o e=>hk a (by simp) o e⟩
 item:=fun i s Q E hi st hQ=>by
  refine wpAny_pyNext_list_item st.1.1 st.1.2 (x:=items[i]) (by simp [hi]) fun h' hit' hs'=>?_
  refine hQ _ h' s.toks (by simp [hi]) ⟨⟨hit',st.1.2.extBut hs'.extBut hne⟩,st.2.keep fun o e=>hs'.extBut a o na e⟩ fun b o hb e=>?_
  exact hs'.extBut b o (fun h=>hb (by simp [h])) e
 done:=fun s Q E st hQ=>by
  refine qaJ e0 na st.2 st.1.1 st.1.2 (by simp) fun h' he'=>hQ h' s.toks fun b o hb e=>?_
  exact he' b o (fun h=>hb (by simp [h])) e
 self:=fun _ _ _ _ st hQ=>wpAny_pyIter_listiter st.1.1 hQ
end
def qdP (o:Obj):Prop:=∃ vs,o.data=.fields vs∧vs[2]?=some .none
def Mild (X:Cx):Prop:=∃ a o,X.A.handled=some (.ref a)∧qdP o∧∀ pins σ H s,Inv X pins σ H s→s.heap.get? a=some o∧H a=none∧a∉frs X.stack
abbrev Cx.soft (X:Cx):Cx:={ X with calm:=false }
structure RoomM (k:Nat) (A:Around):Prop where
 dp:A.depth + 3 * k + 5 < recursionLimit
 un:A.units + 16 * k + 200 < cLine
theorem RoomM.dn {j k:Nat} {A:Around} (r:RoomM k A) (h:j≤k):RoomM j A:=⟨by have:=r.dp;omega,by have:=r.un;omega⟩
theorem RoomM.deeper {k:Nat} {A:Around} (r:RoomM (k + 1) A) (env:Env):RoomM k (A.deeper env):=
 ⟨by have:=r.dp;show A.depth + 1 + 3 * k + 5 < _;omega,by have:=r.un;show A.units + 3 + 16 * k + 200 < _;omega⟩
theorem Room.mild {k:Nat} {A:Around} (r:Room k A) (h:Option Value):RoomM k (A.mark h):=⟨r.dp,r.un⟩
structure FnOkM (P:Program) (w:World) (K:PySem.W.Frag) (mg:Str→Option Value) (base:Heap) (k:Nat) (f:Addr) (fd:FuncData) (ps:List Str) (sp:Sp):Prop where
 len:∀ vs H Q E,sp vs H Q E→vs.length=ps.length
 run:∀ (A:Around) (outer:List Env) (s:Shared) (H:Hp) (args:Args) (us:List Value) (vs:List V) (Q:VK) (E:XK) (a:Addr) (o:Obj),RoomM k A→A.handled=some (.ref a)→qdP o→s.heap.get? a=some o→H a=none→a∉frs outer →
  Env0 P w K mg base A outer s H→BindsTo s fd args (ps.zip us)→Vals vs us→sp vs H Q E→codeAny (model P w) A (.call (.ref f) args) (CR CX0 outer P w H s Q E) s
structure DefOkM (P:Program) (w:World) (K:PySem.W.Frag) (mg:Str→Option Value) (base:Heap) (k:Nat) (x:Str) (ps:List Str) (sp:Sp):Prop where
 ex:∃ f fd,FnOkM P w K mg base k f fd ps sp∧mg x=some (.ref f)∧PySem.W.keepIn K (.ref f)=true∧Binds K fd ps []
structure MethOkM (P:Program) (w:World) (K:PySem.W.Frag) (mg:Str→Option Value) (base:Heap) (k:Nat) (C:Addr) (m:Str) (ps:List Str) (sp:Sp):Prop where
 ex:∃ f fd,FnOkM P w K mg base k f fd ps sp∧Meth K C m f∧Binds K fd ps []
 cl:Cls K C
section
variable {X:Cx} {k:Nat} {f C:Addr} {fd:FuncData} {ps:List Str} {sp:Sp} {x m:Str} {p pos apos:Pos} {e o:Expr} {es:List Expr} {ta:TE} {t:TA}
theorem qcQ {pins:List (Addr×Obj)} {σ:St} {H:Hp} {s:Shared} {Q:VK} {us:List Value} {vs:List V} (F:FnOkM X.prog X.w X.K X.mg X.base k f fd ps sp) (hr:RoomM k X.A) (hm:Mild X) (hb:Binds X.K fd ps [])
  (I:Inv X pins σ H s) (r:Vals vs us) (h:sp (vs++[]) H Q E0):wpAny (model X.prog X.w) X.A (call (.ref f) us) (EP X pins σ Q) X.xe s:=by
 obtain ⟨a,ob,g0,gc,g⟩:=hm
 obtain ⟨g1,g2,g3⟩:=g pins σ H s I
 have r2:Vals (vs++[]) (us++[]):=r.append .nil
 have hl:(us++([]:List Value)).length=ps.length:=by rw [← r2.length];exact F.len _ _ _ _ h
 refine wpAny_call (codeAny_mono (F.run X.A X.stack s H ⟨us,[]⟩ (us++[]) (vs++[]) Q E0 a ob hr g0 gc g1 g2 g3 I.env0 (hb s us I.kIn hl) r2 h) fun r s' hq=>?_)
 cases r with
 | error e=>exact False.elim hq
 | ok fl =>
  cases fl with
  | ret u=>exact I.after hq
  | _=>exact False.elim hq
theorem qcR (D:DefOkM X.prog X.w X.K X.mg X.base k x ps sp) (hr:RoomM k X.A) (hmi:Mild X) (ha:PA X (e::es) t) (hg:Gl X x:=by rfl) (hdb:(x==("__debug__":Str))=false:=by decide)
  (he:starEach (e::es) X.env=(false,eval e X.env)::starEach es X.env:=by rfl) (hpl:(backTo pos (starEach es X.env)).any (·.1)=false:=by rfl):PE X (.Call (.Name x p) (e::es) [] pos) (qcG sp [] E0 t):=by
 obtain ⟨f,fd,F,hm,hk,hb⟩:=D.ex
 intro pins s σ H Q I h
 refine wpAny_Call_Name_kw (zp I hg hm ?_ hdb)
 refine PySem.W.callWith_K (h₀:=X.base) I.ok.mod.kin hk (thn (ha pos pins s σ H _ I h) fun us s1 ⟨vs,H1,I1,r,q⟩=>⟨I1.kIn,?_⟩) he hpl
 exact qcQ F hr hmi hb I1 r q
theorem zx {pl:Sem Bool} (D:MethOkM X.prog X.w X.K X.mg X.base k C m ps sp) (hr:RoomM k X.A) (hmi:Mild X) (he:PE X o ta) (ha:PA X (e::es) t)
  (hst:starEach (e::es) X.env=(false,eval e X.env)::starEach es X.env:=by rfl) (hpl:(backTo pos (starEach es X.env)).any (·.1)=false:=by rfl)
  (ht:eval (.Call (.Attribute o m apos) (e::es) [] pos) X.env=(do
   let ov ← eval o X.env
   standAt apos.atName
   let (f,first) ← holding [ov] (getMethod ov m pl)
   callWith pos f first (backTo pos (starEach (e::es) X.env)) (backToKw pos (keywordEach [] X.env))):=by rfl) :
  PE X (.Call (.Attribute o m apos) (e::es) [] pos) (qcH C m sp [] E0 ta t):=by
 obtain ⟨f,fd,F,hm,hb⟩:=D.ex
 intro pins s σ H Q I h
 refine PySem.W.methodCall_KW (pl:=pl) (thn (he pins s σ H _ I h) fun u s1 ⟨x,H1,I1,rx,a,dx,fs,ex,ea,l,q⟩=>?_) ht
 subst ex
 obtain rfl:u=Value.ref a:=rx
 refine zi I1 ea D.cl hm l ?_
 refine PySem.W.callWith_K (first:=[.ref a]) (h₀:=X.base) I.ok.mod.kin hm.kp (thn (ha pos pins s1 σ H1 _ I1 q) fun us s2 ⟨vs,H2,I2,r,q2⟩=>⟨I2.kIn,?_⟩) hst hpl
 exact qcQ (us:=.ref a::us) (vs:=.ref a::vs) F hr hmi hb I2 (.cons rfl r) q2
theorem qcr {pl:Sem Bool} (D:MethOkM X.prog X.w X.K X.mg X.base k C m ps sp) (hr:RoomM k X.A) (hmi:Mild X) (he:PE X o ta)
  (ht:eval (.Call (.Attribute o m apos) [] [] pos) X.env=(do
   let ov ← eval o X.env
   standAt apos.atName
   let (f,first) ← holding [ov] (getMethod ov m pl)
   callWith pos f first (backTo pos (starEach [] X.env)) (backToKw pos (keywordEach [] X.env))):=by rfl) :
  PE X (.Call (.Attribute o m apos) [] [] pos) (qcH C m sp [] E0 ta qdX):=by
 obtain ⟨f,fd,F,hm,hb⟩:=D.ex
 intro pins s σ H Q I h
 refine PySem.W.methodCall_KW (pl:=pl) (thn (he pins s σ H _ I h) fun u s1 ⟨x,H1,I1,rx,a,dx,fs,ex,ea,l,q⟩=>?_) ht
 subst ex
 obtain rfl:u=Value.ref a:=rx
 refine zi I1 ea D.cl hm l ?_
 exact PySem.W.callWith_K0 (first:=[.ref a]) I1.kIn hm.kp (qcQ (us:=[.ref a]) (vs:=[.ref a]) F hr hmi hb I1 (.cons rfl .nil) q)
end
section
variable {P:Program} {w:World} {K:PySem.W.Frag} {mg:Str→Option Value} {base:Heap}
theorem inv_startM {N ps:List Str} {qual:Str} {scope:Scope} {f:Addr} {cd:Value} {A:Around} {outer:List Env} {s s1:Shared} {H:Hp} {E:XK} {us:List Value} {vs:List V} {a:Addr} {oa:Obj}
  (S:FnScope N ps scope) (hca:qdP oa) (ga:s.heap.get? a=some oa) (gh:H a=none) (gf:a∉frs outer) (e0:Env0 P w K mg base A outer s H) (hl:vs.length=ps.length) (r:Vals vs us)
  (x:InCallC s s.heap.objs.size (bindL (envOfC qual scope s.heap.objs.size f cd).kindOf (ps.zip us) fun _=>none) (cellsFrom (s.heap.objs.size + 1) scope.names []) (bindC (envOfC qual scope s.heap.objs.size f cd).kindOf (ps.zip us) fun _=>none) s1) :
  Inv (qb9 CX0 P w K mg base N qual scope f cd A outer s H E).nox.soft [] (jV N vs) H s1:=by
 have I0:=qca (CX:=CX0) (N:=N) (ps:=ps) (f:=f) (A:={ A with handled:=none }) (E:=E) S rfl (⟨e0.frames,e0.mod,e0.bs,e0.bsz,e0.funs,e0.frf,e0.hok,e0.bare⟩:Env0 P w K mg base { A with handled:=none } outer s H) hl r x
 exact ⟨⟨I0.ok.mod,I0.ok.kind,I0.ok.glob,I0.ok.blt,I0.ok.above,I0.ok.inj,I0.ok.has,I0.ok.cab,(fun h=>nomatch h),Around.frames_deeper e0.frames,I0.ok.stk,I0.ok.exf,I0.ok.bs,I0.ok.bsz,I0.ok.noex,I0.ok.exfs,I0.ok.funs,I0.ok.frf⟩,I0.os,I0.bare,I0.base,I0.loc,I0.cell,I0.free,I0.freeC,I0.pin,I0.hok,I0.len⟩
theorem mild_start {N:List Str} {qual:Str} {scope:Scope} {f:Addr} {cd:Value} {A:Around} {outer:List Env} {s:Shared} {H:Hp} {E:XK} {a:Addr} {oa:Obj} (hh0:A.handled=some (.ref a)) (hca:qdP oa) (ga:s.heap.get? a=some oa) (gh:H a=none) (gf:a∉frs outer) :
  Mild (qb9 CX0 P w K mg base N qual scope f cd A outer s H E).nox.soft:=by
 refine ⟨a,oa,hh0,hca,fun pins σ H' s' I=>⟨I.base.keep a oa ga gh gf (by intro z;cases z),I.base.free a oa ga gh (by intro z;cases z),fun z=>?_⟩⟩
 have z:a∈frs (envOfC qual scope s.heap.objs.size f cd::outer):=z
 unfold frs at z
 rw [List.filterMap_cons] at z
 have z:a∈s.heap.objs.size::outer.filterMap (·.frame):=z
 rcases List.mem_cons.mp z with e | e
 ·exact absurd (Heap.lt_size ga) (by rw [e];exact Nat.lt_irrefl _)
 ·exact gf e
theorem fn_ofM {P:Program} {w:World} {K:PySem.W.Frag} {mg:Str→Option Value} {base:Heap} {k:Nat} {f:Addr} {name qual:Str} {params:Arguments} {body:List Stmt} {scope:Scope} {dV kV doc pm cdv ct oc:Value} {an od:Option Addr}
  {osl:Array (Option Value)} {N ps:List Str} {sp:Sp} (lk:K.lookup f=some ⟨oc,od,.func (PySem.W.fnOf name qual params body scope dV kV doc pm an cdv ct),osl⟩) (hcd:PySem.W.codeIn K cdv qual=true) (S:FnScope N ps scope)
  (len:∀ vs H Q E,sp vs H Q E→vs.length=ps.length)
  (hbody:∀ (A:Around) (outer:List Env) (s:Shared) (H:Hp) (vs:List V) (Q:VK) (E:XK),RoomM k (A.deeper (envOfC qual scope s.heap.objs.size f cdv))→Mild (qb9 CX0 P w K mg base N qual scope f cdv A outer s H E).nox.soft→sp vs H Q E →
   ∃ t,PSs (qb9 CX0 P w K mg base N qual scope f cdv A outer s H E).nox.soft body t∧t { nx:=fun _ H'=>Q .non H',rt:=Q } (jV N vs) H) :
  FnOkM P w K mg base (k + 1) f (PySem.W.fnOf name qual params body scope dV kV doc pm an cdv ct) ps sp:=by
 refine ⟨len,fun A outer s H args us vs Q E a oa hr hh0 hca ga gh gf e0 hb r hsp=>?_⟩
 have hl:=len _ _ _ _ hsp
 have KX:K.In s.heap:=e0.mod.kin.keeps fun b o e=>(e0.bs b o e).1
 have lim:s.heap.NoLimit:=e0.mod.nolimit.keeps fun b o e=>(e0.bs b o e).1
 have hkind:∀ y∈ps.zip us,scope.names.lookup y.1=some .local∨(scope.names.lookup y.1=some .cell∧((cellsFrom (s.heap.objs.size + 1) scope.names []).lookup y.1).isSome=true):=fun ⟨n,v⟩ hy=>by
  rcases S.par n (List.of_mem_zip hy).1 with q | q
  ·exact .inl q
  ·exact .inr ⟨q,PySem.W.cellsFrom_some _ _ _ (.inl q)⟩
 refine codeAny_call_function (show A.depth < recursionLimit by have:=hr.dp;omega) (KX _ _ lk) rfl S.co S.gen rfl (PySem.W.codeRec_of KX hcd) (hb _ _ _ _ ?_)
 refine wpAny_newFunctionEnv_cells S.kind hkind fun env he s1 x=>?_
 subst he
 refine ⟨lim.keeps x.toInCall.keep,codeAny_func ?_⟩
 have I:Inv (qb9 CX0 P w K mg base N qual scope f cdv A outer s H E).nox.soft [] (jV N vs) H s1:=inv_startM (oa:=oa) S hca ga gh gf e0 hl r x
 have hmi:Mild (qb9 CX0 P w K mg base N qual scope f cdv A outer s H E).nox.soft:=mild_start hh0 hca ga gh gf
 obtain ⟨t,ht,hq⟩:=hbody A outer s H vs Q E (hr.deeper _) hmi hsp
 refine wpAny_mono (ht [] s1 (jV N vs) H _ I hq) (fun fl s' hs=>?_) fun e s' hs=>hs.elim
 have fin:∀ {σ':St} {H':Hp} {v:V} {u:Value},Inv (qb9 CX0 P w K mg base N qual scope f cdv A outer s H E).nox.soft [] σ' H' s'→RelV v u→Q v H'→CE outer P w H s Q u s':=
  fun {σ' H' v u} J rv q=>⟨v,H',J.os,J.bare,J.base,J.hok,rv,q⟩
 cases fl with
 | ret u =>
  obtain ⟨v,σ',H',J,rv,q⟩:=hs
  exact fin J rv q
 | next =>
  obtain ⟨σ',H',J,q⟩:=hs
  exact fin (v:=V.non) (u:=Value.none) J rfl q
 | brk =>
  obtain ⟨_,_,_,q⟩:=hs
  exact False.elim q
 | cont =>
  obtain ⟨_,_,_,q⟩:=hs
  exact False.elim q
theorem Fun.okM {x qual:Str} {st:Stmt} {f:Addr} {fd:FuncData} {N ps:List Str} {k:Nat} {sp:Sp} (F:Fun K x qual st f fd) (S:FnScope N ps (qd st)) (len:∀ vs H Q E,sp vs H Q E→vs.length=ps.length)
  (hbody:∀ (cdv:Value) (A:Around) (outer:List Env) (s:Shared) (H:Hp) (vs:List V) (Q:VK) (E:XK),RoomM k (A.deeper (envOfC qual (qd st) s.heap.objs.size f cdv))→Mild (qb9 CX0 P w K mg base N qual (qd st) f cdv A outer s H E).nox.soft→sp vs H Q E →
   ∃ t,PSs (qb9 CX0 P w K mg base N qual (qd st) f cdv A outer s H E).nox.soft (qi st) t∧t { nx:=fun _ H'=>Q .non H',rt:=Q } (jV N vs) H):FnOkM P w K mg base (k + 1) f fd ps sp:=by
 obtain ⟨oc,od,kV,doc,pm,an,cdv,ct,osl,rfl,lk,hcd⟩:=F.ex
 exact fn_ofM lk hcd S len fun A outer s H vs Q E hr hmi hsp=>hbody cdv A outer s H vs Q E hr hmi hsp
end
structure TurnM (P:Program) (w:World) (K:PySem.W.Frag) (tg:Expr) (J:It) (fp:List Addr) (it:Addr) (tn:Nat→Heap→Prop):Prop where
 mem:it∈fp
 obj:∀ i h,tn i h→∀ b∈fp,∃ o,h.get? b=some o∧∀ v,o.data≠.cell v
 keep:∀ i h h',tn i h→(∀ b∈fp,∀ o,h.get? b=some o→h'.get? b=some o)→tn i h'
 item:∀ (X:Cx),X.prog=P→X.w=w→X.K=K→Mild X→∀ (i:Nat) (pins:List (Addr×Obj)) (s:Shared) (σ:St) (H:Hp) (E:Value→Shared→Prop),Inv X pins σ H s→(∀ b∈fp,qbo X pins H b)→tn i s.heap→J.go i H →
  wpAny (model P w) X.A (pyNext (.ref it)) (fun r s1=>∃ u,r=some u ∧
   wpAny (model P w) X.A (letOwnedTupleGo tg (.ref it) u) (fun _ s2=>∃ x H',Inv X pins σ H' s2∧RelV x u∧J.yld i H x H'∧tn (i + 1) s2.heap∧∀ b∈fp,H' b=none) E s1) E s
 done:∀ (X:Cx),X.prog=P→X.w=w→X.K=K→Mild X→∀ (i:Nat) (pins:List (Addr×Obj)) (s:Shared) (σ:St) (H:Hp) (E:Value→Shared→Prop),Inv X pins σ H s→(∀ b∈fp,qbo X pins H b)→tn i s.heap→J.stop i H →
  wpAny (model P w) X.A (pyNext (.ref it)) (fun r s1=>r=none∧Inv X pins σ H s1) E s
 self:∀ (A:Around) (i:Nat) (s:Shared) (Q:Value→Shared→Prop) (E:Value→Shared→Prop),tn i s.heap→Q (.ref it) s→wpAny (model P w) A (pyIter (.ref it)) Q E s
 nc:∀ i h,tn i h→∀ b∈fp,∀ o,h.get? b=some o→¬ qdP o
def PIEM (X:Cx) (pins:List (Addr×Obj)) (σ:St) (tg:Expr) (R:It→Hp→Prop) (itv:Value) (s2:Shared):Prop:=
 ∃ (it:Addr) (fp:List Addr) (tn:Nat→Heap→Prop) (J:It) (H':Hp),itv=.ref it∧Inv X pins σ H' s2∧TurnM X.prog X.w X.K tg J fp it tn∧tn 0 s2.heap∧(∀ b∈fp,qbo X pins H' b)∧R J H'
def PIM (X:Cx) (tg iter:Expr) (wi:TI):Prop:=
 ∀ (pins:List (Addr×Obj)) (s:Shared) (σ:St) (H:Hp) (R:It→Hp→Prop),Inv X pins σ H s→wi σ H R →
  wpAny (model X.prog X.w) X.A (eval iter X.env) (fun v s1=>wpAny (model X.prog X.w) X.A (pyIter v) (PIEM X pins σ tg R) X.xe s1) X.xe s
theorem turn_listM {P:Program} {w:World} {K:PySem.W.Frag} {tg:Expr} (a it:Addr):TurnM P w K tg (Itl K a) [it] it (fun i h=>h.IsListIter it a i) where
 mem:=by simp
 obj:=fun i h st b hb=>by
  have e:b=it:=by simpa using hb
  subst e
  obtain ⟨o,e,c,d⟩:=st
  exact ⟨o,e,fun v z=>by rw [d] at z;cases z⟩
 keep:=fun i h h' st k=>st.at fun o e=>k it (by simp) o e
 item:=by
  intro X hP hw hK hc i pins s σ H E I hf st hg
  subst hP hw hK
  obtain ⟨xs,x,hq,hx⟩:=hg
  obtain ⟨its,rv,p,hz⟩:=I.list hq
  obtain ⟨u,hu,ru⟩:=rv.get hx
  obtain ⟨f0,f1,f2,f3,f4,f5⟩:=hf it (by simp)
  refine wpAny_pyNext_list_item st p.isList (x:=u) (by simpa using hu) fun h' st' sb=>?_
  have I1:Inv X pins σ H { s with heap:=h' }:=I.turned (t':=s.toks) (fun b o hb e=>(sb.2 b hb).trans e) f0 f1 f3 f4 f5
  obtain ⟨o,e,c,d⟩:=id st'
  exact ⟨u,rfl,qd0 (s:={ s with heap:=h' }) e c d (by decide) ⟨x,H,I1,ru,⟨rfl,fun ys hy=>by rw [I.list_inj hy hq];exact hx⟩,st',fun b hb=>(hf b hb).1⟩⟩
 done:=by
  intro X hP hw hK hc i pins s σ H E I hf st hg
  subst hP hw hK
  obtain ⟨xs,hq,hx⟩:=hg
  obtain ⟨its,rv,p,hz⟩:=I.list hq
  obtain ⟨f0,f1,f2,f3,f4,f5⟩:=hf it (by simp)
  have hl:=rv.length
  obtain ⟨am,om,m0,⟨vm,m1,m2⟩,mg⟩:=hc
  obtain ⟨m3,_,_⟩:=mg pins σ H s I
  refine qaJ m0 (fun z=>?_) ⟨om,vm,m3,m1,m2⟩ st p.isList (by simp;omega) fun h' eb=>⟨rfl,I.turned (t':=s.toks) (fun b o hb e=>eb b o hb e) f0 f1 f3 f4 f5⟩
  obtain ⟨r,r1,r2,r3⟩:=id st
  rw [z,r1] at m3
  cases m3
  rw [r3] at m1
  cases m1
  cases m2
 self:=fun _ _ _ _ _ st h=>wpAny_pyIter_listiter st h
 nc:=fun i h st b hb o e ⟨vm,m1,m2⟩=>by
  have eb:b=it:=by simpa using hb
  subst eb
  obtain ⟨r,r1,r2,r3⟩:=st
  rw [e] at r1
  cases r1
  rw [r3] at m1
  cases m1
  cases m2
theorem turn_strM {P:Program} {w:World} {K:PySem.W.Frag} {tg:Expr} {it:Addr} {x:Str} {t:Tok} (htg:∀ v,letOwnedTupleGo tg (.ref it) v=pure ())
  : TurnM P w K tg (Its x) [it] it (fun i h=>h.IsStrIter it "str_ascii_iterator" x t i) where
 mem:=by simp
 obj:=fun i h st b hb=>by
  have e:b=it:=by simpa using hb
  subst e
  obtain ⟨o,e,c,d⟩:=st
  exact ⟨o,e,fun v z=>by rw [d] at z;cases z⟩
 keep:=fun i h h' st k=>by
  obtain ⟨o,e,r⟩:=st
  exact ⟨o,k it (by simp) o e,r⟩
 item:=by
  intro X hP hw hK hc i pins s σ H E I hf st hg
  subst hP hw hK
  obtain ⟨f0,f1,f2,f3,f4,f5⟩:=hf it (by simp)
  have hg':i < x.cps.size:=hg
  refine wpAny_pyNext_ascii_item st (c:=x.cps[i]) (by simp [hg']) fun h' st' sb=>?_
  have I1:Inv X pins σ H { s with heap:=h',toks:=s.toks + 1 }:=I.turned (fun b o hb e=>(sb.2 b hb).trans e) f0 f1 f3 f4 f5
  exact ⟨_,rfl,wpAny_of_eq (htg _) ⟨.str ⟨#[x.cps[i]]⟩,H,I1,⟨_,rfl⟩,⟨rfl,_,by simp [hg'],rfl⟩,st',fun b hb=>(hf b hb).1⟩⟩
 done:=by
  intro X hP hw hK hc i pins s σ H E I hf st hg
  subst hP hw hK
  obtain ⟨f0,f1,f2,f3,f4,f5⟩:=hf it (by simp)
  have e:i=x.cps.size:=hg
  subst e
  obtain ⟨am,om,m0,⟨vm,m1,m2⟩,mg⟩:=hc
  obtain ⟨m3,_,_⟩:=mg pins σ H s I
  refine ascii_end_amid m0 (fun z=>?_) ⟨om,vm,m3,m1,m2⟩ st (by simp) fun h' eb=>⟨rfl,I.turned (t':=s.toks) (fun b o hb e=>eb b o hb e) f0 f1 f3 f4 f5⟩
  obtain ⟨r,r1,r2,r3⟩:=id st
  rw [z,r1] at m3
  cases m3
  rw [r3] at m1
  cases m1
  cases m2
 self:=fun _ _ _ _ _ st h=>wpAny_pyIter_striter_ascii st h
 nc:=fun i h st b hb o e ⟨vm,m1,m2⟩=>by
  have eb:b=it:=by simpa using hb
  subst eb
  obtain ⟨r,r1,r2,r3⟩:=st
  rw [e] at r1
  cases r1
  rw [r3] at m1
  cases m1
  cases m2
section
variable {X:Cx} {tg:Expr}
def qgl (K:PySem.W.Frag) (te:TE):TI:=fun σ H R=>te σ H fun v H1=>match v with
 | .str x=>x.cps.all (· < 128)=true∧R (Its x) H1
 | .ref a=>((∃ xs,SqL K H1 a xs)∧R (Itl K a) H1)∨False
 | _=>False
theorem vAnyM {K:PySem.W.Frag} {te:TE} {σ:St} {H:Hp} {R:It→Hp→Prop} (h:te σ H fun v H1=>match v with
 | .str x=>x.cps.all (· < 128)=true∧R (Its x) H1
 | .ref a=>((∃ xs,SqL K H1 a xs)∧R (Itl K a) H1)∨False
 | _=>False):qgl K te σ H R:=h
theorem qbQ {K:PySem.W.Frag} (hK:X.K=K) {l:Expr} {tl:TE} (hl:PE X l tl) (htg:∀ it v,letOwnedTupleGo tg it v=pure ():=by intro _ _;rfl):PIM X tg l (qgl K tl):=by
 subst hK
 intro pins s σ H R I h
 refine thn (hl pins s σ H _ I h) fun v s1 ⟨x,H1,I1,r1,q1⟩=>?_
 cases x with
 | str x =>
  obtain ⟨ha,q⟩:=q1
  obtain ⟨t,rfl⟩:=r1
  have fp:∀ b∈[s1.heap.objs.size],qbo X pins H1 b:=fun b hb=>by
   have e:b=s1.heap.objs.size:=by simpa using hb
   subst e
   exact I1.fpOk (Nat.le_refl _) (I1.hok.fresh (Nat.le_refl _))
  exact wpAny_pyIter_ascii ha ⟨s1.heap.objs.size,[s1.heap.objs.size],_,_,H1,rfl,I1.kept (t':=s1.toks) fun b o e=>Heap.get?_push_of_some _ e,turn_strM (htg _),⟨_,Heap.get?_push_size _ rfl,rfl,rfl⟩,fp,q⟩
 | ref a =>
  obtain ⟨⟨xs,hq⟩,q⟩:=q1.resolve_right id
  cases r1
  obtain ⟨its,rv,p,hz⟩:=I1.list hq
  refine wpAny_pyIter_list p.isList ?_
  refine ⟨s1.heap.objs.size,[s1.heap.objs.size],_,_,H1,rfl,I1.kept (t':=s1.toks) fun b o e=>Heap.get?_push_of_some _ e,turn_listM a _,⟨_,Heap.get?_push_size _ rfl,rfl,rfl⟩,fun b hb=>?_,q⟩
  have e:b=s1.heap.objs.size:=by simpa using hb
  subst e
  exact I1.fpOk (Nat.le_refl _) (I1.hok.fresh (Nat.le_refl _))
 | _=>exact q1.elim
theorem call_allM (hc:Mild X):zE X (.builtin "all") (qgH X.K):=by
 intro pins s σ H xs us Q I r h
 obtain ⟨p,bs,rfl,hp,q⟩:=h
 obtain ⟨u,rfl,ru⟩:=qbb r
 cases ru
 obtain ⟨its,rv,pl,hz⟩:=I.list hp
 have e:=qbJ rv
 subst e
 obtain ⟨am,om,m0,⟨vm,m1,m2⟩,mg⟩:=hc
 obtain ⟨m3,_,_⟩:=mg pins σ H s I
 refine call_all_walk (wpAny_pyIter_list pl.isList ?_)
 have hne:p≠s.heap.objs.size:=by
  obtain ⟨o,ho,_⟩:=pl.isList
  exact Nat.ne_of_lt (Heap.lt_size ho)
 refine ⟨s.heap.objs.size,_,_,_,_,_,fun i=>(bs[i]?).getD false,rfl,walks_amid (show X.A.in1.handled=some (.ref am) from m0) (Nat.ne_of_lt (Heap.lt_size m3)) hne (bs.map Value.bool).toArray,⟨⟨⟨_,Heap.get?_push_size _ rfl,rfl,rfl⟩,pl.isList.at fun o e=>Heap.get?_push_of_some _ e⟩,⟨om,vm,Heap.get?_push_of_some _ m3,m1,m2⟩⟩,fun i v s Q E hv hq=>?_,fun h' tk hk=>?_⟩
 ·have hv':(bs.map Value.bool)[i]?=some v:=by simpa using hv
  rw [List.getElem?_map] at hv'
  cases e:bs[i]? with
  | none=>rw [e] at hv';cases hv'
  | some b =>
   rw [e] at hv'
   cases hv'
   have hq':Q ((bs[i]?).getD false) s:=hq
   rw [e] at hq'
   exact wpAny_pure hq'
 ·have e:((List.range (bs.map Value.bool).toArray.size).all fun i=>(bs[i]?).getD false)=bs.all id:=by
   rw [List.size_toArray,List.length_map]
   have key:∀ bs:List Bool,((List.range bs.length).all fun i=>(bs[i]?).getD false)=bs.all id:=by
    intro bs
    induction bs with
    | nil=>rfl
    | cons b r ih =>
     rw [List.length_cons,List.range_succ_eq_map,List.all_cons,List.all_map,List.all_cons,← ih]
     rfl
   exact key bs
  rw [e]
  refine ⟨.bl _,H,?_,rfl,q⟩
  have I1:Inv X pins σ H { s with heap:=s.heap.push { cls:=.type "list_iterator",data:=.fields #[.ref p,.int 0 0] } }:=I.kept (t':=s.toks) fun b o e=>Heap.get?_push_of_some _ e
  have nf:=I.fpOk (b:=s.heap.objs.size) (Nat.le_refl _) (I.hok.fresh (Nat.le_refl _))
  exact I1.turned (it:=s.heap.objs.size) (h':=h') (t':=tk) (fun b o hb e=>hk b o (by simpa using hb) e) nf.1 nf.2.1 nf.2.2.2.1 nf.2.2.2.2.1 nf.2.2.2.2.2
theorem k_allM {K:PySem.W.Frag} (hK:X.K=K) (hc:Mild X):zE X (.builtin "all") (qgH K):=by subst hK;exact call_allM hc
theorem ps_forM {iter:Expr} {body:List Stmt} {wi:TI} {g:TG} {tb:TS} {pos:Pos} (hp:PassesOwn (model X.prog X.w) X.A X.env X.xe) (hc:Mild X) (hi:PIM X tg iter wi) (hg:PG X tg g) (hb:PSs X body tb)
  (hs:∀ x,foldedSetIterable iter X.env x=pure x:=by intro _;rfl):PS X (.For tg iter body [] pos) (qgT wi g tb):=by
 intro pins s σ H D I h
 refine wpAny_For (thn (hi pins s σ H _ I h) fun v s1 h1=>thn h1 fun itv s2 h2=>?_) hs
 obtain ⟨it,fp,tn,J,H2,e,I2,T,st2,f2,W,⟨m0,w0⟩,turn⟩:=h2
 subst e
 have stat:∀ {H':Hp},(∀ b∈fp,H' b=none)→∀ b∈fp,qbo X pins H' b:=fun hn b hb=>⟨hn b hb,(f2 b hb).2⟩
 refine codeAny_forLoop_any (fun n s'=>∃ i σ' H',Inv X pins σ' H' s'∧tn i s'.heap∧(∀ b∈fp,H' b=none)∧W i n σ' H') ?_ m0 ⟨0,σ,H2,I2,st2,fun b hb=>(f2 b hb).1,w0⟩
 rintro n s3 ⟨i,σ3,H3,I3,st3,fr3,w3⟩
 rcases turn i n σ3 H3 w3 with ⟨stop,qn⟩ | ⟨go,N,hN,step⟩
 ·refine wpAny_passesOwn hp (thn (T.done X rfl rfl rfl hc i pins s3 σ3 H3 X.xe I3 (stat fr3) st3 stop) fun r s4 ⟨hr,I4⟩=>?_)
  subst hr
  exact wpAny_execs_nil ⟨σ3,H3,I4,qn⟩
 ·refine wpAny_passesOwn hp (thn (T.item X rfl rfl rfl hc i pins s3 σ3 H3 X.xe I3 (stat fr3) st3 go) fun r s4 ⟨u,hr,h4⟩=>?_)
  subst hr
  refine wpAny_passesOwn hp (thn h4 fun _ s5 ⟨x,H5,I5,r5,y5,st5,fr5⟩=>?_)
  have I5':=I5.pinned (stat fr5) (T.obj _ _ st5)
  refine wpAny_passesOwn hp (thn (hg _ s5 σ3 H5 x u _ I5' r5 (step x H5 y5)) fun _ s6 ⟨σ6,H6,I6,q6⟩=>?_)
  refine wpAny_passesOwn hp (thn (hb _ s6 σ6 H6 _ I6 q6) fun f s7 q7=>?_)
  have again:∀ {σ7:St} {H7:Hp},Inv X (pins++qba fp s5.heap) σ7 H7 s7→N σ7 H7→∃ m,m < n∧∃ i σ' H',Inv X pins σ' H' s7∧tn i s7.heap∧(∀ b∈fp,H' b=none)∧W i m σ' H':=fun {σ7 H7} I7 n7=>by
   obtain ⟨m',hm,w7⟩:=hN σ7 H7 n7
   refine ⟨m',hm,i + 1,σ7,H7,I7.unpinned,T.keep _ _ _ st5 fun b hb o e=>(I7.pin (b,o) (List.mem_append_right _ (List.mem_append_right _ (jI hb e)))).1,fun b hb=>?_,w7⟩
   obtain ⟨o,e,d⟩:=T.obj _ _ st5 b hb
   exact (I7.pin (b,o) (List.mem_append_right _ (List.mem_append_right _ (jI hb e)))).2.1
  cases f with
  | next=>obtain ⟨σ7,H7,I7,n7⟩:=q7;exact again I7 n7
  | cont=>obtain ⟨σ7,H7,I7,n7⟩:=q7;exact again I7 n7
  | brk=>obtain ⟨σ7,H7,I7,q7⟩:=q7;exact ⟨σ7,H7,I7.unpinned,q7⟩
  | ret v=>obtain ⟨x7,σ7,H7,I7,r7,q7⟩:=q7;exact ⟨x7,σ7,H7,I7.unpinned,r7,q7⟩
end
section
variable {X:Cx} {pins:List (Addr×Obj)} {σ:St} {H:Hp} {s:Shared}
theorem Mild.comp {N:List Str} {scope:Scope} {C:Addr} {ex:List Addr} (hm:Mild X) (I:Inv X pins σ H s) (hx:∀ b∈ex,∀ o,s.heap.get? b=some o→¬ qdP o):Mild (X.comp N scope C s H ex):=by
 obtain ⟨a,o,g0,gc,g⟩:=hm
 obtain ⟨g1,g2,g3⟩:=g pins σ H s I
 have na:a∉ex:=fun z=>hx a z o g1 gc
 exact ⟨a,o,g0,gc,fun pins' σ' H' s' J=>⟨J.base.keep a o g1 g2 g3 na,J.base.free a o g1 g2 na,g3⟩⟩
theorem comp_blockM {N:List Str} {scope:Scope} {nl:Nat} {ixs:List Nat} {fp:List Addr} {it:Addr} {tn:Nat→Heap→Prop} {J:It} {tg elt iter:Expr} {ifs:List Expr} {pos:Pos} {g:TG} {tc:TT} {te:TE} {Q:V→Hp→Prop} {E:Value→Shared→Prop}
  {RR:Value→Addr→Result→Shared→Prop} (I:Inv X pins σ H s) (hc:Mild X) (O:CompOk X.env.scope scope)
  (hN:N.length=nl + ixs.length) (hcap:∀ (k j:Nat) (x:Str),ixs[k]?=some j→N[nl + k]?=some x→X.N[j]?=some x∧(x,NameKind.free)∈scope.names)
  (T:TurnM X.prog X.w X.K tg J fp it tn) (st:tn 0 s.heap) (hf:∀ b∈fp,qbo X pins H b)
  (hg:∀ C s0 H0 ex,Mild (X.comp N scope C s0 H0 ex)→PG (X.comp N scope C s0 H0 ex) tg g) (gk:qec nl g) (hi:∀ C s0 H0 ex,Mild (X.comp N scope C s0 H0 ex)→qfV (X.comp N scope C s0 H0 ex) ifs tc) (he:∀ C s0 H0 ex,Mild (X.comp N scope C s0 H0 ex)→PE (X.comp N scope C s0 H0 ex) elt te)
  (h:∃ W:Nat→Nat→List V→Hp→Prop,(∃ m,W 0 m [] H)∧∀ i m ys H,W i m ys H →
   (J.stop i H∧ys.length≤sizeLine∧∀ p,H p=none→Q (.ref p) (upd H p (.lst ys))) ∨
   (J.go i H∧∃ M:List V→Hp→Prop,(∀ ys' H',M ys' H'→∃ m',m' < m∧W (i + 1) m' ys' H')∧∀ x H',J.yld i H x H'→g x (qcD nl ixs σ) H' fun σ2 H2=>tc σ2 H2 fun b H3 =>
    if b=true then te σ2 H3 fun v H4=>ys.length < sizeLine∧M (ys++[v]) H4 else M ys H3))
  (hRR:∀ (D C:Addr) (s':Shared) (H':Hp) (σ':St) (ys:List V) (its:List Value) (n:Nat),s.heap.objs.size≤C→s.heap.objs.size≤D→Inv (X.comp N scope C s H fp) [(D,{ cls:=.type "list",data:=.seq its.toArray n })] σ' H' s'→Vals ys its→ys.length≤sizeLine →
   (∀ p,H' p=none→Q (.ref p) (upd H' p (.lst ys)))→RR (.ref D) C (.ok .next) s') :
  wpAny (model X.prog X.w) X.A (newList []) (fun acc s3=>wpAny (model X.prog X.w) X.A (newFunctionEnv scope X.env.globals (qW X.env scope.names []) [] X.env.qual none .none (some X.env)) (fun cenv s4 =>
   codeAny (model X.prog X.w) X.A (.compStart (.ListComp elt [⟨tg,iter,ifs,0⟩] scope pos) 0 (.ref it) acc { cenv with scope:=relabel scope X.env }) (RR acc cenv.locals) s4) E s3) E s:=by
 obtain ⟨W,⟨m0,w0⟩,turn⟩:=h
 refine wpAny_newObj_type (wpAny_newFunctionEnv O.nocell (by intro y hy;simp at hy) (fun h1 hns1 hsb1=>?_) O.kind)
 dsimp only at hns1 hsb1 ⊢
 generalize hH2:s.heap.push { cls:=.type "list",dict:=none,data:=.seq ([]:List Value).toArray }=H2 at hns1 hsb1 ⊢
 have hC:H2.objs.size=s.heap.objs.size + 1:=by rw [← hH2,Heap.size_push]
 have hDC:s.heap.objs.size≠H2.objs.size:=by rw [hC];exact Nat.ne_of_lt (Nat.lt_succ_self _)
 have hCle:s.heap.objs.size≤H2.objs.size:=by rw [hC];exact Nat.le_succ _
 have below:∀ b,b < s.heap.objs.size→b≠H2.objs.size∧b≠s.heap.objs.size:=fun b hb=>⟨by rw [hC];exact Nat.ne_of_lt (Nat.lt_succ_of_lt hb),Nat.ne_of_lt hb⟩
 have old:∀ b o,s.heap.get? b=some o→h1.get? b=some o:=fun b o e=>hsb1.extBut b o (below b (Heap.lt_size e)).1 (Heap.get?_push_of_some _ (hH2 ▸ Heap.get?_push_of_some _ e))
 have hacc:h1.get? s.heap.objs.size=some { cls:=.type "list",data:=.seq ([]:List Value).toArray }:=hsb1.extBut _ _ hDC (Heap.get?_push_of_some _ (hH2 ▸ Heap.get?_push_size _ rfl))
 have hfl:∀ b∈fp,b < s.heap.objs.size:=fun b hb=>by
  obtain ⟨o,ho,_⟩:=T.obj 0 _ st b hb
  exact Heap.lt_size ho
 have loop:∀ s3:Shared,s3={ s with heap:=h1,toks:=s.toks + ([]:List (Str×Value)).length } →
   codeAny (model X.prog X.w) X.A (.compLoop (.ListComp elt [⟨tg,iter,ifs,0⟩] scope pos) 0 (.ref it) (.ref s.heap.objs.size) (compEnvC scope (qW X.env scope.names []) H2.objs.size X.env)) (RR (.ref s.heap.objs.size) H2.objs.size) s3:=by
  rintro s3 rfl
  have hmc:Mild (X.comp N scope H2.objs.size s H fp):=hc.comp I fun b hb o e=>T.nc 0 _ st b hb o e
  have I0:=I.comp (N:=N) (C:=H2.objs.size) (D:=s.heap.objs.size) (h1:=h1) (tk:=s.toks + ([]:List (Str×Value)).length) O hN hcap hf hfl hCle (Nat.le_refl _) hDC hns1 old hacc (fun v z=>by cases z)
  have stat:∀ {H':Hp} {σ':St} {s':Shared} {pl:List (Addr×Obj)},Inv (X.comp N scope H2.objs.size s H fp) pl σ' H' s'→(∀ p∈pl,p.1=s.heap.objs.size)→(∀ b∈fp,H' b=none)→∀ b∈fp,qbo (X.comp N scope H2.objs.size s H fp) pl H' b:=fun {H' σ' s' pl} J hpl hn b hb =>
   ⟨hn b hb,(below b (hfl b hb)).1,fun z=>(by
     rcases List.mem_cons.mp (I.stkSub b z) with e | e
     ·exact (hf b hb).2.1 e
     ·exact (hf b hb).2.2.1 e),.inl hb,J.ok.exf b hb |>.2,fun p hp z=>by
    have e:=hpl p (by simpa using hp)
    rw [e] at z
    exact (below b (hfl b hb)).2 z.symm⟩
  refine qaZ (fun k s'=>∃ i H' ys its n,Inv (X.comp N scope H2.objs.size s H fp) [(s.heap.objs.size,{ cls:=.type "list",data:=.seq its.toArray n })] (qcD nl ixs σ) H' s'∧tn i s'.heap∧(∀ b∈fp,H' b=none)∧Vals ys its∧W i k ys H') ?_ m0
   ⟨0,H,[],[],0,I0,T.keep _ _ _ st fun b _ o e=>old b o e,fun b hb=>(hf b hb).1,.nil,w0⟩
  rintro k s' ⟨i,H',ys,its,n,J1,st1,fr1,v1,w1⟩
  have one:∀ p∈[((s.heap.objs.size,{ cls:=.type "list",data:=.seq its.toArray n }):Addr×Obj)],p.1=s.heap.objs.size:=fun p hp=>by
   have e:p=_:=List.mem_singleton.mp hp
   rw [e]
  rcases turn i k ys H' w1 with ⟨stop,hz,q⟩ | ⟨go,M,hM,step⟩
  ·refine thn (T.done (X.comp N scope H2.objs.size s H fp) rfl rfl rfl hmc i _ s' _ H' _ J1 (stat J1 one fr1) st1 stop) fun r s4 ⟨hr,J4⟩=>?_
   subst hr
   exact hRR _ _ s4 H' _ ys its n hCle (Nat.le_refl _) J4 v1 hz q
  ·refine thn (T.item (X.comp N scope H2.objs.size s H fp) rfl rfl rfl hmc i _ s' _ H' _ J1 (stat J1 one fr1) st1 go) fun r s4 ⟨u,hr,h4⟩=>?_
   subst hr
   refine thn h4 fun _ s5 ⟨x,H5,J5,r5,y5,st5,fr5⟩=>?_
   have J5':=J5.pinned (stat J5 one fr5) (T.obj _ _ st5)
   refine thn (hg _ _ _ _ hmc _ s5 _ H5 x u _ J5' r5 (gk _ _ _ _ (step x H5 y5))) fun _ s6 ⟨σ6,H6,J6,q6,l6,k6⟩=>?_
   refine thn (hi _ _ _ _ hmc _ s6 σ6 H6 _ J6 q6) fun ok s7 ⟨H7,J7,q7⟩=>?_
   have again:∀ {s8:Shared} {H8:Hp} {ys':List V} {k':Nat},Inv (X.comp N scope H2.objs.size s H fp) ([((s.heap.objs.size,{ cls:=.type "list",data:=.seq its.toArray n }):Addr×Obj)]++qba fp s5.heap) σ6 H8 s8 →
     (∀ b o,b≠s.heap.objs.size→s8.heap.get? b=some o→s8.heap.get? b=some o)→tn (i + 1) s8.heap∧∀ b∈fp,H8 b=none:=fun {s8 H8 ys' k'} J8 _=>by
    refine ⟨T.keep _ _ _ st5 fun b hb o e=>(J8.pin (b,o) (List.mem_append_right _ (List.mem_append_right _ (jI hb e)))).1,fun b hb=>?_⟩
    obtain ⟨o,e,d⟩:=T.obj _ _ st5 b hb
    exact (J8.pin (b,o) (List.mem_append_right _ (List.mem_append_right _ (jI hb e)))).2.1
   have wk:∀ (j:Nat) v,(qcD nl ixs σ)[j]?=some (some v)→σ6[j]?=some (some v):=fun j v e=>by
    obtain ⟨hj,_⟩:=qbI e
    rw [k6 j hj]
    exact e
   cases ok with
   | false =>
    rw [if_neg Bool.false_ne_true] at q7 ⊢
    obtain ⟨m',hm,w7⟩:=hM _ _ q7
    obtain ⟨st7,fr7⟩:=again (ys':=ys) (k':=0) J7 (fun _ _ _ e=>e)
    exact ⟨m',hm,i + 1,H7,ys,its,n,J7.unpinned.weak l6.symm wk,st7,fr7,v1,w7⟩
   | true =>
    rw [if_pos rfl] at q7 ⊢
    refine thn (he _ _ _ _ hmc _ s7 σ6 H7 _ J7 q7) fun y s8 ⟨v,H8,J8,r8,hlt,mq⟩=>?_
    obtain ⟨m',hm,w8⟩:=hM _ _ mq
    obtain ⟨st8,fr8⟩:=again (ys':=ys) (k':=0) J8 (fun _ _ _ e=>e)
    have J9:=J8.unpinned
    obtain ⟨pD,nD,neD,nfD,_⟩:=J9.pin (s.heap.objs.size,{ cls:=.type "list",data:=.seq its.toArray n }) (List.mem_append_right _ (List.mem_singleton.mpr rfl))
    refine wpAny_list_append_plain (hsz:=by rw [List.size_toArray,← v1.length];omega) ⟨n,pD⟩ fun h9 hl9 hs9=>?_
    obtain ⟨n9,hl9⟩:=hl9
    have e9:(its.toArray.push y)=(its++[y]).toArray:=by simp
    rw [e9] at hl9
    have Ja:Inv (X.comp N scope H2.objs.size s H fp) [] (qcD nl ixs σ) H8 { s8 with heap:=h9,toks:=s8.toks }:=
     ((J9.pins_of (pins':=[]) fun p hp=>absurd hp (by simp)).turned (it:=s.heap.objs.size) (h':=h9) (t':=s8.toks) (fun b o hb e=>(hs9.2 b hb).trans e) nD neD (.inr (Nat.le_refl _))
      (fun x c e z=>by
       obtain ⟨c0,o0,h0,_⟩:=I0.cell x c e
       have:=zf e
       rcases this with ⟨hfr,hcc⟩ | hcc
       ·obtain ⟨c',hc'⟩:=I.ok.has x (by
         rcases O.free _ hfr rfl with q | q
         ·exact .inl q
         ·exact .inr q)
        rw [hc'] at hcc
        have hcc':c=c':=hcc
        obtain ⟨_,q⟩:=I.cell x c' hc'
        rw [← hcc',z] at q
        exact absurd q.lt (Nat.lt_irrefl _)
       ·cases hcc) (fun p hp=>absurd hp (by simp))).weak l6.symm wk
    refine ⟨m',hm,i + 1,H8,ys++[v],its++[y],n9,Ja.pins_of fun p hp=>?_,?_,fr8,v1.append (.cons r8 .nil),w8⟩
    ·have e:p=_:=List.mem_singleton.mp hp
     subst e
     exact ⟨hl9,nD,neD,nfD,fun v z=>by cases z⟩
    ·exact T.keep _ _ _ st8 fun b hb o e=>(hs9.2 b (below b (hfl b hb)).2).trans e
 exact codeAny_compStart_list (loop _ rfl) (T.self _ 0 _ _ _ (T.keep _ _ _ st fun b _ o e=>old b o e) (loop _ rfl))
end
section
variable {X:Cx} {tg elt iter:Expr} {ifs:List Expr} {scope:Scope} {pos:Pos} {N:List Str} {nl:Nat} {ixs:List Nat} {wi:TI} {g:TG} {tc:TT} {te:TE}
theorem qbR {sc:Scope} {XN:List Str} (N:List Str) (nl:Nat) (ixs:List Nat) (hsc:X.env.scope=sc) (hXN:X.N=XN) (hc:Mild X) (O':qeK sc scope=true) (hN:N.length=nl + ixs.length) (hcap':qgZ nl ixs N XN scope.names=true)
  (hi:PIM X tg iter wi) (hg:∀ C s0 H0 ex,Mild (X.comp N scope C s0 H0 ex)→PG (X.comp N scope C s0 H0 ex) tg g) (gk:qec nl g) (ht:∀ C s0 H0 ex,Mild (X.comp N scope C s0 H0 ex)→qfV (X.comp N scope C s0 H0 ex) ifs tc) (he:∀ C s0 H0 ex,Mild (X.comp N scope C s0 H0 ex)→PE (X.comp N scope C s0 H0 ex) elt te)
  (hs:∀ x,foldedSetIterable iter X.env x=pure x:=by intro _;rfl):PE X (.ListComp elt [⟨tg,iter,ifs,0⟩] scope pos) (qfI wi g tc te nl ixs):=by
 intro pins s σ H Q I h
 subst hsc hXN
 have O:=qdi O'
 have hcap:=qeb hcap'
 rw [eval_ListComp]
 have hcl:=qaD (scope:=scope) (env:=X.env) fun n hn=>I.ok.has n (by
  rcases O.free _ hn rfl with z | z
  ·exact .inl z
  ·exact .inr z)
 refine wpAny_comprehension_free (use:=none) rfl hs hcl O.kind O.loc (thn (hi pins s σ H _ I h) fun v s1 h1=>thn h1 fun itv s2 h2=>?_)
 obtain ⟨it,fp,tn,J,H2,e,I2,T,st2,f2,hW⟩:=h2
 subst e
 refine comp_blockM (Q:=Q) (RR:=fun acc C=>compPost (model X.prog X.w) X.A X.xe none (EP X pins σ Q) acc C) I2 hc O hN hcap T st2 f2 hg gk ht he hW ?_
 intro D C s' H' σ' ys its n hC hD J' hv hz q
 obtain ⟨m,hn,_⟩:=id J'.loc
 have B:=I2.compBack f2 hC hD J' hv hz
 obtain ⟨_,nD,neD,_,_⟩:=J'.pin (D,{ cls:=.type "list",data:=.seq its.toArray n }) (List.mem_append_right _ (List.mem_singleton.mpr rfl))
 refine ⟨m,hn,fun h' sb=>⟨.ref D,_,?_,rfl,q D nD⟩⟩
 refine B.turned (it:=C) (h':=h') (t':=s'.toks) (fun b o hb e=>(sb.2 b hb).trans e) ((qk (H:=H') (a:=D) (b:=C) (o:=.lst ys) (Ne.symm neD)).trans J'.free) (Nat.ne_of_gt (Nat.lt_of_lt_of_le I2.lt hC)) (.inr (Nat.le_trans I2.sz hC)) (fun x c e z=>?_) (fun p hp z=>?_)
 ·obtain ⟨_,q⟩:=I2.cell x c e
  exact absurd (Nat.lt_of_lt_of_le q.lt (by rw [z];exact hC)) (Nat.lt_irrefl _)
 ·exact absurd (Nat.lt_of_lt_of_le (Heap.lt_size (I2.pin p hp).1) (by rw [z];exact hC)) (Nat.lt_irrefl _)
end
def qa1 (H:Hp) (a:Addr):Hp:=fun b=>if b=a then none else H b
theorem delH_at {H:Hp} {a:Addr}:qa1 H a a=none:=if_pos rfl
theorem qaU {H:Hp} {a b:Addr} (n:b≠a):qa1 H a b=H b:=if_neg n
theorem zW {H:Hp} {a b:Addr} (e:H b=none):qa1 H a b=none:=by unfold qa1;split<;>first | rfl | exact e
theorem qcS {H:Hp} {a b:Addr} {o:HO} (e:qa1 H a b=some o):b≠a∧H b=some o:=by
 unfold qa1 at e
 split at e
 ·cases e
 ·rename_i n;exact ⟨n,e⟩
theorem zX {H:Hp} {a b C:Addr} {dx:Option Addr} {o:HO} (ha:H a=some (XO a C dx)) (e:H b=some o) (n:∀ φ,o≠.ext φ):qa1 H a b=some o:=by
 rw [qaU,e]
 intro z
 rw [z,ha] at e
 exact n _ (Option.some.inj e).symm
theorem zj {H:Hp} {a b:Addr} {o:HO} (ha:∀ o,H a=some o→∃ φ,o=.ext φ) (e:H b=some o) (n:∀ φ,o≠.ext φ):qa1 H a b=some o:=by
 rw [qaU,e]
 intro z
 rw [z] at e
 obtain ⟨φ,q⟩:=ha o e
 exact n φ q
abbrev Cx.handM (X:Cx) (a:Addr) (o:Obj):Cx:={ X with A:=X.A.mark (some (.ref a)),calm:=false,pn:=(a,o)::X.pn,xe:=fun _ _=>False }
section
variable {X:Cx} {pins:List (Addr×Obj)} {σ:St} {H:Hp} {s:Shared} {a C:Addr} {dx:Option Addr}
theorem Inv.nofx (I:Inv X pins σ H s) {b:Addr} {o:HO} (e:H b=some o):b∉X.fs:=fun hb=>by
 obtain ⟨_,ob,ho,_⟩:=I.ok.funs.mem hb
 have:=I.base.free b ob ho (I.ok.frf b hb) fun z=>I.ok.exfs b z hb
 rw [e] at this
 cases this
theorem Inv.handM {vs:Array Value} (I:Inv X pins σ H s) (ha:H a=some (XO a C dx)) (hv:s.heap.get? a=some ⟨.ref C,dx,.fields vs,#[]⟩):Inv (X.handM a ⟨.ref C,dx,.fields vs,#[]⟩) pins σ (qa1 H a) s:=by
 refine ⟨⟨I.ok.mod,I.ok.kind,I.ok.glob,I.ok.blt,I.ok.above,I.ok.inj,I.ok.has,I.ok.cab,(fun h=>nomatch h),I.ok.frames,I.ok.stk,I.ok.exf,I.ok.bs,I.ok.bsz,I.ok.noex,I.ok.exfs,I.ok.funs,I.ok.frf⟩,I.os,I.bare,
  ⟨I.base.keep,I.base.slot,fun b o e n z=>zW (I.base.free b o e n z),I.base.there,fun b xs e=>zX ha (I.base.tups b xs e) (fun φ z=>nomatch z),fun b o u e=>zX ha (I.base.frzs b o u e) (fun φ z=>nomatch z),fun b ps e=>?_⟩,
  I.loc,I.cell,zW I.free,fun x c e=>zW (I.freeC x c e),fun p hp=>?_,fun b ob e=>?_,I.len⟩
 ·obtain ⟨m,q⟩:=I.base.tbls b ps e
  exact ⟨m,zX ha q (fun φ z=>nomatch z)⟩
 ·have hp:p=(a,⟨.ref C,dx,.fields vs,#[]⟩)∨p∈X.pn++pins:=List.mem_cons.mp hp
  rcases hp with rfl | hp
  ·exact ⟨hv,delH_at,fun z=>(by have:=I.free;rw [← z,ha] at this;cases this),I.nofx ha,fun v z=>nomatch z⟩
  ·obtain ⟨q1,q2,q3⟩:=I.pin p hp
   exact ⟨q1,zW q2,q3⟩
 ·obtain ⟨_,e⟩:=qcS e
  exact (I.hok b ob e).stay (fun _ _ _ q=>q) (fun c q=>zX ha q (fun φ z=>nomatch z)) fun c xs q=>zX ha q (fun φ z=>nomatch z)
theorem Inv.rehand {vs:Array Value} {σ':St} {H':Hp} {s':Shared} (I:Inv X pins σ H s) (ha:H a=some (XO a C dx)) (J:Inv (X.handM a ⟨.ref C,dx,.fields vs,#[]⟩) pins σ' H' s'):H' a=none∧Inv X pins σ' (upd H' a (XO a C dx)) s':=by
 obtain ⟨q1,q2,q3,q4,_⟩:=J.pin (a,⟨.ref C,dx,.fields vs,#[]⟩) List.mem_cons_self
 have ne:∀ {b:Addr} {o:HO},H' b=some o→b≠a:=fun e z=>by rw [z,q2] at e;cases e
 have nh:∀ {b:Addr},H b=none→b≠a:=fun e z=>by rw [z,ha] at e;cases e
 refine ⟨q2,I.ok,J.os,J.bare,⟨J.base.keep,J.base.slot,fun b o e n z=>?_,J.base.there,fun b xs e=>?_,fun b o u e=>?_,fun b ps e=>?_⟩,J.loc,J.cell,?_,fun x c e=>?_,fun p hp=>?_,fun b ob e=>?_,J.len⟩
 ·rw [qk (nh (I.base.free b o e n z))];exact J.base.free b o e n z
 ·have q:=J.base.tups b xs e;rw [qk (ne q)];exact q
 ·have q:=J.base.frzs b o u e;rw [qk (ne q)];exact q
 ·obtain ⟨m,q⟩:=J.base.tbls b ps e;exact ⟨m,by rw [qk (ne q)];exact q⟩
 ·rw [qk (Ne.symm q3)];exact J.free
 ·rw [qk (nh (I.freeC x c e))];exact J.freeC x c e
 ·obtain ⟨z1,z2,z3⟩:=J.pin p (List.mem_cons_of_mem _ hp)
  exact ⟨z1,by rw [qk (nh (I.pin p hp).2.1)];exact z2,z3⟩
 ·by_cases hb:b=a
  ·subst hb
   rw [qb] at e
   cases e
   exact XO.ok q1
  ·rw [qk hb] at e
   exact (J.hok b ob e).stay (fun _ _ _ q=>q) (fun c q=>by rw [qk (ne q)];exact q) fun c xs q=>by rw [qk (ne q)];exact q
theorem mild_hand {vs:Array Value} (h2:vs[2]?=some .none):Mild (X.handM a ⟨.ref C,dx,.fields vs,#[]⟩):=by
 refine ⟨a,⟨.ref C,dx,.fields vs,#[]⟩,rfl,⟨vs,rfl,h2⟩,fun pins σ H s J=>?_⟩
 obtain ⟨q1,q2,q3,q4,_⟩:=J.pin (a,⟨.ref C,dx,.fields vs,#[]⟩) List.mem_cons_self
 refine ⟨q1,q2,fun z=>?_⟩
 rcases List.mem_cons.mp (J.stkSub a z) with e | e
 ·exact q3 e
 ·exact q4 e
end
def thNoM (K:PySem.W.Frag) (a C D:Addr) (dx:Option Addr) (tb rest:TS):TS:=fun Z σ H=>∃ b,PySem.W.mroIn K C (.ref D)=some b∧XAt K D∧XAt K C∧if b=true then
 tb { nx:=fun σ' H'=>H' a=none→Z.nx σ' (upd H' a (XO a C dx)),rt:=fun v H'=>H' a=none→Z.rt v (upd H' a (XO a C dx)),bk:=fun σ' H'=>H' a=none→Z.bk σ' (upd H' a (XO a C dx)),ct:=fun σ' H'=>H' a=none→Z.ct σ' (upd H' a (XO a C dx)) } σ (qa1 H a) else rest Z σ H
section
variable {X:Cx} {a C D:Addr} {dx:Option Addr} {c:Str} {cp pos:Pos} {b0:Stmt} {body:List Stmt} {rest:List ExceptHandler} {tb tr:TS} {K:PySem.W.Frag}
theorem ph_noM (hK:X.K=K) (hg:Gl X c) (hm:X.mg c=some (.ref D)) (hb:∀ o,Mild (X.handM a o)→PSs (X.handM a o) (b0::body) tb) (hr:PH X a C dx rest tr) (hdb:(c==("__debug__":Str))=false:=by decide) :
  PH X a C dx (.ExceptHandler (some (.Name c cp)) none (b0::body) pos::rest) (thNoM K a C D dx tb tr):=by
 subst hK
 intro pins s σ H Z I hl h
 obtain ⟨b,hb1,xd,xc,q⟩:=h
 obtain ⟨vs,he⟩:=(show IsX H a C dx from .inr hl.at_).get I.hok
 refine wpAny_handleBy_cons (codeAny_handlers_test ?_) (by intro q;cases q)
 refine zp (X:=X.hand a) (I.hand a) hg hm (qfd I.kIn he rfl xd hb1 ?_) hdb
 cases b with
 | false=>exact hr pins s σ H Z I hl q
 | true =>
  obtain ⟨T,t,lo⟩:=hl.tr
  refine codeAny_handlers_suite (qbg t fun h1 t1 k1 sz1=>?_)
  have kk:Keep (frs X.stack) [T] s.heap h1:=⟨fun b o e z _=>k1 b o (by simpa using z) e,fun b o e z _=>⟨o.slots,k1 b o (by simpa using z) e⟩⟩
  have I1:=I.noted hl.at_ kk (fun b hb=>.inr (by rw [List.mem_singleton.mp hb];exact lo)) t1
  obtain ⟨ws,w0,w1,w2⟩:=t1.ex
  refine wpAny_mono (hb _ (mild_hand w2) pins _ σ (qa1 H a) _ (I1.handM hl.at_ w0) q) (fun f s3 hf=>?_) fun _ _ z=>z.elim
  cases f with
  | next=>obtain ⟨σ',H',J,z⟩:=hf;exact ⟨σ',_,(I1.rehand hl.at_ J).2,z (I1.rehand hl.at_ J).1⟩
  | brk=>obtain ⟨σ',H',J,z⟩:=hf;exact ⟨σ',_,(I1.rehand hl.at_ J).2,z (I1.rehand hl.at_ J).1⟩
  | cont=>obtain ⟨σ',H',J,z⟩:=hf;exact ⟨σ',_,(I1.rehand hl.at_ J).2,z (I1.rehand hl.at_ J).1⟩
  | ret u=>obtain ⟨v,σ',H',J,r,z⟩:=hf;exact ⟨v,σ',_,(I1.rehand hl.at_ J).2,r,z (I1.rehand hl.at_ J).1⟩
end
end L2
namespace K14
open PySem L2 PyProof.Rows
theorem Sr (H:Hp):L2.Same H H:=L2.Same.refl H
theorem zH {k:Nat} {A:Around} (hr:Room k A):A.units + 100 < cLine:=by have:=hr.un;omega
theorem hm {k j:Nat} {A:Around} (hr:Room k A) (h:j≤k:=by decide):Room j A:=hr.mono h
theorem sc_OnceError_init:FnScope ["self", "text"] ["self", "text"] (qd je):=fS
theorem sc_NoName_init:FnScope ["self", "found"] ["self", "found"] (qd jw):=fS
theorem sc_Twice_init:FnScope ["self", "name"] ["self", "name"] (qd jK):=fS
theorem sc_NoPlace_init:FnScope ["self", "found"] ["self", "found"] (qd jn):=fS
theorem sc_NoTie_init:FnScope ["self", "found"] ["self", "found"] (qd jL):=fS
theorem sc_TooMany_init:FnScope ["self", "many"] ["self", "many"] (qd jo):=fS
theorem sc_NoText_init:FnScope ["self", "at"] ["self", "at"] (qd jx):=fS
theorem sc_NoMove_init:FnScope ["self", "found"] ["self", "found"] (qd jy):=fS
theorem sc_NoBack_init:FnScope ["self"] ["self"] (qd jz):=fS
local macro_rules | `(tactic| walk_at "w")=>`(tactic| first
 | with_reducible refine vSeq ?_ | with_reducible refine vAsg ?_ | with_reducible refine vAsgS ?_ | with_reducible refine vIfS ?_ | with_reducible refine vRet ?_ | with_reducible refine vNext ?_ | with_reducible refine vC ?_
 | ((with_reducible refine' vVar ?hv ?_);(case hv=>rfl)) | with_reducible refine vOp ?_ | with_reducible refine vChain ?_ | with_reducible refine vNil ?_ | with_reducible refine vCons ?_ | with_reducible refine vCB ?_ | with_reducible refine vCall ?_
 | with_reducible refine vLst ?_ | with_reducible refine vTup ?_ | with_reducible refine vTest ?_ | with_reducible refine vB ?_ | with_reducible refine vNot ?_ | with_reducible refine vAnd ?_ | with_reducible refine vOr ?_
 | with_reducible refine vAndV ?_ | with_reducible refine vOrV ?_ | with_reducible refine vNotV ?_ | with_reducible refine vYes ?_ | with_reducible refine vLeI ?_ | with_reducible refine vLeS ?_ | with_reducible refine vIsB ?_ | with_reducible refine vAddI ?_ | with_reducible refine vSl ?_ | with_reducible refine vNoPart ?_ | with_reducible refine vPart ?_ | with_reducible refine vExI ?_ | with_reducible refine vBM ?_ | with_reducible refine vBM0 ?_ | with_reducible refine vComp ?_ | with_reducible refine vFor ?_ | with_reducible refine vRng1 ?_ | with_reducible refine vAny ?_ | with_reducible refine vGN ?_ | with_reducible refine vI0 ?_ | with_reducible refine vEqI ?_ | with_reducible refine vEqB ?_ | with_reducible refine vEx ?_ | with_reducible refine vDrop ?_ | with_reducible refine vRetN ?_ | with_reducible refine vFldU ?_ | with_reducible refine vSFldU ?_ | with_reducible refine vXMake ?_ | with_reducible refine vMake ?_ | with_reducible refine vMeth ?_ | with_reducible refine vVinit ?_ | with_reducible refine vCallS ?_ | with_reducible refine vRaise ?_ | with_reducible refine vMethS ?_ | with_reducible refine vMakeS ?_ | with_reducible refine vUn ?_ | with_reducible refine vIf ?_ | with_reducible refine vRev ?_ | with_reducible refine vEnum ?_ | with_reducible refine vDGet2 ?_ | with_reducible refine vStep ?_)
local macro_rules | `(tactic| walk_at "v")=>`(tactic| repeat walk_at "w")
def qaj (i:Nat):Str:=if i=1 then "name" else if i=4 then "many" else if i=7 then "at" else "found"
structure Txt (K:W.Frag) (mg:Str→Option Value) (cc:Nat→Addr) (cw:Addr):Prop where
 b_len:mg "len"=none
 b_int:mg "int"=none
 b_enumerate:mg "enumerate"=none
 b_all:mg "all"=none
 b_max:mg "max"=none
 b_min:mg "min"=none
 b_isinstance:mg "isinstance"=none
 b_bool:mg "bool"=none
 b_str:mg "str"=none
 b_range:mg "range"=none
 b_list:mg "list"=none
 b_tuple:mg "tuple"=none
 b_ValueError:mg "ValueError"=none
 g_LONGEST_NAME:∃ tk,mg "LONGEST_NAME"=some (.int 6 tk)
 g_MOST_PLACES:∃ tk,mg "MOST_PLACES"=some (.int 14 tk)
 g_MOST_TIES:∃ tk,mg "MOST_TIES"=some (.int 30 tk)
 m_NoName:mg "NoName"=some (.ref (cc 0))
 m_Twice:mg "Twice"=some (.ref (cc 1))
 m_NoPlace:mg "NoPlace"=some (.ref (cc 2))
 m_NoTie:mg "NoTie"=some (.ref (cc 3))
 m_TooMany:mg "TooMany"=some (.ref (cc 4))
 m_NoMove:mg "NoMove"=some (.ref (cc 5))
 m_NoBack:mg "NoBack"=some (.ref (cc 6))
 m_NoText:mg "NoText"=some (.ref (cc 7))
 m_OnceError:mg "OnceError"=some (.ref (cc 8))
 vinit:VInit K
 xat:∀ i,i < 8 + 1→XAt K (cc i)
 na:∀ i,i < 8→NoAttr K (cc i) (qaj i)
 kit:∀ i j,i < 8→j < 8→W.kitOne K (.ref (cc i)) (.ref (cc j))=some (decide (i=j))
 kitV:∀ i,i < 8 + 1→W.kitOne K (.ref (cc i)) (.type "ValueError")=some true
 mroO:∀ i,i < 8→W.mroIn K (cc i) (.ref (cc 8))=some true
 wcl:Cls K cw
 wn:NoAttr K cw "numbers"
 wo:NoAttr K cw "order"
 wr:NoAttr K cw "near"
 m_Web:mg "Web"=some (.ref cw)
 m_Play:mg "Play"=some (.ref (cc 9))
 pcl:Cls K (cc 9)
 pb:NoAttr K (cc 9) "board"
 pp:NoAttr K (cc 9) "path"
 mr2:W.mroIn K (cc 2) (.ref (cc 2))=some true
 mr5:W.mroIn K (cc 5) (.ref (cc 5))=some true
 mr6:W.mroIn K (cc 6) (.ref (cc 6))=some true
 mr7:W.mroIn K (cc 7) (.ref (cc 7))=some true
 mr52:W.mroIn K (cc 5) (.ref (cc 2))=some false
def qam (K:W.Frag):Sp:=fun vs H Q _=>∃ (e C:Addr) (y:V),vs=[.ref e,y]∧H e=some (XN e C none)∧XAt K C∧Q .non H
def qg2 (C:Addr):Sp:=fun vs H Q _=>∃ (e:Addr),vs=[.ref e]∧H e=some (XN e C none)∧Q .non H
def spX (C:Addr) (fl:Str):Sp:=fun vs H Q _=>∃ (e:Addr) (v:V),vs=[.ref e,v]∧H e=some (XN e C none)∧∀ dx,H dx=none→Q .non (upd (upd H dx (.xd [(fl,v)])) e (XN e C (some dx)))
section
variable {P:Program} {w:World} {K:W.Frag} {mg:Str→Option Value} {base:Heap} {cc:Nat→Addr} {cw:Addr} {f:Addr} {fd:FuncData}
theorem ok_once (F:Fun K "__init__" "OnceError.__init__" je f fd) (T:Txt K mg cc cw):FnOk P w K mg base CX0 1 f fd ["self", "text"] (qam K):=by
 refine F.ok sc_OnceError_init (fun vs H Q E h=>?_) fun cdv A outer s H vs Q E hr h=>?_
 ·obtain ⟨e,C,y,rfl,_⟩:=h;rfl
 ·obtain ⟨e,C,y,rfl,he,c,q⟩:=h
  refine ⟨_,(qe (qC (k_vinit (K:=K) rfl T.vinit rfl T.b_ValueError boot_ValueError (qa (pv 0) (qa (pv 1) qc))))),?_⟩
  walk_at "v"
  exact ⟨e,C,y,rfl,he,c,q⟩
theorem ok_NoName (F:Fun K "__init__" "NoName.__init__" jw f fd) (T:Txt K mg cc cw) (D_OnceError_init:CMethOk P w K mg base CX0 1 (cc 8) "OnceError" "__init__" ["self", "text"] (qam K)) :
  FnOk P w K mg base CX0 2 f fd ["self", "found"] (spX (cc 0) (qaj 0)):=by
 refine F.ok sc_NoName_init (fun vs H Q E h=>?_) fun cdv A outer s H vs Q E hr h=>?_
 ·obtain ⟨e,v,rfl,_⟩:=h;rfl
 ·obtain ⟨e,v,rfl,he,q⟩:=h
  refine ⟨_,(qf (qC (zw D_OnceError_init (hm hr) (qa (pv 0) (qa qV qc))))
 (qe (jQ (K:=K) rfl (pv 0) (pv 1) rfl))),?_⟩
  walk_at "v"
  refine ⟨e,_,_,rfl,he,T.xat 0 (by decide),?_⟩
  walk_at "v"
  exact .inr ⟨e,_,rfl,he,T.xat 0 (by decide),T.na 0 (by decide),q⟩
theorem ok_Twice (F:Fun K "__init__" "Twice.__init__" jK f fd) (T:Txt K mg cc cw) (D_OnceError_init:CMethOk P w K mg base CX0 1 (cc 8) "OnceError" "__init__" ["self", "text"] (qam K)) :
  FnOk P w K mg base CX0 2 f fd ["self", "name"] (spX (cc 1) (qaj 1)):=by
 refine F.ok sc_Twice_init (fun vs H Q E h=>?_) fun cdv A outer s H vs Q E hr h=>?_
 ·obtain ⟨e,v,rfl,_⟩:=h;rfl
 ·obtain ⟨e,v,rfl,he,q⟩:=h
  refine ⟨_,(qf (qC (zw D_OnceError_init (hm hr) (qa (pv 0) (qa qV qc))))
 (qe (jQ (K:=K) rfl (pv 0) (pv 1) rfl))),?_⟩
  walk_at "v"
  refine ⟨e,_,_,rfl,he,T.xat 1 (by decide),?_⟩
  walk_at "v"
  exact .inr ⟨e,_,rfl,he,T.xat 1 (by decide),T.na 1 (by decide),q⟩
theorem ok_NoPlace (F:Fun K "__init__" "NoPlace.__init__" jn f fd) (T:Txt K mg cc cw) (D_OnceError_init:CMethOk P w K mg base CX0 1 (cc 8) "OnceError" "__init__" ["self", "text"] (qam K)) :
  FnOk P w K mg base CX0 2 f fd ["self", "found"] (spX (cc 2) (qaj 2)):=by
 refine F.ok sc_NoPlace_init (fun vs H Q E h=>?_) fun cdv A outer s H vs Q E hr h=>?_
 ·obtain ⟨e,v,rfl,_⟩:=h;rfl
 ·obtain ⟨e,v,rfl,he,q⟩:=h
  refine ⟨_,(qf (qC (zw D_OnceError_init (hm hr) (qa (pv 0) (qa qV qc))))
 (qe (jQ (K:=K) rfl (pv 0) (pv 1) rfl))),?_⟩
  walk_at "v"
  refine ⟨e,_,_,rfl,he,T.xat 2 (by decide),?_⟩
  walk_at "v"
  exact .inr ⟨e,_,rfl,he,T.xat 2 (by decide),T.na 2 (by decide),q⟩
theorem ok_NoTie (F:Fun K "__init__" "NoTie.__init__" jL f fd) (T:Txt K mg cc cw) (D_OnceError_init:CMethOk P w K mg base CX0 1 (cc 8) "OnceError" "__init__" ["self", "text"] (qam K)) :
  FnOk P w K mg base CX0 2 f fd ["self", "found"] (spX (cc 3) (qaj 3)):=by
 refine F.ok sc_NoTie_init (fun vs H Q E h=>?_) fun cdv A outer s H vs Q E hr h=>?_
 ·obtain ⟨e,v,rfl,_⟩:=h;rfl
 ·obtain ⟨e,v,rfl,he,q⟩:=h
  refine ⟨_,(qf (qC (zw D_OnceError_init (hm hr) (qa (pv 0) (qa qV qc))))
 (qe (jQ (K:=K) rfl (pv 0) (pv 1) rfl))),?_⟩
  walk_at "v"
  refine ⟨e,_,_,rfl,he,T.xat 3 (by decide),?_⟩
  walk_at "v"
  exact .inr ⟨e,_,rfl,he,T.xat 3 (by decide),T.na 3 (by decide),q⟩
theorem ok_TooMany (F:Fun K "__init__" "TooMany.__init__" jo f fd) (T:Txt K mg cc cw) (D_OnceError_init:CMethOk P w K mg base CX0 1 (cc 8) "OnceError" "__init__" ["self", "text"] (qam K)) :
  FnOk P w K mg base CX0 2 f fd ["self", "many"] (spX (cc 4) (qaj 4)):=by
 refine F.ok sc_TooMany_init (fun vs H Q E h=>?_) fun cdv A outer s H vs Q E hr h=>?_
 ·obtain ⟨e,v,rfl,_⟩:=h;rfl
 ·obtain ⟨e,v,rfl,he,q⟩:=h
  refine ⟨_,(qf (qC (zw D_OnceError_init (hm hr) (qa (pv 0) (qa qV qc))))
 (qe (jQ (K:=K) rfl (pv 0) (pv 1) rfl))),?_⟩
  walk_at "v"
  refine ⟨e,_,_,rfl,he,T.xat 4 (by decide),?_⟩
  walk_at "v"
  exact .inr ⟨e,_,rfl,he,T.xat 4 (by decide),T.na 4 (by decide),q⟩
theorem ok_NoMove (F:Fun K "__init__" "NoMove.__init__" jy f fd) (T:Txt K mg cc cw) (D_OnceError_init:CMethOk P w K mg base CX0 1 (cc 8) "OnceError" "__init__" ["self", "text"] (qam K)) :
  FnOk P w K mg base CX0 2 f fd ["self", "found"] (spX (cc 5) (qaj 5)):=by
 refine F.ok sc_NoMove_init (fun vs H Q E h=>?_) fun cdv A outer s H vs Q E hr h=>?_
 ·obtain ⟨e,v,rfl,_⟩:=h;rfl
 ·obtain ⟨e,v,rfl,he,q⟩:=h
  refine ⟨_,(qf (qC (zw D_OnceError_init (hm hr) (qa (pv 0) (qa qV qc))))
 (qe (jQ (K:=K) rfl (pv 0) (pv 1) rfl))),?_⟩
  walk_at "v"
  refine ⟨e,_,_,rfl,he,T.xat 5 (by decide),?_⟩
  walk_at "v"
  exact .inr ⟨e,_,rfl,he,T.xat 5 (by decide),T.na 5 (by decide),q⟩
theorem ok_NoBack (F:Fun K "__init__" "NoBack.__init__" jz f fd) (T:Txt K mg cc cw) (D_OnceError_init:CMethOk P w K mg base CX0 1 (cc 8) "OnceError" "__init__" ["self", "text"] (qam K)) :
  FnOk P w K mg base CX0 2 f fd ["self"] (qg2 (cc 6)):=by
 refine F.ok sc_NoBack_init (fun vs H Q E h=>?_) fun cdv A outer s H vs Q E hr h=>?_
 ·obtain ⟨e,rfl,_⟩:=h;rfl
 ·obtain ⟨e,rfl,he,q⟩:=h
  refine ⟨_,(qe (qC (zw D_OnceError_init (hm hr) (qa (pv 0) (qa qV qc))))),?_⟩
  walk_at "v"
  exact ⟨e,_,_,rfl,he,T.xat 6 (by decide),q⟩
theorem ok_NoText (F:Fun K "__init__" "NoText.__init__" jx f fd) (T:Txt K mg cc cw) (D_OnceError_init:CMethOk P w K mg base CX0 1 (cc 8) "OnceError" "__init__" ["self", "text"] (qam K)) :
  FnOk P w K mg base CX0 2 f fd ["self", "at"] (spX (cc 7) (qaj 7)):=by
 refine F.ok sc_NoText_init (fun vs H Q E h=>?_) fun cdv A outer s H vs Q E hr h=>?_
 ·obtain ⟨e,v,rfl,_⟩:=h;rfl
 ·obtain ⟨e,v,rfl,he,q⟩:=h
  refine ⟨_,(qf (qC (zw D_OnceError_init (hm hr) (qa (pv 0) (qa qV qc))))
 (qe (jQ (K:=K) rfl (pv 0) (pv 1) rfl))),?_⟩
  walk_at "v"
  refine ⟨e,_,_,rfl,he,T.xat 7 (by decide),?_⟩
  walk_at "v"
  exact .inr ⟨e,_,rfl,he,T.xat 7 (by decide),T.na 7 (by decide),q⟩
theorem sc_is_name:FnScope ["thing"] ["thing"] (qd jR):=fS
theorem sc_has_bit:FnScope ["bits", "number"] ["bits", "number"] (qd zq):=fS
theorem sc_is_place:FnScope ["numbers", "thing"] ["numbers", "thing"] (qd jX):=fS
theorem sc_are_two_places:FnScope ["numbers", "thing", "both"] ["numbers", "thing"] (qd jf):=fS
theorem qK {l:Addr} {H H1:Hp} {o:HO} (a:L2.Same H H1) (hl:H1 l=none):L2.Same H (upd H1 l o):=fun c u e=>by
 have q:=a c u e
 rw [qk (qy q hl)]
 exact q
theorem qfl {l:Addr} {H H1:Hp} {o:HO} (a:L2.Same H H1) (hl:H l=none):L2.Same H (upd H1 l o):=fun c u e=>by
 rw [qk (qy e hl)]
 exact a c u e
def sg (c:Nat):Bool:=if (!decide (([c]:List Nat) < ("a":Str).cps.toList))=true then !decide (("z":Str).cps.toList < [c]) else false
def jT (x:Str):Bool:=if 1≤x.length∧x.length≤6 then x.cps.toList.all sg else false
def qaK:V→Bool
 | .str x=>jT x
 | _=>false
def jF:V→Str
 | .str x=>x
 | _=>""
theorem jE {x:V} (h:qaK x=true):x=.str (jF x)∧jT (jF x)=true∧(jF x).length≤6:=by
 cases x with
 | str y =>
  refine ⟨rfl,h,?_⟩
  have h':jT y=true:=h
  unfold jT at h'
  split at h'
  ·rename_i z;exact z.2
  ·cases h'
 | _=>cases h
inductive Th (p:Addr) (H:Hp):Nat→V→Prop
 | flat {n:Nat} {v:V} (f:zB v=true) (l:∀ s,v=.str s→s.length≤100000):Th p H n v
 | lst {n:Nat} {a:Addr} {xs:List V} (e:H a=some (.lst xs)) (ne:a≠p) (h:∀ x∈xs,Th p H n x) (l:xs.length≤1000):Th p H (n + 1) (.ref a)
 | tup {n:Nat} {a:Addr} {xs:List V} (e:H a=some (.tup xs)) (ne:a≠p) (h:∀ x∈xs,Th p H n x) (l:xs.length≤1000):Th p H (n + 1) (.ref a)
 | dct {n:Nat} {a:Addr} {kvs:List (Key×V)} (e:H a=some (.dK kvs)) (ne:a≠p):Th p H n (.ref a)
theorem Th.mono {p:Addr} {H:Hp}:∀ {n:Nat} {v:V},Th p H n v→Th p H (n + 1) v
 | _,_,.flat f l=>.flat f l
 | _,_,.lst e ne h l=>.lst e ne (fun x hx=>(h x hx).mono) l
 | _,_,.tup e ne h l=>.tup e ne (fun x hx=>(h x hx).mono) l
 | _,_,.dct e ne=>.dct e ne
theorem Th.keep {p:Addr} {H H':Hp} (k:∀ b o,b≠p→H b=some o→H' b=some o):∀ {n:Nat} {v:V},Th p H n v→Th p H' n v
 | _,_,.flat f l=>.flat f l
 | _,_,.lst e ne h l=>.lst (k _ _ ne e) ne (fun x hx=>(h x hx).keep k) l
 | _,_,.tup e ne h l=>.tup (k _ _ ne e) ne (fun x hx=>(h x hx).keep k) l
 | _,_,.dct e ne=>.dct (k _ _ ne e) ne
theorem Th.same {p:Addr} {H H':Hp} {n:Nat} {v:V} (h:Th p H n v) (s:L2.Same H H'):Th p H' n v:=h.keep fun b o _ e=>s b o e
inductive Arg (p:Addr) (H:Hp):V→Option (List V)→Prop
 | lst {a:Addr} {xs:List V} (e:H a=some (.lst xs)) (ne:a≠p) (h:∀ x∈xs,Th p H 2 x) (l:xs.length≤1000):Arg p H (.ref a) (some xs)
 | tup {a:Addr} {xs:List V} (e:H a=some (.tup xs)) (ne:a≠p) (h:∀ x∈xs,Th p H 2 x) (l:xs.length≤1000):Arg p H (.ref a) (some xs)
 | flat {v:V} (f:zB v=true) (l:∀ s,v=.str s→s.length≤100000):Arg p H v none
 | dct {a:Addr} {kvs:List (Key×V)} (e:H a=some (.dK kvs)) (ne:a≠p):Arg p H (.ref a) none
theorem Arg.keep {p:Addr} {H H':Hp} (k:∀ b o,b≠p→H b=some o→H' b=some o) {v:V} {o:Option (List V)} (h:Arg p H v o):Arg p H' v o:=by
 cases h with
 | lst e ne h l=>exact .lst (k _ _ ne e) ne (fun x hx=>(h x hx).keep k) l
 | tup e ne h l=>exact .tup (k _ _ ne e) ne (fun x hx=>(h x hx).keep k) l
 | flat f l=>exact .flat f l
 | dct e ne=>exact .dct (k _ _ ne e) ne
theorem Arg.same {p:Addr} {H H':Hp} {v:V} {o:Option (List V)} (h:Arg p H v o) (s:L2.Same H H'):Arg p H' v o:=h.keep fun b o _ e=>s b o e
def isB:V→Bool
 | .bl _=>true
 | _=>false
theorem Th.ty {K:W.Frag} {p:Addr} {H:Hp} {n:Nat} {v:V} (h:Th p H n v):∃ t∈["NoneType", "bool", "int", "str", "list", "tuple", "dict"],TyOf K H v (.type t)∧(qeh t "str"=true→∃ x,v=.str x∧x.length≤100000)∧(qeh t "str"=false→qaK v=false) ∧
  (qeh t "tuple"=true→∃ a xs,v=.ref a∧H a=some (.tup xs)∧xs.length≤1000∧∀ x∈xs,Th p H n x)∧(qeh t "tuple"=false→∀ a xs,v=.ref a→H a≠some (.tup xs))∧qeh t "bool"=isB v:=by
 have no:∀ {P:Prop} {a b:String},qeh a b=false→qeh a b=true→P:=fun h1 h2=>by rw [h1] at h2;cases h2
 have yes:∀ {P:Prop} {a b:String},qeh a b=true→qeh a b=false→P:=fun h1 h2=>by rw [h1] at h2;cases h2
 cases h with
 | flat f l =>
  cases v with
  | non=>exact ⟨_,by simp,.non,no (by decide),fun _=>rfl,no (by decide),fun _ _ _ e=>by (cases e),rfl⟩
  | bl x=>exact ⟨_,by simp,.bl x,no (by decide),fun _=>rfl,no (by decide),fun _ _ _ e=>by (cases e),rfl⟩
  | int x=>exact ⟨_,by simp,.int x,no (by decide),fun _=>rfl,no (by decide),fun _ _ _ e=>by (cases e),rfl⟩
  | str x=>exact ⟨_,by simp,.str x,fun _=>⟨x,rfl,l x rfl⟩,yes (by decide),no (by decide),fun _ _ _ e=>by (cases e),rfl⟩
  | _=>cases f
 | lst e ne h l=>exact ⟨_,by simp,.lst e,no (by decide),fun _=>rfl,no (by decide),fun _ _ _ z=>by (cases z;rw [e];intro y;cases y),rfl⟩
 | tup e ne h l=>exact ⟨_,by simp,.tup e,no (by decide),fun _=>rfl,fun _=>⟨_,_,rfl,e,l,fun x hx=>(h x hx).mono⟩,yes (by decide),rfl⟩
 | dct e ne=>exact ⟨_,by simp,.dK e,no (by decide),fun _=>rfl,no (by decide),fun _ _ _ z=>by (cases z;rw [e];intro y;cases y),rfl⟩
def qer:Sp:=fun vs H Q _=>∃ (p:Addr) (n:Nat) (v:V),vs=[v]∧Th p H n v∧∀ H',L2.Same H H'→Q (.bl (qaK v)) H'
theorem ok_name (F:Fun K "is_name" "is_name" jR f fd) (T:Txt K mg cc cw):FnOk P w K mg base CX0 1 f fd ["thing"] qer:=by
 refine F.ok sc_is_name (fun vs H Q E h=>?_) fun cdv A outer s H vs Q E hr h=>?_
 ·obtain ⟨p,n,v,rfl,_⟩:=h;rfl
 ·obtain ⟨p,n,v,rfl,hv,q⟩:=h
  refine ⟨_,(qf (qN (PW.pt (qbp (jC (jj (qm (qdr (K:=K) rfl) rfl T.b_isinstance boot_isinstance (qa (pv 0) (qa (jN (v:=.ty "str") rfl T.b_str boot_str rfl) qc))))) (qak (jC (qc9 qe4 qe4 qg (qm (jW (K:=K) rfl) rfl T.b_len boot_len (qa (pv 0) qc)) (qa4 rfl T.g_LONGEST_NAME)))))) (qe (qh zS)) qo)
 (qe (qh (qm (k_all (K:=K) rfl rfl) rfl T.b_all boot_all (qa (qap (sc:=qd jR) (XN:=["thing"]) ["sign"] 1 [] rfl rfl rfl (by decide +kernel) rfl (by decide +kernel)
  (j9 (K:=K) rfl (pv 0)) (fun _ _ _ _=>(qt (i:=0) (show (["sign"]:List Str).Nodup by decide +kernel) rfl (Or.inl rfl))) zC
  (fun _ _ _ _=>qaE)
  (fun _ _ _ _=>(qc8 qe4 qe4 qV (pv 0) qV))) qc))))),?_⟩
  obtain ⟨t,ht,ty,hs,hn,_,_,_⟩:=hv.ty (K:=K)
  walk_at "v"
  refine qeN (.inl ty) rfl (qbK K t ht "str" (by simp)) ?_
  walk_at "v"
  refine qY (fun h=>?_) fun h=>?_
  ·walk_at "v"
   have z:=q H (Sr H)
   rw [hn (by simpa using h)] at z
   exact z
  ·obtain ⟨x,rfl,hx⟩:=hs (by simpa using h)
   walk_at "v"
   refine qgc (Nat.le_trans hx (by decide)) ?_
   walk_at "v"
   have q1:=q
   simp only [qaK,jT] at q1
   have hneg:¬ (1≤x.length∧x.length≤6)→∀ H',L2.Same H H'→Q (.bl false) H':=fun hc H' hs=>by
    have z:=q1 H' hs
    rw [if_neg hc] at z
    exact z
   refine qY (fun h1=>?_) fun h1=>?_
   ·walk_at "v"
    refine qY (fun h2=>?_) fun h2=>?_
    ·walk_at "v"
     refine hneg (fun h=>?_) H (Sr H)
     simp only [Bool.not_eq_true',decide_eq_false_iff_not] at h2
     omega
    ·walk_at "v"
     have hin:1≤x.length∧x.length≤6:=by
      have a1:=of_decide_eq_true h1
      simp only [Bool.not_eq_true',decide_eq_false_iff_not,Classical.not_not] at h2
      omega
     rw [if_pos hin] at q1
     refine qdk (fun i ys H'=>H'=H∧ys=((x.cps.toList.take i).map sg).map V.bl) ⟨rfl,by simp⟩ (fun i c ys H' hc hp=>?_) fun ys H' hp=>?_
     ·obtain ⟨rfl,rfl⟩:=hp
      walk_at "v"
      refine qbH ?_
      walk_at "v"
      have hl:(List.map V.bl (List.map sg (List.take i x.cps.toList))).length < sizeLine:=by
       rw [List.length_map,List.length_map,List.length_take]
       exact qq (Nat.le_trans (Nat.min_le_right _ _) (by simpa [Str.length] using (show x.length≤1000 by omega)))
      have key:∀ b,b=sg c→(List.map V.bl (List.map sg (List.take i x.cps.toList)))++[V.bl b]=List.map V.bl (List.map sg (List.take (i + 1) x.cps.toList)):=by
       intro b hb
       have e':x.cps.toList[i]?=some c:=by simpa using hc
       rw [hb,List.take_add_one,e']
       simp
      refine qY (fun h3=>?_) fun h3=>?_
      ·walk_at "v"
       exact ⟨hl,rfl,key _ (by unfold sg;rw [if_pos h3])⟩
      ·exact ⟨hl,rfl,key _ (by unfold sg;rw [if_neg h3])⟩
     ·obtain ⟨rfl,rfl⟩:=hp
      have ht:x.cps.toList.take x.cps.size=x.cps.toList:=by rw [← Array.length_toList,List.take_length]
      rw [ht]
      refine ⟨?_,fun l hl=>?_⟩
      ·rw [List.length_map,List.length_map]
       exact Nat.le_of_lt (qq (by simpa [Str.length] using (show x.length≤1000 by omega)))
      ·walk_at "v"
       refine ⟨l,x.cps.toList.map sg,rfl,SqL.of qb,?_⟩
       have z:=q1 _ (qK (Sr H') (o:=.lst ((x.cps.toList.map sg).map V.bl)) hl)
       rw [List.all_map]
       exact z
   ·walk_at "v"
    exact hneg (fun h=>h1 (decide_eq_true (by omega))) H (Sr H)
def qes:Sp:=fun vs H Q _=>∃ b n:Int,vs=[.int b,.int n]∧0≤n∧Q (.bl (decide (Builtin.bitAnd (b / 2 ^ n.toNat) 1=1))) H
theorem ok_bit (F:Fun K "has_bit" "has_bit" zq f fd):FnOk P w K mg base CX0 1 f fd ["bits", "number"] qes:=by
 refine F.ok sc_has_bit (fun vs H Q E h=>?_) fun cdv A outer s H vs Q E hr h=>?_
 ·obtain ⟨b,n,rfl,_⟩:=h;rfl
 ·obtain ⟨b,n,rfl,hn,q⟩:=h
  have hu:=zH hr
  refine ⟨_,(qe (qh (jP (zh (K:=K) rfl hu) (qu qeZ (qu qeY (pv 0) (pv 1)) qg) qg (qx _)))),?_⟩
  walk_at "v"
  refine vI hn ?_
  walk_at "v"
  refine .inl (.inl (.inl ⟨rfl,rfl,?_⟩))
  exact q
def qaw:List Str→Nat→List (Key×V)
 | [],_=>[]
 | s::r,i=>(.inr s,.int i)::qaw r (i + 1)
theorem qcs (y:Str):∀ (ss:List Str) (i:Nat),qaw (ss++[y]) i=qaw ss i++[(.inr y,.int (i + ss.length:Nat))]
 | [],i=>rfl
 | s::r,i=>by
  show (_::qaw (r++[y]) (i + 1))=_::(qaw r (i + 1)++_)
  rw [qcs y r (i + 1)]
  have:i + 1 + r.length=i + (s::r).length:=by simp;omega
  rw [this]
theorem zM:∀ (ss:List Str) (i:Nat),(qaw ss i).length=ss.length
 | [],_=>rfl
 | _::r,i=>congrArg (· + 1) (zM r (i + 1))
theorem qbk {y:Str}:∀ {ss:List Str} {i:Nat},y∉ss→qbW (qaw ss i) (.inr y:Key)=none
 | [],_,_=>rfl
 | s::r,i,h=>by
  have h1:¬ s=y:=fun e=>h (by rw [e];exact List.mem_cons_self)
  show qbW ((.inr s,V.int i)::qaw r (i + 1)) _=none
  rw [qaz (p:=((.inr s:Key),V.int i)) (fun e=>h1 (Sum.inr.inj e))]
  exact qbk fun m=>h (List.mem_cons_of_mem _ m)
theorem zb {y:Str}:∀ {ss:List Str} {i:Nat},y∈ss→∃ j,j < ss.length∧ss[j]?=some y∧qbW (qaw ss i) (.inr y:Key)=some (.int (i + j:Nat))
 | [],_,h=>by cases h
 | s::r,i,h=>by
  by_cases e:s=y
  ·subst e
   exact ⟨0,by simp,rfl,qa3 (p:=((.inr s:Key),V.int i)) rfl⟩
  ·rcases List.mem_cons.mp h with z | z
   ·exact absurd z.symm e
   ·obtain ⟨j,h1,h2,h3⟩:=zb (i:=i + 1) z
    refine ⟨j + 1,by simp;omega,by simpa using h2,?_⟩
    show qbW ((.inr s,V.int i)::qaw r (i + 1)) _=_
    rw [qaz (p:=((.inr s:Key),V.int i)) (fun e'=>e (Sum.inr.inj e')),h3]
    have:i + 1 + j=i + (j + 1):=by omega
    rw [this]
theorem qat (y:Str) (ss:List Str) (i:Nat):(qbW (qaw ss i) (.inr y:Key)).isSome=decide (y∈ss):=by
 by_cases h:y∈ss
 ·obtain ⟨j,_,_,e⟩:=zb (i:=i) h
  rw [e,decide_eq_true h];rfl
 ·rw [qbk h,decide_eq_false h];rfl
def jm (ss:List Str) (v:V):Bool:=if qaK v=true then decide (jF v∈ss) else false
def qcT:Sp:=fun vs H Q _=>∃ (p:Addr) (n:Nat) (d:Addr) (ss:List Str) (v:V),vs=[.ref d,v]∧H d=some (.dK (qaw ss 0))∧Th p H n v∧∀ H',L2.Same H H'→Q (.bl (jm ss v)) H'
theorem ok_place (F:Fun K "is_place" "is_place" jX f fd) (D_is_name:DefOk P w K mg base CX0 1 "is_name" ["thing"] qer):FnOk P w K mg base CX0 2 f fd ["numbers", "thing"] qcT:=by
 refine F.ok sc_is_place (fun vs H Q E h=>?_) fun cdv A outer s H vs Q E hr h=>?_
 ·obtain ⟨p,n,d,ss,v,rfl,_⟩:=h;rfl
 ·obtain ⟨p,n,d,ss,v,rfl,hd,hv,q⟩:=h
  have hu:=zH hr
  refine ⟨_,(qe (qh (qbZ (qr D_is_name (hm hr) qE (qa (pv 1) qc)) (qbr (jP (qem (K:=K) rfl hu) (pv 1) (pv 0) (by with_unfolding_all rfl)))))),?_⟩
  walk_at "v"
  refine ⟨p,n,v,rfl,hv,fun H1 s1=>?_⟩
  walk_at "v"
  have q1:=q H1 s1
  unfold jm at q1
  refine qY (fun hc=>?_) fun hc=>?_
  ·walk_at "v"
   rw [if_pos hc] at q1
   obtain ⟨e,_,_⟩:=jE hc
   generalize jF v=x at q1 e
   subst e
   refine .inr (.inl ⟨d,_,rfl,DGet.k (k:=Sum.inr x) (s1 d _ hd),?_⟩)
   rw [qat]
   exact q1
  ·rw [if_neg hc] at q1
   exact q1
def qdQ (ss:List Str) (y z:V):Bool:=jm ss y&&jm ss z&&!decide (jF y=jF z)
def zN (H:Hp) (ss:List Str) (x:V):Option (Str×Str):=match x with
 | .ref a=>(match H a with
  | some (.tup [y,z])=>if qdQ ss y z=true then some (jF y,jF z) else none
  | _=>none)
 | _=>none
theorem qdv {H:Hp} {ss:List Str} {a:Addr} {y z:V} (e:H a=some (.tup [y,z])):zN H ss (.ref a)=if qdQ ss y z=true then some (jF y,jF z) else none:=by
 unfold zN
 dsimp only
 rw [e]
theorem j7 {H:Hp} {ss:List Str} {x:V} (h:∀ a xs,x=.ref a→H a=some (.tup xs)→xs.length≠2):zN H ss x=none:=by
 unfold zN
 cases x with
 | ref a =>
  dsimp only
  split
  ·rename_i y z e;exact absurd rfl (h a _ rfl e)
  ·rfl
 | _=>rfl
theorem qct {p:Addr} {n:Nat} {H H':Hp} {ss:List Str} {x:V} (h:Th p H n x) (k:∀ b o,b≠p→H b=some o→H' b=some o):zN H' ss x=zN H ss x:=by
 cases h with
 | flat f l=>cases x<;>first | rfl | cases f
 | lst e ne h l=>rw [j7 (H:=H') (fun a xs z y=>by (cases z;rw [k _ _ ne e] at y;cases y)),j7 (H:=H) fun a xs z y=>by (cases z;rw [e] at y;cases y)]
 | tup e ne h l=>unfold zN;dsimp only;rw [k _ _ ne e,e]
 | dct e ne=>rw [j7 (H:=H') (fun a xs z y=>by (cases z;rw [k _ _ ne e] at y;cases y)),j7 (H:=H) fun a xs z y=>by (cases z;rw [e] at y;cases y)]
theorem tieV_same {p:Addr} {n:Nat} {H H':Hp} {ss:List Str} {x:V} (h:Th p H n x) (s:L2.Same H H'):zN H' ss x=zN H ss x:=qct h fun b o _ e=>s b o e
theorem zr {ss:List Str} {v:V} (h:jm ss v=true):qaK v=true∧jF v∈ss:=by
 unfold jm at h
 split at h
 ·rename_i z;exact ⟨z,of_decide_eq_true h⟩
 ·cases h
def qgm:Sp:=fun vs H Q _=>∃ (p:Addr) (n:Nat) (d:Addr) (ss:List Str) (v:V),vs=[.ref d,v]∧H d=some (.dK (qaw ss 0))∧Th p H n v∧∀ H',L2.Same H H'→Q (.bl (zN H ss v).isSome) H'
theorem ok_two (F:Fun K "are_two_places" "are_two_places" jf f fd) (T:Txt K mg cc cw) (D_is_place:DefOk P w K mg base CX0 2 "is_place" ["numbers", "thing"] qcT):FnOk P w K mg base CX0 3 f fd ["numbers", "thing"] qgm:=by
 refine F.ok sc_are_two_places (fun vs H Q E h=>?_) fun cdv A outer s H vs Q E hr h=>?_
 ·obtain ⟨p,n,d,ss,v,rfl,_⟩:=h;rfl
 ·obtain ⟨p,n,d,ss,v,rfl,hd,hv,q⟩:=h
  have hu:=zH hr
  refine ⟨_,(qf (qN (PW.pt (qbp (jC (jj (qm (qdr (K:=K) rfl) rfl T.b_isinstance boot_isinstance (qa (pv 1) (qa (jN (v:=.ty "tuple") rfl T.b_tuple boot_tuple rfl) qc))))) (qak (qp (qas (K:=K) rfl hu) (qm (jW (K:=K) rfl) rfl T.b_len boot_len (qa (pv 1) qc)) qg (qx _))))) (qe (qh zS)) qo)
 (qf (qw (i:=2) sc_are_two_places.nd rfl (Or.inl rfl) (qbZ (qr D_is_place (hm hr) qE (qa (pv 0) (qa (qO (qP (K:=K) rfl hu) (pv 1) qg (fun _ _=>rfl)) qc))) (qbr (qr D_is_place (hm hr) qE (qa (pv 0) (qa (qO (qP (K:=K) rfl hu) (pv 1) qg (fun _ _=>rfl)) qc))))))
 (qe (qh (qbZ (pv 2) (qbr (jP (qas (K:=K) rfl hu) (qO (qP (K:=K) rfl hu) (pv 1) qg (fun _ _=>rfl)) (qO (qP (K:=K) rfl hu) (pv 1) qg (fun _ _=>rfl)) (qx _)))))))),?_⟩
  obtain ⟨t,ht,ty,_,_,h1,h2,_⟩:=hv.ty (K:=K)
  walk_at "v"
  refine qeN (.inl ty) rfl (qbK K t ht "tuple" (by simp)) ?_
  walk_at "v"
  refine qY (fun h=>?_) fun h=>?_
  ·walk_at "v"
   have z:=q H (Sr H)
   rw [j7 (fun a xs e y=>absurd y (h2 (by simpa using h) a xs e))] at z
   exact z
  ·obtain ⟨a,xs,rfl,ea,_,hx⟩:=h1 (by simpa using h)
   walk_at "v"
   refine qfK ea ?_
   walk_at "v"
   refine .inl ⟨rfl,rfl,?_⟩
   walk_at "v"
   refine qY (fun h=>?_) fun h=>?_
   ·walk_at "v"
    have z:=q H (Sr H)
    rw [j7 (fun a' xs' e y=>by
     cases e
     rw [ea] at y
     cases y
     intro e2
     rw [e2] at h
     simp [eqV] at h)] at z
    exact z
   ·have hl:xs.length=2:=by
     simp only [if_true,eqV,Bool.not_eq_true',Bool.not_eq_false'] at h
     have h':((xs.length:Int)==2)=true:=by simpa using h
     have:=eq_of_beq h'
     omega
    match xs,hl,ea,hx with
    | [y,z],_,ea,hx =>
     have hy:=hx y (by simp)
     have hz:=hx z (by simp)
     rw [qdv ea] at q
     walk_at "v"
     refine .inl (qfJ ea rfl ?_)
     walk_at "v"
     refine ⟨p,n,d,ss,y,rfl,hd,hy,fun H1 s1=>?_⟩
     walk_at "v"
     have fin:∀ H2,L2.Same H H2→¬ (jm ss y=true∧jm ss z=true)→Q (.bl false) H2:=fun H2 s2 hn=>by
      have:=q H2 s2
      rw [if_neg (fun e=>hn (by unfold qdQ at e;simp only [Bool.and_eq_true] at e;exact ⟨e.1.1,e.1.2⟩))] at this
      exact this
     refine qY (fun h3=>?_) fun h3=>?_
     ·walk_at "v"
      refine .inl (qfJ (s1 _ _ ea) rfl ?_)
      walk_at "v"
      refine ⟨p,n,d,ss,z,rfl,s1 _ _ hd,hz.same s1,fun H2 s2=>?_⟩
      walk_at "v"
      refine qY (fun h4=>?_) fun h4=>?_
      ·walk_at "v"
       refine .inl (qfJ (s2 _ _ (s1 _ _ ea)) rfl ?_)
       walk_at "v"
       refine .inl (qfJ (s2 _ _ (s1 _ _ ea)) rfl ?_)
       obtain ⟨ny,_⟩:=zr h3
       obtain ⟨nz,_⟩:=zr h4
       obtain ⟨ey,_,_⟩:=jE ny
       obtain ⟨ez,_,_⟩:=jE nz
       have fq:=q H2 (s1.trans s2)
       unfold qdQ at fq
       rw [h3,h4] at fq
       generalize jF y=sy at ey fq
       generalize jF z=sz at ez fq
       subst ey ez
       refine .inl ⟨rfl,rfl,?_⟩
       have e:(if true=true then !eqV (V.str sy) (V.str sz) else eqV (V.str sy) (V.str sz))=(if (true&&true&&!decide (sy=sz))=true then some (sy,sz) else none).isSome:=by
        by_cases hs:sy=sz
        ·subst hs;simp [eqV]
        ·simp [eqV,hs]
       rw [e]
       exact fq
      ·exact fin H2 (s1.trans s2) fun e=>h4 e.2
     ·walk_at "v"
      refine qY (fun h=>by cases h) fun _=>?_
      exact fin H1 s1 fun e=>h3 e.1
theorem sc_numbers_of:FnScope ["names", "numbers", "name"] ["names"] (qd jM):=fS
theorem qcU (m j:Nat):decide (Builtin.bitAnd ((m:Int) / 2 ^ (j:Int).toNat) 1=1)=m.testBit j:=by
 rw [PyProof.Rows.bitAnd_m1,Nat.testBit_eq_decide_div_mod_eq]
 rw [Int.toNat_natCast]
 have e:(m:Int) / 2 ^ j=((m / 2 ^ j:Nat):Int):=by rw [Int.natCast_ediv,Int.natCast_pow];rfl
 rw [e]
 congr 1
 apply propext
 omega
theorem qfm (m j:Nat):Builtin.bitOr (m:Int) (1 * 2 ^ (j:Int).toNat)=((m ||| 2 ^ j:Nat):Int):=by
 have e:(1 * 2 ^ (j:Int).toNat:Int)=((2 ^ j:Nat):Int):=by rw [Int.toNat_natCast,Int.one_mul,Int.natCast_pow];rfl
 rw [e]
 generalize 2 ^ j=k
 have n1:Builtin.bitNot (m:Int)=-(m:Int) - 1:=rfl
 have n2:Builtin.bitNot (k:Int)=-(k:Int) - 1:=rfl
 unfold Builtin.bitOr Builtin.bitAnd
 rw [n1,n2,decide_eq_false (by omega),decide_eq_false (by omega)]
 dsimp only
 unfold Builtin.bitNot
 have e1:(-(-(m:Int) - 1) - 1).toNat=m:=by omega
 have e2:(-(-(k:Int) - 1) - 1).toNat=k:=by omega
 rw [e1,e2]
 omega
def But (x:Addr) (H H':Hp):Prop:=∀ b o,b≠x→H b=some o→H' b=some o
theorem But.refl (x:Addr) (H:Hp):But x H H:=fun _ _ _ e=>e
theorem But.same {x:Addr} {H H1 H2:Hp} (a:But x H H1) (b:L2.Same H1 H2):But x H H2:=fun c o n e=>b c o (a c o n e)
theorem But.put {x:Addr} {H H1:Hp} {o:HO} (a:But x H H1):But x H (upd H1 x o):=fun c u n e=>by rw [qk n];exact a c u n e
theorem But.new {x l:Addr} {H H1:Hp} {o:HO} (a:But x H H1) (hl:H1 l=none):But x H (upd H1 l o):=a.same (qK (Sr H1) hl)
theorem qG {K:W.Frag} {H1:Hp} {C:Addr} {fl:Str} {y:V} {E:XK} (c:XAt K C) (q:∀ dx H',L2.Same H1 H'→H' dx=some (.xd [(fl,y)])→E (.ref C) (some dx) H') :
  [y].length≤1000∧∀ x,H1 x=none→spX C fl (.ref x::[y]) (upd H1 x (XN x C none)) (fun v H2=>v=.non∧∃ a C' dx,(V.ref x)=.ref a∧H2 a=some (XN a C' dx)∧XAt K C'∧E (.ref C') dx (upd H2 a (XO a C' dx))) E0:=by
 refine ⟨by show 1≤1000;decide,fun x hx=>⟨x,y,rfl,qb,fun dx hdx=>⟨rfl,x,C,some dx,rfl,qb,c,q dx _ (fun b o e=>?_) ?_⟩⟩⟩
 ·have nx:b≠x:=fun z=>by rw [z,hx] at e;cases e
  have nd:b≠dx:=fun z=>by rw [← z,qk nx,e] at hdx;cases hdx
  rw [qk nx,qk nx,qk nd,qk nx]
  exact e
 ·have nd:dx≠x:=fun z=>by rw [z,qb] at hdx;cases hdx
  rw [qk nd,qk nd,qb]
def qgn (g:TG) (t:TS) (D:Ends) (σ:L2.St) (J:It) (H1:Hp):Prop:=∃ W:Nat→Nat→L2.St→Hp→Prop,(∃ m,W 0 m σ H1)∧∀ i m σ H,W i m σ H →
 (J.stop i H∧D.nx σ H)∨(J.go i H∧∃ N:L2.St→Hp→Prop,(∀ σ' H',N σ' H'→∃ m',m' < m∧W (i + 1) m' σ' H')∧∀ x H',J.yld i H x H'→g x σ H' fun σ2 H2=>t { D with nx:=N,ct:=N,bk:=D.nx } σ2 H2)
theorem qet {K:W.Frag} {p:Addr} {H H1:Hp} {v:V} {xs:List V} {g:TG} {tb:TS} {D:Ends} {σ:L2.St} (h:Arg p H v (some xs)) (s1:L2.Same H H1) (Pv:Nat→L2.St→Hp→Prop) (h0:Pv 0 σ H1) (hl:∀ i σ H',Pv i σ H'→L2.Same H H')
  (hs:∀ i x σ H,xs[i]?=some x→Pv i σ H→g x σ H fun σ2 H2=>tb { D with nx:=Pv (i + 1),ct:=Pv (i + 1),bk:=D.nx } σ2 H2) (hd:∀ σ H,Pv xs.length σ H→D.nx σ H) :
  (match v with
   | .str x=>qgn g tb D σ (Its x) H1
   | .ref a=>((∃ xs,SqL K H1 a xs)∧qgn g tb D σ (Itl K a) H1)∨((∃ xs,SqT K H1 a xs)∧qgn g tb D σ (Itt K a) H1)
   | _=>False):=by
 cases h with
 | lst e ne h l=>exact .inl ⟨⟨_,SqL.of (s1 _ _ e)⟩,jO (K:=K) Pv h0 (fun i σ H' _ hp=>SqL.of (hl i σ H' hp _ _ e)) hs hd⟩
 | tup e ne h l=>exact .inr ⟨⟨_,SqT.of (s1 _ _ e)⟩,qd1 (K:=K) Pv h0 (fun i σ H' _ hp=>SqT.of (hl i σ H' hp _ _ e)) hs hd⟩
theorem Arg.ty {K:W.Frag} {p:Addr} {H:Hp} {v:V} {o:Option (List V)} (h:Arg p H v o):∃ t,TyX K H v t∧W.kitAny K t [.type "list",.type "tuple"]=some o.isSome:=by
 cases h with
 | lst e ne h l=>exact ⟨_,.inl (.lst e),rfl⟩
 | tup e ne h l=>exact ⟨_,.inl (.tup e),rfl⟩
 | flat f l =>
  cases v with
  | non=>exact ⟨_,.inl .non,rfl⟩
  | bl x=>exact ⟨_,.inl (.bl x),rfl⟩
  | int x=>exact ⟨_,.inl (.int x),rfl⟩
  | str x=>exact ⟨_,.inl (.str x),rfl⟩
  | _=>cases f
 | dct e ne=>exact ⟨_,.inl (.dK e),rfl⟩
theorem Arg.len {K:W.Frag} {p:Addr} {H:Hp} {v:V} {xs:List V} {Q:VK} (h:Arg p H v (some xs)) (q:Q (.int xs.length) H):qcj K [v] H Q:=by
 cases h with
 | lst e ne h l=>exact qaq e q
 | tup e ne h l=>exact qfK e q
theorem Arg.few {p:Addr} {H:Hp} {v:V} {xs:List V} (h:Arg p H v (some xs)):xs.length≤1000∧∀ x∈xs,Th p H 2 x:=by
 cases h with
 | lst e ne h l=>exact ⟨l,h⟩
 | tup e ne h l=>exact ⟨l,h⟩
theorem Arg.isi {K:W.Frag} {p q:Addr} {H:Hp} {v:V} {o:Option (List V)} {Q:VK} (h:Arg p H v o) (hq:H q=some (.tup [.ty "list",.ty "tuple"])) (k:Q (.bl o.isSome) H):qfe K [v,.ref q] H Q:=by
 obtain ⟨t,ty,e⟩:=h.ty (K:=K)
 exact ⟨v,q,_,t,_,_,rfl,ty,hq,rfl,e,k⟩
def qdR:List V→List Str→Option (Nat×V)
 | [],_=>none
 | x::r,ss=>if qaK x=true then (if jF x∈ss then some (1,x) else qdR r (ss++[jF x])) else some (0,x)
theorem qcu (x:V) (r:List V) (ss:List Str):qdR (x::r) ss=if qaK x=true then (if jF x∈ss then some (1,x) else qdR r (ss++[jF x])) else some (0,x):=rfl
theorem qcv:∀ {xs:List V} {ss:List Str},qdR xs ss=none→xs=(xs.map jF).map V.str∧(∀ x∈xs,qaK x=true)∧(∀ s∈xs.map jF,s∉ss)∧(xs.map jF).Nodup
 | [],ss,_=>⟨rfl,by simp,by simp,by simp⟩
 | x::r,ss,h=>by
  unfold qdR at h
  split at h
  ·rename_i hn
   split at h
   ·cases h
   ·rename_i hm
    obtain ⟨i1,i2,i3,i4⟩:=qcv h
    obtain ⟨e,_,_⟩:=jE hn
    refine ⟨?_,?_,?_,?_⟩
    ·rw [List.map_cons,List.map_cons,← e,← i1]
    ·intro y hy
     rcases List.mem_cons.mp hy with rfl | hy
     ·exact hn
     ·exact i2 y hy
    ·intro s hs
     rcases List.mem_cons.mp hs with rfl | hs
     ·exact hm
     ·exact fun z=>i3 s hs (List.mem_append_left _ z)
    ·rw [List.map_cons,List.nodup_cons]
     exact ⟨fun z=>i3 _ z (List.mem_append_right _ (by simp)),i4⟩
  ·cases h
def qfW (v:V):Option (List V)→Option (Nat×V)
 | none=>some (0,v)
 | some xs=>if 14 < xs.length then some (4,.int xs.length) else qdR xs []
def Rz (cc:Nat→Addr) (H:Hp) (E:XK) (r:Nat×V):Prop:=∀ dx H',L2.Same H H'→H' dx=some (.xd [(qaj r.1,r.2)])→E (.ref (cc r.1)) (some dx) H'
theorem Rz.later {cc:Nat→Addr} {H H1:Hp} {E:XK} {r:Nat×V} (h:Rz cc H E r) (s:L2.Same H H1):Rz cc H1 E r:=fun dx H' t e=>h dx H' (s.trans t) e
def qfn (cc:Nat→Addr):Sp:=fun vs H Q E=>∃ (p:Addr) (v:V) (o:Option (List V)),vs=[v]∧Arg p H v o∧(∀ r,qfW v o=some r→Rz cc H E r)∧(qfW v o=none→∀ d H',L2.Same H H'→H d=none→H' d=some (.dK (qaw ((o.getD []).map jF) 0))→Q (.ref d) H')
theorem ok_nums (F:Fun K "numbers_of" "numbers_of" jM f fd) (T:Txt K mg cc cw) (D_is_name:DefOk P w K mg base CX0 1 "is_name" ["thing"] qer)
  (D_NoName:XMakeOk P w K mg base 2 (cc 0) "NoName" ["self", "found"] (spX (cc 0) (qaj 0))) (D_Twice:XMakeOk P w K mg base 2 (cc 1) "Twice" ["self", "name"] (spX (cc 1) (qaj 1))) (D_TooMany:XMakeOk P w K mg base 2 (cc 4) "TooMany" ["self", "many"] (spX (cc 4) (qaj 4))) :
  FnOk P w K mg base (CX1 P w) 4 f fd ["names"] (qfn cc):=by
 refine F.ok1 sc_numbers_of (fun vs H Q E h=>?_) fun cdv A outer s H vs Q E hr h=>?_
 ·obtain ⟨p,v,o,rfl,_⟩:=h;rfl
 ·obtain ⟨p,v,o,rfl,ha,hz,q⟩:=h
  have hu:=zH hr
  refine ⟨_,(qf (qN (jC (jj (qm (qbh (K:=K) rfl) rfl T.b_isinstance boot_isinstance (qa (pv 0) (qa (zQ (qa (jN (v:=.ty "list") rfl T.b_list boot_list rfl) (qa (jN (v:=.ty "tuple") rfl T.b_tuple boot_tuple rfl) qc))) qc))))) (qe (jq (K:=K) rfl qH (qai D_NoName (hm hr) (qa (pv 0) qc)))) qo)
 (qf (qN (qp qdK (qm (jW (K:=K) rfl) rfl T.b_len boot_len (qa (pv 0) qc)) (qa4 rfl T.g_MOST_PLACES) (qx _)) (qe (jq (K:=K) rfl qH (qai D_TooMany (hm hr) (qa (qm (jW (K:=K) rfl) rfl T.b_len boot_len (qa (pv 0) qc)) qc)))) qo)
 (qf (qw (i:=1) sc_numbers_of.nd rfl (Or.inl rfl) qdg)
 (qf (j8 PassesOwn.leaving rfl (j9 (K:=K) rfl (pv 0)) (qt (i:=2) sc_numbers_of.nd rfl (Or.inl rfl))
 (qf (qN (jC (jj (qr D_is_name (hm hr) qE (qa (pv 2) qc)))) (qe (jq (K:=K) rfl qH (qai D_NoName (hm hr) (qa (pv 2) qc)))) qo)
 (qf (qN (qp (qem (K:=K) rfl hu) (pv 2) (pv 1) (by with_unfolding_all rfl)) (qe (jq (K:=K) rfl qH (qai D_Twice (hm hr) (qa (pv 2) qc)))) qo)
 (qe (qb0 (qm (jW (K:=K) rfl) rfl T.b_len boot_len (qa (pv 1) qc)) (qdZ (pv 1) (pv 2) (qel hu)))))))
 (qe (qh (pv 1))))))),?_⟩
  walk_at "v"
  refine ⟨by show 2≤sizeLine;decide,fun g hg=>?_⟩
  have s0:=qK (Sr H) (o:=.tup [.ty "list",.ty "tuple"]) hg
  walk_at "v"
  refine (ha.same s0).isi qb ?_
  walk_at "v"
  cases o with
  | none =>
   refine qY (fun _=>?_) (fun h=>absurd rfl h)
   walk_at "v"
   exact qG (T.xat 0 (by decide)) ((hz (0,v) rfl).later s0)
  | some xs =>
   refine qY (fun h=>by cases h) fun _=>?_
   obtain ⟨few,hth⟩:=ha.few
   walk_at "v"
   refine (ha.same s0).len ?_
   walk_at "v"
   refine qY (fun h=>?_) fun h=>?_
   ·walk_at "v"
    refine (ha.same s0).len ?_
    walk_at "v"
    have h':14 < xs.length:=by have:=of_decide_eq_true h;omega
    exact qG (T.xat 4 (by decide)) ((hz (4,.int xs.length) (by show (if 14 < xs.length then _ else _)=_;rw [if_pos h'])).later s0)
   ·have h':¬ 14 < xs.length:=fun z=>h (decide_eq_true (by omega))
    have ho:qfW v (some xs)=qdR xs []:=by show (if 14 < xs.length then _ else _)=_;rw [if_neg h']
    rw [ho] at hz q
    walk_at "v"
    intro d hd
    have s1:=qK s0 (o:=.dK []) hd
    have hd0:H d=none:=s0.free hd
    walk_at "v"
    refine qet ha s1 (fun i σ H'=>∃ v2,σ=[some v,some (.ref d),v2]∧L2.Same H H'∧H' d=some (.dK (qaw ((xs.take i).map jF) 0))∧qdR xs []=qdR (xs.drop i) ((xs.take i).map jF)) ⟨none,rfl,s1,qb,rfl⟩ (fun i σ H' hp=>by obtain ⟨_,_,z,_⟩:=hp;exact z) (fun i x σ H' hx hp=>?_) fun σ H' hp=>?_
    ·obtain ⟨v2,rfl,s2,hk,hdue⟩:=hp
     have hil:i < xs.length:=(List.getElem?_eq_some_iff.mp hx).1
     have hdr:xs.drop i=x::xs.drop (i + 1):=by
      rw [List.drop_eq_getElem_cons hil]
      have:=(List.getElem?_eq_some_iff.mp hx).2
      rw [this]
     have htk:xs.take (i + 1)=xs.take i++[x]:=by rw [List.take_add_one,hx];rfl
     rw [hdr,qcu] at hdue
     walk_at "v"
     refine ⟨p,2,x,rfl,(hth x (List.mem_of_getElem? hx)).same s2,fun H1 t1=>?_⟩
     have s3:=s2.trans t1
     walk_at "v"
     refine qY (fun hn=>?_) fun hn=>?_
     ·walk_at "v"
      have hn':¬ qaK x=true:=by simpa using hn
      rw [if_neg hn'] at hdue
      exact qG (T.xat 0 (by decide)) ((hz (0,x) hdue).later s3)
     ·have hn':qaK x=true:=by simpa using hn
      rw [if_pos hn'] at hdue
      obtain ⟨ex,_,hx6⟩:=jE hn'
      have key:∀ y,y=jF x→x=.str y:=fun y hy=>by rw [hy];exact ex
      generalize hy:jF x=y at hdue hx6 ex
      subst ex
      walk_at "v"
      refine .inr (.inl ⟨d,_,rfl,DGet.k (k:=Sum.inr y) (t1 _ _ hk),?_⟩)
      rw [qat]
      walk_at "v"
      refine qY (fun hm=>?_) fun hm=>?_
      ·walk_at "v"
       have hm':y∈(xs.take i).map jF:=of_decide_eq_true hm
       rw [if_pos hm'] at hdue
       exact qG (T.xat 1 (by decide)) ((hz (1,.str y) hdue).later s3)
      ·have hm':y∉(xs.take i).map jF:=fun z=>hm (decide_eq_true z)
       rw [if_neg hm'] at hdue
       walk_at "v"
       refine .inr ⟨_,t1 _ _ hk,?_⟩
       walk_at "v"
       refine .inr ⟨d,_,rfl,DPut.k (k:=Sum.inr y) (t1 _ _ hk) (qq (by rw [zM,List.length_map,List.length_take];omega)),?_⟩
       refine ⟨_,rfl,qfl s3 hd0,?_,?_⟩
       ·rw [qb,putK_new _ (qbk hm'),htk,List.map_append,List.map_cons,List.map_nil,qcs,zM]
        simp only [Nat.zero_add]
        rfl
       ·rw [hdue,htk,List.map_append]
        rfl
    ·obtain ⟨v2,rfl,s2,hk,hdue⟩:=hp
     rw [List.drop_length] at hdue
     walk_at "v"
     rw [List.take_length] at hk
     exact q hdue d H' s2 hd0 hk
theorem sc_Web_init:FnScope ["self", "names", "ties"] ["self", "names", "ties"] (qd zk):=fS
theorem sc_near_of:FnScope ["numbers", "ties", "near", "tie", "one", "other"] ["numbers", "ties"] (qd zI):=fS
def goT (H:Hp) (ss:List Str):List V→List (Str×Str)→Option V
 | [],_=>none
 | x::r,seen=>match zN H ss x with
  | none=>some x
  | some t=>if t∈seen∨(t.2,t.1)∈seen then some x else goT H ss r (seen++[t])
theorem qeu {H:Hp} {ss:List Str} {x:V} {r:List V} {seen:List (Str×Str)} (h:zN H ss x=none):goT H ss (x::r) seen=some x:=by
 show (match zN H ss x with | none=>_ | some t=>_)=_
 rw [h]
theorem qdw {H:Hp} {ss:List Str} {x:V} {r:List V} {seen:List (Str×Str)} {t:Str×Str} (h:zN H ss x=some t):goT H ss (x::r) seen=if t∈seen∨(t.2,t.1)∈seen then some x else goT H ss r (seen++[t]):=by
 show (match zN H ss x with | none=>_ | some t=>_)=_
 rw [h]
def qeH (H:Hp) (ss:List Str) (v:V):Option (List V)→Option (Nat×V)
 | none=>some (3,v)
 | some xs=>if 30 < xs.length then some (4,.int xs.length) else (goT H ss xs []).map fun y=>(3,y)
theorem tieV_some {H:Hp} {ss:List Str} {x:V} {t:Str×Str} (h:zN H ss x=some t):∃ a,x=.ref a∧H a=some (.tup [.str t.1,.str t.2])∧jT t.1=true∧jT t.2=true∧t.1.length≤6∧t.2.length≤6∧t.1∈ss∧t.2∈ss∧t.1≠t.2:=by
 unfold zN at h
 split at h
 ·rename_i a
  split at h
  ·rename_i y z e
   split at h
   ·rename_i hp
    cases h
    unfold qdQ at hp
    simp only [Bool.and_eq_true] at hp
    obtain ⟨⟨h1,h2⟩,h3⟩:=hp
    obtain ⟨n1,m1⟩:=zr h1
    obtain ⟨n2,m2⟩:=zr h2
    obtain ⟨e1,g1,l1⟩:=jE n1
    obtain ⟨e2,g2,l2⟩:=jE n2
    refine ⟨a,rfl,?_,g1,g2,l1,l2,m1,m2,?_⟩
    ·show H a=some (.tup [.str (jF y),.str (jF z)])
     rw [← e1,← e2]
     exact e
    ·simpa using h3
   ·cases h
  ·cases h
 ·cases h
def qaL (ss:List Str) (ns:List Nat) (seen:List (Str×Str)):Prop:=ns.length=ss.length∧(∀ a,ns.getD a 0 < 2 ^ ss.length)∧∀ a b s t,ss[a]?=some s→ss[b]?=some t→(ns.getD a 0).testBit b=decide ((s,t)∈seen∨(t,s)∈seen)
theorem qI {ss:List Str} (h:ss.Nodup) {a b:Nat} {s:Str} (ha:ss[a]?=some s) (hb:ss[b]?=some s):a=b:=by
 have hp:=List.pairwise_iff_getElem.mp h
 obtain ⟨la,ea⟩:=List.getElem?_eq_some_iff.mp ha
 obtain ⟨lb,eb⟩:=List.getElem?_eq_some_iff.mp hb
 rcases Nat.lt_trichotomy a b with q | q | q
 ·exact absurd (ea.trans eb.symm) (hp a b la lb q)
 ·exact q
 ·exact absurd (eb.trans ea.symm) (hp b a lb la q)
theorem bits_zero {ss:List Str}:qaL ss (List.replicate ss.length 0) []:=by
 have z:∀ a,(List.replicate ss.length 0).getD a 0=0:=fun a=>by
  simp only [List.getD,List.getElem?_replicate]
  split<;>rfl
 refine ⟨by simp,fun a=>by rw [z a];exact Nat.two_pow_pos _,fun a b s t ha hb=>?_⟩
 rw [z a]
 simp
theorem qaM {ns:List Nat} {i j v:Nat} (h:i < ns.length):(ns.set i v).getD j 0=if i=j then v else ns.getD j 0:=by
 simp only [List.getD,List.getElem?_set]
 by_cases e:i=j
 ·subst e;simp [h]
 ·simp [e]
theorem bits_step {ss:List Str} {ns:List Nat} {seen:List (Str×Str)} (hb:qaL ss ns seen) (hn:ss.Nodup) {i j:Nat} {s t:Str} (hi:ss[i]?=some s) (hj:ss[j]?=some t) (hst:s≠t) :
  qaL ss ((ns.set i (ns.getD i 0 ||| 2 ^ j)).set j (ns.getD j 0 ||| 2 ^ i)) (seen++[(s,t)]):=by
 obtain ⟨hl,hlt,h⟩:=hb
 have li:i < ns.length:=by rw [hl];exact (List.getElem?_eq_some_iff.mp hi).1
 have lj:j < ns.length:=by rw [hl];exact (List.getElem?_eq_some_iff.mp hj).1
 have nij:i≠j:=fun e=>by rw [e,hj] at hi;cases hi;exact hst rfl
 have li':i < ss.length:=(List.getElem?_eq_some_iff.mp hi).1
 have lj':j < ss.length:=(List.getElem?_eq_some_iff.mp hj).1
 refine ⟨by simp [hl],fun a=>?_,fun a b u v ha hb'=>?_⟩
 ·rw [qaM (by simpa using lj),qaM li]
  split
  ·exact Nat.or_lt_two_pow (hlt _) (Nat.pow_lt_pow_right (by decide) li')
  ·split
   ·exact Nat.or_lt_two_pow (hlt _) (Nat.pow_lt_pow_right (by decide) lj')
   ·exact hlt _
 rw [qaM (by simpa using lj),qaM li]
 have h0:=h a b u v ha hb'
 have key:∀ P Q:Prop,(P↔Q)→∀ [Decidable P] [Decidable Q],decide P=decide Q:=fun P Q e=>by intro _ _;exact decide_eq_decide.mpr e
 by_cases ja:j=a
 ·subst ja
  rw [hj] at ha
  cases ha
  rw [if_pos rfl,Nat.testBit_or,h0,Nat.testBit_two_pow]
  by_cases ib:i=b
  ·subst ib
   rw [hi] at hb'
   cases hb'
   simp
  ·have vs:v≠s:=fun e=>by subst e;exact ib (qI hn hi hb')
   simp only [ib,decide_false,Bool.or_false]
   apply decide_eq_decide.mpr
   simp only [List.mem_append,List.mem_singleton,Prod.mk.injEq]
   constructor
   ·rintro (z | z)
    ·exact .inl (.inl z)
    ·exact .inr (.inl z)
   ·rintro ((z | ⟨z,_⟩) | (z | ⟨z,_⟩))
    ·exact .inl z
    ·exact absurd z.symm hst
    ·exact .inr z
    ·exact absurd z vs
 ·rw [if_neg ja]
  by_cases ia:i=a
  ·subst ia
   rw [hi] at ha
   cases ha
   rw [if_pos rfl,Nat.testBit_or,h0,Nat.testBit_two_pow]
   by_cases jb:j=b
   ·subst jb
    rw [hj] at hb'
    cases hb'
    simp
   ·have vt:v≠t:=fun e=>by subst e;exact jb (qI hn hj hb')
    simp only [jb,decide_false,Bool.or_false]
    apply decide_eq_decide.mpr
    simp only [List.mem_append,List.mem_singleton,Prod.mk.injEq]
    constructor
    ·rintro (z | z)
     ·exact .inl (.inl z)
     ·exact .inr (.inl z)
    ·rintro ((z | ⟨_,z⟩) | (z | ⟨_,z⟩))
     ·exact .inl z
     ·exact absurd z vt
     ·exact .inr z
     ·exact absurd z hst
  ·rw [if_neg ia,h0]
   have us:u≠s:=fun e=>by subst e;exact ia (qI hn hi ha)
   have ut:u≠t:=fun e=>by subst e;exact ja (qI hn hj ha)
   apply decide_eq_decide.mpr
   simp only [List.mem_append,List.mem_singleton,Prod.mk.injEq]
   constructor
   ·rintro (z | z)
    ·exact .inl (.inl z)
    ·exact .inr (.inl z)
   ·rintro ((z | ⟨z,_⟩) | (z | ⟨_,z⟩))
    ·exact .inl z
    ·exact absurd z us
    ·exact .inr z
    ·exact absurd z ut
def qdx (ns:List Nat):List V:=ns.map fun (n:Nat)=>.int (n:Int)
theorem qaN {ns:List Nat} {i:Nat} (h:i < ns.length):(qdx ns)[i]?=some (.int (ns.getD i 0:Nat)):=by
 unfold qdx
 rw [List.getElem?_map,List.getElem?_eq_getElem h]
 simp [List.getD,h]
theorem qdy (ns:List Nat) (i m:Nat):(qdx ns).set i (.int m)=qdx (ns.set i m):=by
 unfold qdx
 rw [List.map_set]
theorem natV_zero (k:Nat):(List.replicate k [V.int 0]).flatten=qdx (List.replicate k 0):=by
 induction k with
 | zero=>rfl
 | succ k ih=>rw [List.replicate_succ,List.flatten_cons,ih];rfl
theorem qcV {n j:Nat} (h:j < n):ixN n (j:Int)=some j:=by
 unfold ixN
 rw [if_pos (by omega),if_pos (by omega)]
 rfl
def qfo (cc:Nat→Addr):Sp:=fun vs H Q E=>∃ (p d:Addr) (ss:List Str) (v:V) (o:Option (List V)),vs=[.ref d,v]∧H d=some (.dK (qaw ss 0))∧ss.length≤14∧ss.Nodup∧Arg p H v o∧(∀ r,qeH H ss v o=some r→Rz cc H E r) ∧
 (qeH H ss v o=none→∀ n ns H',L2.Same H H'→H n=none→H' n=some (.lst (qdx ns))→qaL ss ns ((o.getD []).filterMap (zN H ss))→Q (.ref n) H')
theorem ok_near (F:Fun K "near_of" "near_of" zI f fd) (T:Txt K mg cc cw) (D_are_two_places:DefOk P w K mg base CX0 3 "are_two_places" ["numbers", "thing"] qgm) (D_has_bit:DefOk P w K mg base CX0 1 "has_bit" ["bits", "number"] qes)
  (D_NoTie:XMakeOk P w K mg base 2 (cc 3) "NoTie" ["self", "found"] (spX (cc 3) (qaj 3))) (D_TooMany:XMakeOk P w K mg base 2 (cc 4) "TooMany" ["self", "many"] (spX (cc 4) (qaj 4))) :
  FnOk P w K mg base (CX1 P w) 4 f fd ["numbers", "ties"] (qfo cc):=by
 refine F.ok1 sc_near_of (fun vs H Q E h=>?_) fun cdv A outer s H vs Q E hr h=>?_
 ·obtain ⟨p,d,ss,v,o,rfl,_⟩:=h;rfl
 ·obtain ⟨p,d,ss,v,o,rfl,hd,hs14,hnd,ha,hz,q⟩:=h
  have hu:=zH hr
  refine ⟨_,(qf (qN (jC (jj (qm (qbh (K:=K) rfl) rfl T.b_isinstance boot_isinstance (qa (pv 1) (qa (zQ (qa (jN (v:=.ty "list") rfl T.b_list boot_list rfl) (qa (jN (v:=.ty "tuple") rfl T.b_tuple boot_tuple rfl) qc))) qc))))) (qe (jq (K:=K) rfl qH (qai D_NoTie (hm hr) (qa (pv 1) qc)))) qo)
 (qf (qN (qp qdK (qm (jW (K:=K) rfl) rfl T.b_len boot_len (qa (pv 1) qc)) (qa4 rfl T.g_MOST_TIES) (qx _)) (qe (jq (K:=K) rfl qH (qai D_TooMany (hm hr) (qa (qm (jW (K:=K) rfl) rfl T.b_len boot_len (qa (pv 1) qc)) qc)))) qo)
 (qf (qw (i:=2) sc_near_of.nd rfl (Or.inl rfl) (qu qci (qA (qa qg qc)) (qm (jW (K:=K) rfl) rfl T.b_len boot_len (qa (pv 0) qc))))
 (qf (j8 PassesOwn.leaving rfl (j9 (K:=K) rfl (pv 1)) (qt (i:=3) sc_near_of.nd rfl (Or.inl rfl))
 (qf (qN (jC (jj (qr D_are_two_places (hm hr) qE (qa (pv 0) (qa (pv 3) qc))))) (qe (jq (K:=K) rfl qH (qai D_NoTie (hm hr) (qa (pv 3) qc)))) qo)
 (qf (qw (i:=4) sc_near_of.nd rfl (Or.inl rfl) (qO (qP (K:=K) rfl hu) (pv 0) (qO (qP (K:=K) rfl hu) (pv 3) qg (fun _ _=>rfl)) (fun _ _=>rfl)))
 (qf (qw (i:=5) sc_near_of.nd rfl (Or.inl rfl) (qO (qP (K:=K) rfl hu) (pv 0) (qO (qP (K:=K) rfl hu) (pv 3) qg (fun _ _=>rfl)) (fun _ _=>rfl)))
 (qf (qN (jj (qr D_has_bit (hm hr) qE (qa (qO (qP (K:=K) rfl hu) (pv 2) (pv 4) (fun _ _=>rfl)) (qa (pv 5) qc)))) (qe (jq (K:=K) rfl qH (qai D_NoTie (hm hr) (qa (pv 3) qc)))) qo)
 (qf (qb0 (qu qf2 (qO (qP (K:=K) rfl hu) (pv 2) (pv 4) (fun _ _=>rfl)) (qu qeX qg (pv 5))) (qdZ (pv 2) (pv 4) (qel hu)))
 (qe (qb0 (qu qf2 (qO (qP (K:=K) rfl hu) (pv 2) (pv 5) (fun _ _=>rfl)) (qu qeX qg (pv 4))) (qdZ (pv 2) (pv 5) (qel hu))))))))))
 (qe (qh (pv 2))))))),?_⟩
  walk_at "v"
  refine ⟨by show 2≤sizeLine;decide,fun g hg=>?_⟩
  have s0:=qK (Sr H) (o:=.tup [.ty "list",.ty "tuple"]) hg
  walk_at "v"
  refine (ha.same s0).isi qb ?_
  walk_at "v"
  cases o with
  | none =>
   refine qY (fun _=>?_) (fun h=>absurd rfl h)
   walk_at "v"
   exact qG (T.xat 3 (by decide)) ((hz (3,v) rfl).later s0)
  | some xs =>
   refine qY (fun h=>by cases h) fun _=>?_
   obtain ⟨few,hth⟩:=ha.few
   walk_at "v"
   refine (ha.same s0).len ?_
   walk_at "v"
   refine qY (fun h=>?_) fun h=>?_
   ·walk_at "v"
    refine (ha.same s0).len ?_
    walk_at "v"
    have h':30 < xs.length:=by have:=of_decide_eq_true h;omega
    exact qG (T.xat 4 (by decide)) ((hz (4,.int xs.length) (by show (if 30 < xs.length then _ else _)=_;rw [if_pos h'])).later s0)
   ·have h':¬ 30 < xs.length:=fun z=>h (decide_eq_true (by omega))
    have ho:qeH H ss v (some xs)=(goT H ss xs []).map fun y=>(3,y):=by show (if 30 < xs.length then _ else _)=_;rw [if_neg h']
    rw [ho] at hz q
    walk_at "v"
    refine ⟨by show 1≤sizeLine;decide,fun z hzz=>?_⟩
    have s1:=qK s0 (o:=.lst [.int 0]) hzz
    walk_at "v"
    refine .inr ⟨_,s1 _ _ hd,?_⟩
    walk_at "v"
    rw [zM]
    refine ⟨z,_,_,rfl,rfl,qb,by omega,by omega,by show 1 * _≤sizeLine;rw [Int.toNat_natCast];exact Nat.le_of_lt (qq (by omega)),fun n hn=>?_⟩
    rw [Int.toNat_natCast,natV_zero]
    have s2:=qK s1 (o:=.lst (qdx (List.replicate ss.length 0))) hn
    have n0:H n=none:=s1.free hn
    walk_at "v"
    refine qet ha s2 (fun i σ H'=>∃ v3 v4 v5 ns,σ=[some (.ref d),some v,some (.ref n),v3,v4,v5]∧L2.Same H H'∧H' n=some (.lst (qdx ns))∧qaL ss ns ((xs.take i).filterMap (zN H ss))∧goT H ss xs []=goT H ss (xs.drop i) ((xs.take i).filterMap (zN H ss)))
     ⟨none,none,none,_,rfl,s2,qb,bits_zero,rfl⟩ (fun i σ H' hp=>by obtain ⟨_,_,_,_,_,z,_⟩:=hp;exact z) (fun i x σ H' hx hp=>?_) fun σ H' hp=>?_
    ·obtain ⟨v3,v4,v5,ns,rfl,s3,hnn,hbits,hgo⟩:=hp
     have hil:i < xs.length:=(List.getElem?_eq_some_iff.mp hx).1
     have hdr:xs.drop i=x::xs.drop (i + 1):=by
      rw [List.drop_eq_getElem_cons hil]
      have:=(List.getElem?_eq_some_iff.mp hx).2
      rw [this]
     have htk:xs.take (i + 1)=xs.take i++[x]:=by rw [List.take_add_one,hx];rfl
     have hxt:=hth x (List.mem_of_getElem? hx)
     rw [hdr] at hgo
     walk_at "v"
     refine ⟨p,2,d,ss,x,rfl,s3 _ _ hd,hxt.same s3,fun H1 t1=>?_⟩
     rw [tieV_same hxt s3]
     have s4:=s3.trans t1
     have hn1:=t1 _ _ hnn
     walk_at "v"
     cases ht:zN H ss x with
     | none =>
      refine qY (fun _=>?_) (fun h=>absurd rfl h)
      walk_at "v"
      rw [qeu ht] at hgo
      exact qG (T.xat 3 (by decide)) ((hz (3,x) (by rw [hgo];rfl)).later s4)
     | some st =>
      refine qY (fun h=>by cases h) fun _=>?_
      obtain ⟨a,rfl,ea,n1,n2,l1,l2,m1,m2,hne⟩:=tieV_some ht
      rw [qdw ht] at hgo
      obtain ⟨sx,sy⟩:=st
      dsimp only at ea n1 n2 l1 l2 m1 m2 hne hgo
      obtain ⟨ja,hja,gja,vja⟩:=zb (i:=0) m1
      obtain ⟨jb,hjb,gjb,vjb⟩:=zb (i:=0) m2
      rw [Nat.zero_add] at vja vjb
      have nab:ja≠jb:=fun e=>by rw [e,gjb] at gja;cases gja;exact hne rfl
      have lna:ja < ns.length:=by rw [hbits.1];exact hja
      have lnb:jb < ns.length:=by rw [hbits.1];exact hjb
      walk_at "v"
      refine .inl (qfJ (s4 _ _ ea) rfl ?_)
      refine .inr ⟨d,.int ja,rfl,?_,?_⟩
      ·have:=DGet.k (k:=Sum.inr sx) (s4 _ _ hd)
       rw [vja] at this
       exact this
      walk_at "v"
      refine .inl (qfJ (s4 _ _ ea) rfl ?_)
      refine .inr ⟨d,.int jb,rfl,?_,?_⟩
      ·have:=DGet.k (k:=Sum.inr sy) (s4 _ _ hd)
       rw [vjb] at this
       exact this
      walk_at "v"
      refine .inl (zT hn1 (qJ (qaN lna)) ?_)
      walk_at "v"
      refine ⟨_,_,rfl,by omega,?_⟩
      rw [qcU,hbits.2.2 ja jb sx sy gja gjb]
      walk_at "v"
      refine qY (fun hm=>?_) fun hm=>?_
      ·walk_at "v"
       rw [if_pos (of_decide_eq_true hm)] at hgo
       exact qG (T.xat 3 (by decide)) ((hz (3,.ref a) (by rw [hgo];rfl)).later s4)
      ·rw [if_neg (fun e=>hm (decide_eq_true e))] at hgo
       walk_at "v"
       refine .inl (zT hn1 (qJ (qaN lna)) ?_)
       walk_at "v"
       refine vI ⟨by omega,by omega,by decide⟩ ?_
       walk_at "v"
       rw [qfm]
       refine .inl (qga hn1 (qcV (by unfold qdx;rw [List.length_map];exact lna)) ?_)
       rw [qdy]
       walk_at "v"
       have e2:(ns.set ja (ns.getD ja 0 ||| 2 ^ jb)).getD jb 0=ns.getD jb 0:=by rw [qaM lna,if_neg nab]
       refine .inl (zT qb (qJ (qaN (by simpa using lnb))) ?_)
       walk_at "v"
       refine vI ⟨by omega,by omega,by decide⟩ ?_
       walk_at "v"
       rw [qfm,e2]
       refine .inl (qga qb (qcV (by unfold qdx;rw [List.length_map];simpa using lnb)) ?_)
       rw [qdy]
       have hfm:(xs.take (i + 1)).filterMap (zN H ss)=(xs.take i).filterMap (zN H ss)++[(sx,sy)]:=by
        rw [htk,List.filterMap_append]
        simp [ht]
       refine ⟨_,_,_,_,rfl,qfl (qfl s4 n0) n0,qb,?_,?_⟩
       ·rw [hfm]
        exact bits_step hbits hnd gja gjb hne
       ·rw [hfm]
        exact hgo
    ·obtain ⟨v3,v4,v5,ns,rfl,s3,hnn,hbits,hgo⟩:=hp
     rw [List.drop_length] at hgo
     walk_at "v"
     rw [List.take_length] at hbits
     exact q (by rw [hgo];rfl) n _ H' s3 n0 hnn hbits
def qfO (H:Hp) (v:V) (o:Option (List V)) (v2:V) (o2:Option (List V)):Option (Nat×V):=match qfW v o with
 | some r=>some r
 | none=>qeH H ((o.getD []).map jF) v2 o2
theorem outN_good {v:V} {o:Option (List V)} (h:qfW v o=none):∃ xs,o=some xs∧xs.length≤14∧xs=(xs.map jF).map V.str∧(∀ x∈xs,qaK x=true)∧(xs.map jF).Nodup:=by
 cases o with
 | none=>cases h
 | some xs =>
  have h':(if 14 < xs.length then some ((4:Nat),V.int xs.length) else qdR xs [])=none:=h
  split at h'
  ·cases h'
  ·obtain ⟨a,b,c,d⟩:=qcv h'
   exact ⟨xs,rfl,by omega,a,b,d⟩
theorem qdz {p x:Addr} {H H':Hp} {ss:List Str} (k:∀ b o,b≠p→H b=some o→H' b=some o):∀ (xs:List V) (seen:List (Str×Str)),(∀ x∈xs,Th p H 2 x)→goT H' ss xs seen=goT H ss xs seen
 | [],_,_=>rfl
 | y::r,seen,h=>by
  have e:=qct (ss:=ss) (h y List.mem_cons_self) k
  have hr:=fun z hz=>h z (List.mem_cons_of_mem y hz)
  cases ht:zN H ss y with
  | none=>rw [qeu (e.trans ht),qeu ht]
  | some t=>rw [qdw (e.trans ht),qdw ht,qdz (x:=x) k r _ hr]
theorem qcw {p:Addr} {H H':Hp} {ss:List Str} {v:V} {o:Option (List V)} (h:Arg p H v o) (k:∀ b o,b≠p→H b=some o→H' b=some o):qeH H' ss v o=qeH H ss v o:=by
 cases o with
 | none=>rfl
 | some xs =>
  show (if _ then _ else (goT H' ss xs []).map _)=if _ then _ else (goT H ss xs []).map _
  rw [qdz (x:=p) k xs [] h.few.2]
structure WOk (ss:List Str) (ns:List Nat):Prop where
 len:ns.length=ss.length
 few:ss.length≤14
 nd:ss.Nodup
 lt:∀ a,ns.getD a 0 < 2 ^ ss.length
 nm:∀ s∈ss,jT s=true
def WebAt (cw:Addr) (H:Hp) (x:Addr) (ss:List Str) (ns:List Nat):Prop:=∃ dx d ol n,H x=some (.ins cw dx (jv "near" (.ref n) (jv "order" (.ref ol) (jv "numbers" (.ref d) []))))∧H d=some (.dK (qaw ss 0))∧H ol=some (.lst (ss.map V.str))∧H n=some (.lst (qdx ns))∧WOk ss ns
theorem WebAt.same {cw x:Addr} {H H':Hp} {ss:List Str} {ns:List Nat} (h:WebAt cw H x ss ns) (s:L2.Same H H'):WebAt cw H' x ss ns:=by
 obtain ⟨dx,d,ol,n,h1,h2,h3,h4,h5⟩:=h
 exact ⟨dx,d,ol,n,s _ _ h1,s _ _ h2,s _ _ h3,s _ _ h4,h5⟩
def WebN (H0:Hp) (cw:Addr) (H:Hp) (x:Addr) (ss:List Str) (ns:List Nat):Prop:=∃ dx d ol n,H x=some (.ins cw dx (jv "near" (.ref n) (jv "order" (.ref ol) (jv "numbers" (.ref d) []))))∧H d=some (.dK (qaw ss 0))∧H ol=some (.lst (ss.map V.str))∧H n=some (.lst (qdx ns))∧WOk ss ns∧H0 d=none∧H0 ol=none∧H0 n=none
theorem WebN.web {H0:Hp} {cw x:Addr} {H:Hp} {ss:List Str} {ns:List Nat} (h:WebN H0 cw H x ss ns):WebAt cw H x ss ns:=by
 obtain ⟨dx,d,ol,n,h1,h2,h3,h4,h5,_⟩:=h
 exact ⟨dx,d,ol,n,h1,h2,h3,h4,h5⟩
def WebP (A:Addr→Prop) (cw:Addr) (H:Hp) (x:Addr) (ss:List Str) (ns:List Nat):Prop:=∃ dx d ol n,H x=some (.ins cw dx (jv "near" (.ref n) (jv "order" (.ref ol) (jv "numbers" (.ref d) []))))∧H d=some (.dK (qaw ss 0))∧H ol=some (.lst (ss.map V.str))∧H n=some (.lst (qdx ns))∧WOk ss ns∧¬ A x∧¬ A d∧¬ A ol∧¬ A n
theorem qcx:∀ (ss:List Str) (i:Nat),(qaw ss i).map (fun kv=>kV kv.1)=ss.map V.str
 | [],_=>rfl
 | s::r,i=>congrArg (V.str s::·) (qcx r (i + 1))
def qeO (cc:Nat→Addr) (cw:Addr):Sp:=fun vs H Q E=>∃ (p x dx:Addr) (v:V) (o:Option (List V)) (v2:V) (o2:Option (List V)),vs=[.ref x,v,v2]∧H x=some (.ins cw dx [])∧Arg p H v o∧Arg p H v2 o2 ∧
 (∀ r,qfO H v o v2 o2=some r→∀ dy H',But x H H'→H' dy=some (.xd [(qaj r.1,r.2)])→E (.ref (cc r.1)) (some dy) H')∧(qfO H v o v2 o2=none→∀ ns H',But x H H'→WebN H cw H' x ((o.getD []).map jF) ns→qaL ((o.getD []).map jF) ns ((o2.getD []).filterMap (zN H ((o.getD []).map jF)))→Q .non H')
theorem Arg.but {p x dx C:Addr} {H H':Hp} {v:V} {o:Option (List V)} {fs:List (Str×V)} (h:Arg p H v o) (hx:H x=some (.ins C dx fs)) (b:But x H H'):Arg p H' v o∧∀ ss,qeH H' ss v o=qeH H ss v o:=by
 have hth:∀ {n:Nat} {v:V},Th p H n v→Th p (fun a=>if a=x then none else H a) n v:=by
  intro n v h
  induction h with
  | flat f l=>exact .flat f l
  | lst e ne h l ih=>exact .lst (by rw [if_neg (zo e hx (by intro z;cases z))];exact e) ne ih l
  | tup e ne h l ih=>exact .tup (by rw [if_neg (zo e hx (by intro z;cases z))];exact e) ne ih l
  | dct e ne=>exact .dct (by rw [if_neg (zo e hx (by intro z;cases z))];exact e) ne
 have h2:Arg p (fun a=>if a=x then none else H a) v o:=by
  cases h with
  | lst e ne h l=>exact .lst (by rw [if_neg (zo e hx (by intro z;cases z))];exact e) ne (fun x hx=>hth (h x hx)) l
  | tup e ne h l=>exact .tup (by rw [if_neg (zo e hx (by intro z;cases z))];exact e) ne (fun x hx=>hth (h x hx)) l
  | flat f l=>exact .flat f l
  | dct e ne=>exact .dct (by rw [if_neg (zo e hx (by intro z;cases z))];exact e) ne
 have k1:L2.Same (fun a=>if a=x then none else H a) H':=fun c u e=>by
  have e:(if c=x then none else H c)=some u:=e
  by_cases hc:c=x
  ·rw [if_pos hc] at e;cases e
  ·rw [if_neg hc] at e;exact b c u hc e
 have k2:L2.Same (fun a=>if a=x then none else H a) H:=fun c u e=>by
  have e:(if c=x then none else H c)=some u:=e
  by_cases hc:c=x
  ·rw [if_pos hc] at e;cases e
  ·rw [if_neg hc] at e;exact e
 exact ⟨h2.same k1,fun ss=>(qcw h2 fun b o _ e=>k1 b o e).trans (qcw h2 fun b o _ e=>k2 b o e).symm⟩
theorem qdA {α β:Type} {f g:α→Option β}:∀ {l:List α},(∀ x∈l,f x=g x)→l.filterMap f=l.filterMap g
 | [],_=>rfl
 | a::r,h=>by
  rw [List.filterMap_cons,List.filterMap_cons,h a List.mem_cons_self,qdA fun x hx=>h x (List.mem_cons_of_mem _ hx)]
theorem Arg.tie_but {p x dx C:Addr} {H H':Hp} {v:V} {o:Option (List V)} {fs:List (Str×V)} (h:Arg p H v o) (hx:H x=some (.ins C dx fs)) (b:But x H H') (y:V) (hy:y∈o.getD []) (ss:List Str):zN H' ss y=zN H ss y:=by
 cases o with
 | none=>cases hy
 | some xs =>
  have hth:=h.few.2 y hy
  cases hth with
  | flat f l=>cases y<;>first | rfl | cases f
  | lst e ne h l=>rw [j7 (H:=H') (fun a zs z y=>by (cases z;rw [b _ _ (zo e hx (by intro z;cases z)) e] at y;cases y)),j7 (H:=H) fun a zs z y=>by (cases z;rw [e] at y;cases y)]
  | tup e ne h l=>unfold zN;dsimp only;rw [b _ _ (zo e hx (by intro z;cases z)) e,e]
  | dct e ne=>rw [j7 (H:=H') (fun a zs z y=>by (cases z;rw [b _ _ (zo e hx (by intro z;cases z)) e] at y;cases y)),j7 (H:=H) fun a zs z y=>by (cases z;rw [e] at y;cases y)]
theorem ok_web (F:Fun K "__init__" "Web.__init__" zk f fd) (T:Txt K mg cc cw) (D_numbers_of:DefOk P w K mg base (CX1 P w) 4 "numbers_of" ["names"] (qfn cc)) (D_near_of:DefOk P w K mg base (CX1 P w) 4 "near_of" ["numbers", "ties"] (qfo cc)) :
  FnOk P w K mg base (CX1 P w) 5 f fd ["self", "names", "ties"] (qeO cc cw):=by
 refine F.ok1 sc_Web_init (fun vs H Q E h=>?_) fun cdv A outer s H vs Q E hr h=>?_
 ·obtain ⟨p,x,dx,v,o,v2,o2,rfl,_⟩:=h;rfl
 ·obtain ⟨p,x,dx,v,o,v2,o2,rfl,hx,ha,ha2,hz,q⟩:=h
  have hu:=zH hr
  refine ⟨_,(qf (jQ (K:=K) rfl (pv 0) (qar D_numbers_of (hm hr) qH (qa (pv 1) qc)) rfl)
 (qf (jQ (K:=K) rfl (pv 0) (zF (qbN (K:=K) rfl rfl) rfl T.b_list boot_list (qa (qQ (K:=K) rfl (pv 0) rfl) qc)) rfl)
 (qe (jQ (K:=K) rfl (pv 0) (qar D_near_of (hm hr) qH (qa (qQ (K:=K) rfl (pv 0) rfl) (qa (pv 2) qc))) rfl)))),?_⟩
  walk_at "v"
  refine ⟨p,v,o,rfl,ha,fun r e=>?_,fun hN d H1 s1 hd0 hd=>?_⟩
  ·intro dy H' s' hy
   exact hz r (by unfold qfO;rw [e]) dy H' ((But.refl x H).same s') hy
  ·have hW:qfO H v o v2 o2=qeH H ((o.getD []).map jF) v2 o2:=by unfold qfO;rw [hN]
   obtain ⟨xs,rfl,l14,_,allN,nd⟩:=outN_good hN
   rw [hW] at hz q
   have b1:=(But.refl x H).same s1
   have hx1:=s1 _ _ hx
   have ndx:d≠x:=zo hd hx1 (by intro z;cases z)
   walk_at "v"
   refine .inl ⟨x,cw,dx,[],rfl,hx1,T.wcl,T.wn,by decide,?_⟩
   have b2:=b1.put (o:=.ins cw dx (jv "numbers" (.ref d) []))
   have hd2:upd H1 x (.ins cw dx (jv "numbers" (.ref d) [])) d=some (.dK (qaw (((some xs).getD []).map jF) 0)):=by rw [qk ndx];exact hd
   walk_at "v"
   refine .inl ⟨x,cw,dx,_,.ref d,rfl,qb,T.wcl,T.wn,by rw [qv,if_pos rfl],?_⟩
   walk_at "v"
   refine .inr (.inl ⟨d,_,rfl,hd2,fun ol ho=>?_⟩)
   have no:ol≠x:=fun e=>by subst e;rw [qb] at ho;cases ho
   have b3:=b2.new (o:=.lst ((qaw (((some xs).getD []).map jF) 0).map fun kv=>kV kv.1)) ho
   have nol:ol≠d:=fun e=>by rw [e,hd2] at ho;cases ho
   walk_at "v"
   refine .inl ⟨x,cw,dx,_,rfl,(by rw [qk no.symm];exact qb),T.wcl,T.wo,Nat.lt_of_le_of_lt (jU _ _ _) (by decide),?_⟩
   have hd3:upd (upd (upd H1 x (.ins cw dx (jv "numbers" (.ref d) []))) ol (.lst ((qaw (((some xs).getD []).map jF) 0).map fun kv=>kV kv.1))) x (.ins cw dx (jv "order" (.ref ol) (jv "numbers" (.ref d) []))) d=some (.dK (qaw (((some xs).getD []).map jF) 0)):=by
    rw [qk ndx,qk (qy hd2 ho)];exact hd2
   have b4:=b3.put (o:=.ins cw dx (jv "order" (.ref ol) (jv "numbers" (.ref d) [])))
   walk_at "v"
   refine .inl ⟨x,cw,dx,_,.ref d,rfl,qb,T.wcl,T.wn,by rw [qv,if_neg (by decide +kernel),qv,if_pos rfl],?_⟩
   walk_at "v"
   obtain ⟨ha3,ho3⟩:=ha2.but hx b4
   refine ⟨p,d,_,v2,o2,rfl,hd3,by rw [List.length_map];exact l14,nd,ha3,fun r e=>?_,fun e n ns H2 s2 hn0 hn hbits=>?_⟩
   ·intro dy H' s' hy
    rw [ho3] at e
    exact hz r e dy H' (b4.same s') hy
   ·rw [ho3] at e
    have b5:=b4.same s2
    walk_at "v"
    refine .inl ⟨x,cw,dx,_,rfl,s2 _ _ qb,T.wcl,T.wr,Nat.lt_of_le_of_lt (jU _ _ _) (Nat.lt_of_le_of_lt (Nat.succ_le_succ (jU _ _ _)) (by decide)),?_⟩
    have hx2:=s2 _ _ (qb:upd (upd (upd H1 x (.ins cw dx (jv "numbers" (.ref d) []))) ol (.lst ((qaw (((some xs).getD []).map jF) 0).map fun kv=>kV kv.1))) x (.ins cw dx (jv "order" (.ref ol) (jv "numbers" (.ref d) []))) x=_)
    have nnx:n≠x:=zo hn hx2 (by intro z;cases z)
    have hd4:=s2 _ _ hd3
    have ho4:H2 ol=some (.lst ((qaw (((some xs).getD []).map jF) 0).map fun kv=>kV kv.1)):=s2 _ _ (by rw [qk no];exact qb)
    have eT:(((some xs).getD []).map jF)=(((some xs).getD []).map jF):=rfl
    have ebt:∀ y∈(o2.getD []),zN H (((some xs).getD []).map jF) y=zN (upd (upd (upd H1 x (.ins cw dx (jv "numbers" (.ref d) []))) ol (.lst ((qaw (((some xs).getD []).map jF) 0).map fun kv=>kV kv.1))) x (.ins cw dx (jv "order" (.ref ol) (jv "numbers" (.ref d) [])))) (((some xs).getD []).map jF) y:=fun y hy=>?tie
    have hol0:H ol=none:=by
     cases q':H ol with
     | none=>rfl
     | some o'=>rw [b2 ol o' no q'] at ho;cases ho
    have hn00:H n=none:=by
     cases q':H n with
     | none=>rfl
     | some o'=>rw [b4 n o' nnx q'] at hn0;cases hn0
    refine q e ns _ b5.put ⟨dx,d,ol,n,qb,by rw [qk ndx];exact hd4,by rw [qk no,ho4,qcx],by rw [qk nnx];exact hn,⟨hbits.1,by show (xs.map jF).length≤14;rw [List.length_map];exact l14,nd,hbits.2.1,fun s hs=>by obtain ⟨y,hy,rfl⟩:=List.mem_map.mp hs;exact (jE (allN y hy)).2.1⟩,hd0,hol0,hn00⟩ ?_
    ·have:(o2.getD []).filterMap (zN H (((some xs).getD []).map jF))=(o2.getD []).filterMap (zN (upd (upd (upd H1 x (.ins cw dx (jv "numbers" (.ref d) []))) ol (.lst ((qaw (((some xs).getD []).map jF) 0).map fun kv=>kV kv.1))) x (.ins cw dx (jv "order" (.ref ol) (jv "numbers" (.ref d) [])))) (((some xs).getD []).map jF)):=qdA ebt
     rw [this]
     exact hbits
    case tie=>exact (ha2.tie_but hx b4 y hy _).symm
theorem sc_Web_has_place:FnScope ["self", "thing"] ["self", "thing"] (qd qZ):=fS
theorem sc_Web_number_of:FnScope ["self", "place"] ["self", "place"] (qd q9):=fS
theorem sc_Web_beside:FnScope ["self", "place"] ["self", "place"] (qd js):=fS
theorem sc_Web_bits_beside:FnScope ["self", "place"] ["self", "place"] (qd qL):=fS
theorem sc_Web_names_in:FnScope ["self", "bits"] ["self", "bits"] (qd qM):=fS
theorem zl {d ol n:V}:(jv "near" n (jv "order" ol (jv "numbers" d []))).lookup ("numbers":Str)=some d:=by
 rw [qv,if_neg (by decide +kernel),qv,if_neg (by decide +kernel),qv,if_pos rfl]
theorem qdB {d ol n:V}:(jv "near" n (jv "order" ol (jv "numbers" d []))).lookup ("order":Str)=some ol:=by
 rw [qv,if_neg (by decide +kernel),qv,if_pos rfl]
theorem qev {d ol n:V}:(jv "near" n (jv "order" ol (jv "numbers" d []))).lookup ("near":Str)=some n:=by
 rw [qv,if_pos rfl]
theorem qaV {f:Str} {d ol n:V} (h:(f=="near"||f=="order"||f=="numbers")=false):(jv "near" n (jv "order" ol (jv "numbers" d []))).lookup f=none:=by
 simp only [Bool.or_eq_false_iff,beq_eq_false_iff_ne] at h
 rw [qv,if_neg h.1.1,qv,if_neg h.1.2,qv,if_neg h.2]
 rfl
theorem place_ix {ss:List Str} {v:V} (h:jm ss v=true):v=.str (jF v)∧∃ j,j < ss.length∧ss[j]?=some (jF v)∧qbW (qaw ss 0) (.inr (jF v):Key)=some (.int (j:Nat)):=by
 obtain ⟨n1,m1⟩:=zr h
 obtain ⟨e1,_,_⟩:=jE n1
 obtain ⟨j,hj,gj,vj⟩:=zb (i:=0) m1
 rw [Nat.zero_add] at vj
 exact ⟨e1,j,hj,gj,vj⟩
def inB:List Str→Nat→Nat→List Str
 | [],_,_=>[]
 | s::r,i,b=>if b.testBit i=true then s::inB r (i + 1) b else inB r (i + 1) b
theorem qab (y:Str) (b:Nat):∀ (l:List Str) (k:Nat),inB (l++[y]) k b=inB l k b++(if b.testBit (k + l.length)=true then [y] else [])
 | [],k=>by simp [inB]
 | s::r,k=>by
  have ih:=qab y b r (k + 1)
  have e:k + 1 + r.length=k + (s::r).length:=by simp;omega
  rw [e] at ih
  simp only [List.cons_append,inB,ih]
  split<;>simp
theorem qau (b:Nat):∀ (l:List Str) (k:Nat),(inB l k b).length≤l.length
 | [],_=>Nat.le_refl _
 | s::r,k=>by
  have ih:=qau b r (k + 1)
  simp only [inB]
  split
  ·simp;omega
  ·simp;omega
def qew (cw:Addr):Sp:=fun vs H Q _=>∃ (p:Addr) (k:Nat) (x:Addr) (ss:List Str) (ns:List Nat) (v:V),vs=[.ref x,v]∧WebAt cw H x ss ns∧Th p H k v∧∀ H',L2.Same H H'→Q (.bl (jm ss v)) H'
def qgo (cc:Nat→Addr) (cw:Addr):Sp:=fun vs H Q E=>∃ (p:Addr) (k:Nat) (x:Addr) (ss:List Str) (ns:List Nat) (v:V),vs=[.ref x,v]∧WebAt cw H x ss ns∧Th p H k v∧(jm ss v=false→Rz cc H E (2,v)) ∧
 ∀ j,ss[j]?=some (jF v)→jm ss v=true→∀ H',L2.Same H H'→Q (.int (j:Nat)) H'
def qhp (cc:Nat→Addr) (cw:Addr):Sp:=fun vs H Q E=>∃ (p:Addr) (k:Nat) (x:Addr) (ss:List Str) (ns:List Nat) (v:V),vs=[.ref x,v]∧WebAt cw H x ss ns∧Th p H k v∧(jm ss v=false→Rz cc H E (2,v)) ∧
 ∀ j,ss[j]?=some (jF v)→jm ss v=true→∀ H',L2.Same H H'→Q (.int (ns.getD j 0:Nat)) H'
def qeP (cw:Addr):Sp:=fun vs H Q _=>∃ (x:Addr) (ss:List Str) (ns:List Nat) (b:Nat),vs=[.ref x,.int b]∧WebAt cw H x ss ns∧∀ l,H l=none→Q (.ref l) (upd H l (.lst ((inB ss 0 b).map V.str)))
def qhq (cc:Nat→Addr) (cw:Addr):Sp:=fun vs H Q E=>∃ (p:Addr) (k:Nat) (x:Addr) (ss:List Str) (ns:List Nat) (v:V),vs=[.ref x,v]∧WebAt cw H x ss ns∧Th p H k v∧(jm ss v=false→Rz cc H E (2,v)) ∧
 ∀ j,ss[j]?=some (jF v)→jm ss v=true→∀ H',L2.Same H H'→∀ l,H' l=none→Q (.ref l) (upd H' l (.lst ((inB ss 0 (ns.getD j 0)).map V.str)))
theorem ok_has (F:Fun K "has_place" "Web.has_place" qZ f fd) (T:Txt K mg cc cw) (D_is_place:DefOk P w K mg base CX0 2 "is_place" ["numbers", "thing"] qcT):FnOk P w K mg base CX0 3 f fd ["self", "thing"] (qew cw):=by
 refine F.ok sc_Web_has_place (fun vs H Q E h=>?_) fun cdv A outer s H vs Q E hr h=>?_
 ·obtain ⟨p,k,x,ss,ns,v,rfl,_⟩:=h;rfl
 ·obtain ⟨p,k,x,ss,ns,v,rfl,⟨dx,d,ol,n,hx,hd,ho,hn,hw⟩,hv,q⟩:=h
  refine ⟨_,(qe (qh (qr D_is_place (hm hr) qE (qa (qQ (K:=K) rfl (pv 0) rfl) (qa (pv 1) qc))))),?_⟩
  walk_at "v"
  refine .inl ⟨x,cw,dx,_,.ref d,rfl,hx,T.wcl,T.wn,zl,?_⟩
  walk_at "v"
  exact ⟨p,k,d,ss,v,rfl,hd,hv,q⟩
theorem ok_num (F:Fun K "number_of" "Web.number_of" q9 f fd) (T:Txt K mg cc cw) (D_Web_has_place:MethOk P w K mg base CX0 3 cw "has_place" ["self", "thing"] (qew cw))
  (D_NoPlace:XMakeOk P w K mg base 2 (cc 2) "NoPlace" ["self", "found"] (spX (cc 2) (qaj 2))):FnOk P w K mg base (CX1 P w) 4 f fd ["self", "place"] (qgo cc cw):=by
 refine F.ok1 sc_Web_number_of (fun vs H Q E h=>?_) fun cdv A outer s H vs Q E hr h=>?_
 ·obtain ⟨p,k,x,ss,ns,v,rfl,_⟩:=h;rfl
 ·obtain ⟨p,k,x,ss,ns,v,rfl,hW,hv,hz,q⟩:=h
  have hu:=zH hr
  obtain ⟨dx,d,ol,n,hx,hd,ho,hn,hw⟩:=id hW
  refine ⟨_,(qf (qN (jC (jj (j6 D_Web_has_place (hm hr) (pv 0) (qa (pv 1) qc)))) (qe (jq (K:=K) rfl qH (qai D_NoPlace (hm hr) (qa (pv 1) qc)))) qo)
 (qe (qh (qO (qP (K:=K) rfl hu) (qQ (K:=K) rfl (pv 0) rfl) (pv 1) (fun _ _=>rfl))))),?_⟩
  walk_at "v"
  refine ⟨x,dx,_,rfl,hx,qaV (by decide +kernel),?_⟩
  walk_at "v"
  refine ⟨p,k,x,ss,ns,v,rfl,hW,hv,fun H1 s1=>?_⟩
  walk_at "v"
  refine qY (fun h=>?_) fun h=>?_
  ·walk_at "v"
   exact qG (T.xat 2 (by decide)) ((hz (by simpa using h)).later s1)
  ·have hp:jm ss v=true:=by simpa using h
   obtain ⟨ev,j,hj,gj,vj⟩:=place_ix hp
   walk_at "v"
   refine .inl ⟨x,cw,dx,_,.ref d,rfl,s1 _ _ hx,T.wcl,T.wn,zl,?_⟩
   walk_at "v"
   refine .inr ⟨d,.int j,rfl,?_,q j gj hp H1 s1⟩
   have:=DGet.k (k:=Sum.inr (jF v)) (s1 _ _ hd)
   rw [vj] at this
   rw [ev]
   exact this
theorem ok_bb (F:Fun K "bits_beside" "Web.bits_beside" qL f fd) (T:Txt K mg cc cw) (D_Web_number_of:MethOk P w K mg base (CX1 P w) 4 cw "number_of" ["self", "place"] (qgo cc cw)):FnOk P w K mg base (CX1 P w) 5 f fd ["self", "place"] (qhp cc cw):=by
 refine F.ok1 sc_Web_bits_beside (fun vs H Q E h=>?_) fun cdv A outer s H vs Q E hr h=>?_
 ·obtain ⟨p,k,x,ss,ns,v,rfl,_⟩:=h;rfl
 ·obtain ⟨p,k,x,ss,ns,v,rfl,hW,hv,hz,q⟩:=h
  have hu:=zH hr
  obtain ⟨dx,d,ol,n,hx,hd,ho,hn,hw⟩:=id hW
  refine ⟨_,(qe (qh (qO (qP (K:=K) rfl hu) (qQ (K:=K) rfl (pv 0) rfl) (qaa D_Web_number_of (hm hr) qH (pv 0) (qa (pv 1) qc)) (fun _ _=>rfl)))),?_⟩
  walk_at "v"
  refine .inl ⟨x,cw,dx,_,.ref n,rfl,hx,T.wcl,T.wr,qev,?_⟩
  walk_at "v"
  refine ⟨x,dx,_,rfl,hx,qaV (by decide +kernel),?_⟩
  walk_at "v"
  refine ⟨p,k,x,ss,ns,v,rfl,hW,hv,hz,fun j gj hp H1 s1=>?_⟩
  exact .inl (zT (s1 _ _ hn) (qJ (qaN (by rw [hw.len];exact (List.getElem?_eq_some_iff.mp gj).1))) (q j gj hp H1 s1))
theorem ok_nin (F:Fun K "names_in" "Web.names_in" qM f fd) (T:Txt K mg cc cw) (D_has_bit:DefOk P w K mg base CX0 1 "has_bit" ["bits", "number"] qes):FnOk P w K mg base CX0 2 f fd ["self", "bits"] (qeP cw):=by
 refine F.ok sc_Web_names_in (fun vs H Q E h=>?_) fun cdv A outer s H vs Q E hr h=>?_
 ·obtain ⟨x,ss,ns,b,rfl,_⟩:=h;rfl
 ·obtain ⟨x,ss,ns,b,rfl,⟨dx,d,ol,n,hx,hd,ho,hn,hw⟩,q⟩:=h
  have hu:=zH hr
  refine ⟨_,(qe (qh (qap (sc:=qd qM) (XN:=["self", "bits"]) ["name", "bits", "self"] 1 [1,0] rfl rfl rfl (by decide +kernel) rfl (by decide +kernel)
  (j9 (K:=K) rfl (qQ (K:=K) rfl (pv 0) rfl)) (fun _ _ _ _=>(qt (i:=0) (show (["name", "bits", "self"]:List Str).Nodup by decide +kernel) rfl (Or.inl rfl))) zC
  (fun _ _ _ _=>(qaF (jj (qr D_has_bit (hm hr) qE (qa (pv 1) (qa (qO (qP (K:=K) rfl hu) (qQ (K:=K) rfl (pv 2) rfl) (pv 0) (fun _ _=>rfl)) qc))))))
  (fun _ _ _ _=>(pv 0))))),?_⟩
  walk_at "v"
  refine .inl ⟨x,cw,dx,_,.ref ol,rfl,hx,T.wcl,T.wo,qdB,?_⟩
  refine .inl ⟨⟨_,SqL.of ho⟩,zG (K:=K) (fun i ys H'=>H'=H∧ys=(inB (ss.take i) 0 b).map V.str) ⟨rfl,by simp [inB]⟩ (fun i ys H' _ hp=>by rw [hp.1];exact SqL.of ho) (fun i y ys H' hy hp=>?_) fun ys H' hp=>?_⟩
  ·obtain ⟨rfl,rfl⟩:=hp
   have hi:i < ss.length:=by simpa using (List.getElem?_eq_some_iff.mp hy).1
   have gi:ss[i]?=some ss[i]:=List.getElem?_eq_getElem hi
   generalize ss[i]=sy at gi
   have ey:y=.str sy:=by rw [List.getElem?_map,gi] at hy;cases hy;rfl
   subst ey
   obtain ⟨j,hj,gj,vj⟩:=zb (i:=0) (List.mem_of_getElem? gi)
   rw [Nat.zero_add] at vj
   have hji:j=i:=qI hw.nd gj gi
   subst hji
   have htk:ss.take (j + 1)=ss.take j++[sy]:=by rw [List.take_add_one,gi];rfl
   have hln:(ss.take j).length=j:=by rw [List.length_take];omega
   walk_at "v"
   refine .inl ⟨x,cw,dx,_,.ref d,rfl,hx,T.wcl,T.wn,zl,?_⟩
   walk_at "v"
   refine .inr ⟨d,.int j,rfl,?_,?_⟩
   ·have:=DGet.k (k:=Sum.inr sy) hd
    rw [vj] at this
    exact this
   walk_at "v"
   refine ⟨_,_,rfl,by omega,?_⟩
   rw [qcU]
   walk_at "v"
   have few:((inB (ss.take j) 0 b).map V.str).length < sizeLine:=by
    rw [List.length_map]
    exact qq (Nat.le_trans (qau _ _ _) (by rw [hln];have:=hw.few;omega))
   refine qY (fun hb=>?_) fun hb=>?_
   ·walk_at "v"
    refine ⟨few,rfl,?_⟩
    rw [htk,qab,hln,Nat.zero_add,if_pos hb]
    simp
   ·refine ⟨rfl,?_⟩
    rw [htk,qab,hln,Nat.zero_add,if_neg hb]
    simp
  ·obtain ⟨rfl,rfl⟩:=hp
   have etk:ss.take (ss.map V.str).length=ss:=by rw [List.length_map,List.take_length]
   rw [etk]
   refine ⟨?_,fun l hl=>q l hl⟩
   rw [List.length_map]
   exact Nat.le_of_lt (qq (Nat.le_trans (qau _ _ _) (by have:=hw.few;omega)))
theorem ok_bs (F:Fun K "beside" "Web.beside" js f fd) (T:Txt K mg cc cw) (D_Web_bits_beside:MethOk P w K mg base (CX1 P w) 5 cw "bits_beside" ["self", "place"] (qhp cc cw)) (D_Web_names_in:MethOk P w K mg base CX0 2 cw "names_in" ["self", "bits"] (qeP cw)):FnOk P w K mg base (CX1 P w) 6 f fd ["self", "place"] (qhq cc cw):=by
 refine F.ok1 sc_Web_beside (fun vs H Q E h=>?_) fun cdv A outer s H vs Q E hr h=>?_
 ·obtain ⟨p,k,x,ss,ns,v,rfl,_⟩:=h;rfl
 ·obtain ⟨p,k,x,ss,ns,v,rfl,hW,hv,hz,q⟩:=h
  obtain ⟨dx,d,ol,n,hx,hd,ho,hn,hw⟩:=id hW
  refine ⟨_,(qe (qh (j6 D_Web_names_in (hm hr) (pv 0) (qa (qaa D_Web_bits_beside (hm hr) qH (pv 0) (qa (pv 1) qc)) qc)))),?_⟩
  walk_at "v"
  refine ⟨x,dx,_,rfl,hx,qaV (by decide +kernel),?_⟩
  walk_at "v"
  refine ⟨x,dx,_,rfl,hx,qaV (by decide +kernel),?_⟩
  walk_at "v"
  refine ⟨p,k,x,ss,ns,v,rfl,hW,hv,hz,fun j gj hp H1 s1=>?_⟩
  walk_at "v"
  exact ⟨x,ss,ns,_,rfl,hW.same s1,q j gj hp H1 s1⟩
inductive Rch (ns:List Nat) (i:Nat):Nat→Prop
 | base:Rch ns i i
 | step {a b:Nat} (h:Rch ns i a) (t:(ns.getD a 0).testBit b=true):Rch ns i b
structure All2 {α β:Type} (R:α→β→Prop) (l:List α) (m:List β):Prop where
 len:l.length=m.length
 at_:∀ (k:Nat) a b,l[k]?=some a→m[k]?=some b→R a b
theorem All2.nil {α β:Type} {R:α→β→Prop}:All2 R [] []:=⟨rfl,fun k a b h=>by simp at h⟩
theorem All2.mono {α β:Type} {R S:α→β→Prop} {l:List α} {m:List β} (h:All2 R l m) (f:∀ a b,R a b→S a b):All2 S l m:=⟨h.len,fun k a b x y=>f a b (h.at_ k a b x y)⟩
theorem All2.snoc {α β:Type} {R:α→β→Prop} {l:List α} {m:List β} {x:α} {y:β} (h:All2 R l m) (r:R x y):All2 R (l++[x]) (m++[y]):=by
 refine ⟨by rw [List.length_append,List.length_append,h.len];rfl,fun k a b ha hb=>?_⟩
 by_cases hk:k < l.length
 ·rw [List.getElem?_append_left hk] at ha
  rw [List.getElem?_append_left (by rw [← h.len];exact hk)] at hb
  exact h.at_ k a b ha hb
 ·rw [List.getElem?_append_right (by omega)] at ha
  rw [List.getElem?_append_right (by rw [← h.len];omega)] at hb
  have h0:k - l.length=0:=by
   have:=(List.getElem?_eq_some_iff.mp ha).1
   simp at this
   omega
  rw [← h.len] at hb
  rw [h0] at ha hb
  cases ha
  cases hb
  exact r
theorem All2.mem {α β:Type} {R:α→β→Prop} {l:List α} {m:List β} (h:All2 R l m) {x:α} (hx:x∈l):∃ y∈m,R x y:=by
 obtain ⟨k,hk,e⟩:=List.getElem_of_mem hx
 have hk':k < m.length:=by rw [← h.len];exact hk
 exact ⟨m[k],List.getElem_mem hk',h.at_ k x m[k] (by rw [List.getElem?_eq_getElem hk,e]) (List.getElem?_eq_getElem hk')⟩
open Classical in
theorem idx_at {ss:List Str} (hn:ss.Nodup) {i:Nat} {s:Str} (h:ss[i]?=some s):ss.idxOf s=i:=by
 have hm:s∈ss:=List.mem_of_getElem? h
 have hl:ss.idxOf s < ss.length:=List.idxOf_lt_length_of_mem hm
 exact qI hn (by rw [List.getElem?_eq_getElem hl,List.getElem_idxOf]) h
theorem qbB {ss:List Str} (hn:ss.Nodup) (b:Nat):inB ss 0 b=ss.filter fun s=>b.testBit (ss.idxOf s):=by
 have key:∀ k,k≤ss.length→inB (ss.take k) 0 b=(ss.take k).filter fun s=>b.testBit (ss.idxOf s):=fun k=>by
  induction k with
  | zero=>intro _;simp [inB]
  | succ k ih =>
   intro hk
   have gk:ss[k]?=some ss[k]:=List.getElem?_eq_getElem (by omega)
   generalize ss[k]=sk at gk
   have htk:ss.take (k + 1)=ss.take k++[sk]:=by rw [List.take_add_one,gk];rfl
   have hln:(ss.take k).length=k:=by rw [List.length_take];omega
   rw [htk,qab,List.filter_append,ih (by omega),hln,Nat.zero_add]
   congr 1
   rw [List.filter_cons,List.filter_nil,idx_at hn gk]
 have:=key ss.length (Nat.le_refl _)
 rwa [List.take_length] at this
theorem qac {ss:List Str} {s:Str} (hs:s∈ss) (hn:jT s=true):jm ss (.str s)=true:=by
 unfold jm
 rw [if_pos (show qaK (.str s)=true from hn)]
 exact decide_eq_true hs
theorem jg {s:Str} (h:jT s=true):s.length≤6:=(jE (x:=.str s) h).2.2
def qgp (ss:List Str) (ns:List Nat) (i:Nat):List (Str×Str):=((inB ss 0 (ns.getD i 0)).filter fun o=>decide (i < ss.idxOf o)).map fun o=>(ss.getD i "",o)
def qex (ss:List Str) (ns:List Nat) (i:Nat):List (Str×Str):=(List.range i).flatMap (qgp ss ns)
def PrAt (H H':Hp) (l:Addr) (t:Addr) (ab:Str×Str):Prop:=H t=none∧t≠l∧H' t=some (.tup [.str ab.1,.str ab.2])
def Box (H:Hp) (p:Addr):Prop:=∃ a b c:Int,H p=some (.lst [.int a,.int b,.int c])
def BB (p:Addr) (H H':Hp):Prop:=(∀ b o,b≠p→H b=some o→H' b=some o)∧Box H' p
theorem Th.str {p:Addr} {H:Hp} {n:Nat} {s:Str} (h:s.length≤100000):Th p H n (.str s):=.flat rfl fun t e=>by cases e;exact h
def NewH (H H':Hp):Hp:=fun a=>match H a with | none=>H' a | some _=>none
theorem zO (c:Str) (ss:List Str):inV (.str c) (ss.map V.str)=decide (c∈ss):=by
 unfold inV
 rw [List.any_map,Bool.eq_iff_iff,List.any_eq_true,decide_eq_true_iff]
 constructor
 ·rintro ⟨y,hy,e⟩
  have:y=c:=eq_of_beq e
  rw [← this];exact hy
 ·intro h
  exact ⟨c,h,beq_self_eq_true c⟩
theorem jS (ss:List Str):(ss.map V.str).all zB=true:=by rw [List.all_map];exact List.all_eq_true.mpr fun _ _=>rfl
def signs:List Str:=("abcdefghijklmno":Str).cps.toList.map fun c=>⟨#[c]⟩
theorem slice_ix (k n:Nat):Builtin.Str.strSliceIndices none (some (k:Int)) 1 n=List.range (min k n):=by
 unfold Builtin.Str.strSliceIndices sliceRange
 simp only [show (1:Int) > 0 by decide,if_true]
 rw [if_neg (show ¬ ((k:Int) < 0) by omega)]
 have e1:max 0 (min (k:Int) n)=((min k n:Nat):Int):=by omega
 rw [e1]
 have e2:(fun (j:Nat)=>((0:Int) + 1 * (j:Int)).toNat)=id:=by funext j;show _=j;omega
 rw [e2,List.map_id]
 congr 1
 split
 ·rw [Int.ediv_one];omega
 ·omega
theorem qey (a:Array Nat):∀ m,m≤a.size→(List.range m).filterMap (a[·]?)=a.toList.take m
 | 0,_=>rfl
 | m + 1,h=>by
  rw [List.range_succ,List.filterMap_append,qey a m (by omega),List.take_add_one]
  congr 1
  have e:a[m]?=some a[m]:=Array.getElem?_eq_getElem (by omega)
  have e':a.toList[m]?=some a[m]:=by rw [Array.getElem?_toList];exact e
  rw [e',List.filterMap_cons,e]
  rfl
theorem slice_take (z:Str) (k:Nat):(Txt.slice z none (some (k:Int))).cps.toList=z.cps.toList.take k:=by
 unfold Txt.slice
 rw [slice_ix]
 have hz:z.length=z.cps.toList.length:=by simp [Str.length]
 split
 ·rename_i h
  rw [List.length_range] at h
  have:min k z.length=z.length:=by simpa using h
  rw [List.take_of_length_le (by omega)]
 ·show (List.filterMap _ _).toArray.toList=_
  rw [qey z.cps (min k z.length) (Nat.min_le_right _ _)]
  show z.cps.toList.take (min k z.length)=_
  by_cases hk:k≤z.length
  ·rw [Nat.min_eq_left hk]
  ·rw [Nat.min_eq_right (by omega),List.take_of_length_le (by omega),List.take_of_length_le (by omega)]
theorem qdC (a b:Str):(a++b).cps.toList=a.cps.toList++b.cps.toList:=by
 show (a.cps++b.cps).toList=_
 exact Array.toList_append
theorem sg_of {c:Nat} (h:97≤c) (h2:c≤122):sg c=true:=by
 have key:∀ i,i < 26→sg (97 + i)=true:=by decide +kernel
 have:=key (c - 97) (by omega)
 rwa [show 97 + (c - 97)=c by omega] at this
def Signs (p:Addr) (H:Hp) (i:Nat) (ys:List V) (H':Hp):Prop:=BB p H H'∧∃ xs:List Str,ys=xs.map V.str∧xs.length=i∧∀ x∈xs,x.length=1∧x.cps.toList.all sg=true
def L26:Str:="abcdefghijklmnopqrstuvwxyz"
theorem L26_at {i:Int} (h0:0≤i) (h1:i < 26):atI L26.cps.toList i=some (97 + i.toNat):=by
 obtain ⟨n,rfl⟩:=Int.eq_ofNat_of_zero_le h0
 have key:∀ n,n < 26→L26.cps.toList[n]?=some (97 + n):=by decide +kernel
 rw [Int.toNat_natCast]
 exact qJ (key n (by omega))
theorem nameS_of {x:Str} {l:List Nat} (e:x.cps.toList=l) (h1:1≤l.length) (h6:l.length≤6) (h:l.all sg=true):jT x=true:=by
 have hl:x.length=l.length:=by rw [← e];simp [Str.length]
 unfold jT
 rw [if_pos ⟨by omega,by omega⟩,e]
 exact h
theorem nodup_key {ss:List Str} (h:∀ (i j:Nat) (s:Str),ss[i]?=some s→ss[j]?=some s→i=j):ss.Nodup:=by
 refine List.pairwise_iff_getElem.mpr fun i j hi hj hij e=>?_
 have:=h i j ss[j] (by rw [List.getElem?_eq_getElem hi,e]) (List.getElem?_eq_getElem hj)
 omega
theorem step_inj {step sh a b:Int} (hs:step∈[(1:Int),3,5,7,9,11,15,25]) (ha:0≤a) (hb:0≤b) (ha':a < 26) (hb':b < 26) (e:(sh + step * a) % 26=(sh + step * b) % 26):a=b:=by
 simp only [List.mem_cons,List.not_mem_nil,or_false] at hs
 rcases hs with rfl | rfl | rfl | rfl | rfl | rfl | rfl | rfl<;>omega
def NL (p:Addr) (H':Hp) (l:Addr) (ss:List Str):Prop:=H' l=some (.lst (ss.map V.str))∧l≠p
structure NOk (ss:List Str):Prop where
 few:ss.length≤14
 nd:ss.Nodup
 nm:∀ s∈ss,jT s=true
def PrT (p:Addr) (H:Hp) (t:Addr) (ab:Str×Str):Prop:=t≠p∧H t=some (.tup [.str ab.1,.str ab.2])
def TL (p:Addr) (H:Hp) (l:Addr) (ts:List Addr) (tps:List (Str×Str)):Prop:=H l=some (.lst (ts.map V.ref))∧l≠p∧All2 (PrT p H) ts tps
theorem qcy {α β:Type} (f:α→β):∀ (l:List α) (k:Nat),(l.map f).eraseIdx k=(l.eraseIdx k).map f
 | [],_=>rfl
 | _::_,0=>rfl
 | a::r,k + 1=>congrArg (f a::·) (qcy f r k)
theorem All2.erase {α β:Type} {R:α→β→Prop} {l:List α} {m:List β} (h:All2 R l m) (k:Nat):All2 R (l.eraseIdx k) (m.eraseIdx k):=by
 refine ⟨by rw [List.length_eraseIdx,List.length_eraseIdx,h.len],fun j a b ha hb=>?_⟩
 rw [List.getElem?_eraseIdx] at ha hb
 split at ha
 ·rename_i hlt
  rw [if_pos hlt] at hb
  exact h.at_ j a b ha hb
 ·rename_i hlt
  rw [if_neg hlt] at hb
  exact h.at_ (j + 1) a b ha hb
theorem qbC {α:Type}:∀ (l:List α) (k:Nat) (h:k < l.length),(l[k]::l.eraseIdx k).Perm l
 | [],_,h=>absurd h (Nat.not_lt_zero _)
 | a::r,0,_=>.refl _
 | a::r,k + 1,h=>(List.Perm.swap a _ _).trans (.cons a (qbC r k (Nat.lt_of_succ_lt_succ h)))
structure TOk (ss:List Str) (tps:List (Str×Str)):Prop where
 few:tps.length≤30
 ok:∀ ab∈tps,∃ j k:Nat,j < k∧ss[j]?=some ab.1∧ss[k]?=some ab.2
 nd:tps.Nodup
def Shuf (tps ups:List (Str×Str)):Prop:=∃ qps,ups.Perm qps∧All2 (fun a b=>b=a∨b=(a.2,a.1)) tps qps
theorem eqV_self {v:V} (h:zB v=true):eqV v v=true:=by
 cases v<;>first | rfl | (simp [eqV];done) | cases h
theorem qad (n:Nat):(List.range n).all (fun _=>true)=true:=by simp
theorem pair_eqD {K:W.Frag} {H:Hp} {a b:Addr} {s t s' t':Str} (hb:H b=some (.tup [.str s',.str t'])) (ha:H a=some (.tup [.str s,.str t])):EqD K H 1 (.ref b) (.ref a) (decide ((s',t')=(s,t))):=by
 by_cases e:b=a
 ·subst e
  rw [hb] at ha
  cases ha
  rw [decide_eq_true rfl]
  exact .self
 ·have z:=EqT.tup (K:=K) (H:=H) (n:=0) (e:=fun j=>if j=0 then eqV (.str s') (.str s) else eqV (.str t') (.str t)) (SqT.of hb) (SqT.of ha) fun j x y hx hy=>by
   match j,hx,hy with
   | 0,hx,hy=>cases hx;cases hy;exact .flat rfl rfl
   | 1,hx,hy=>cases hx;cases hy;exact .flat rfl rfl
  have ev:((List.range (min [V.str s',V.str t'].length [V.str s,V.str t].length)).all (fun j=>if j=0 then eqV (.str s') (.str s) else eqV (.str t') (.str t))&&[V.str s',V.str t'].length==[V.str s,V.str t].length)=decide ((s',t')=(s,t)):=by
   show ((s'==s)&&((t'==t)&&true)&&true)=_
   rw [Bool.eq_iff_iff]
   simp
  rw [ev] at z
  exact .deep z e
def PL (H:Hp) (l:Addr) (ts:List Addr) (tps:List (Str×Str)):Prop:=H l=some (.lst (ts.map V.ref))∧All2 (fun t ab=>H t=some (.tup [.str ab.1,.str ab.2])) ts tps
theorem PL.same {l:Addr} {H H':Hp} {ts:List Addr} {tps:List (Str×Str)} (h:PL H l ts tps) (s:L2.Same H H'):PL H' l ts tps:=⟨s _ _ h.1,h.2.mono fun _ _ z=>s _ _ z⟩
def qdS (H:Hp) (z:V):Option (Str×Str):=match z with
 | .ref t=>(match H t with
  | some (.tup [.str a,.str b])=>some (a,b)
  | _=>none)
 | _=>none
theorem qbS {H:Hp} {t:Addr} {a b:Str} (h:H t=some (.tup [.str a,.str b])):qdS H (.ref t)=some (a,b):=by
 unfold qdS
 dsimp only
 rw [h]
theorem any_in {H:Hp} {ts:List Addr} {tps:List (Str×Str)} (h:All2 (fun t ab=>H t=some (.tup [.str ab.1,.str ab.2])) ts tps) (st:Str×Str):((ts.map V.ref).any fun z=>decide (qdS H z=some st))=decide (st∈tps):=by
 rw [Bool.eq_iff_iff,List.any_eq_true,decide_eq_true_iff]
 constructor
 ·rintro ⟨z,hz,e⟩
  obtain ⟨t,ht,rfl⟩:=List.mem_map.mp hz
  obtain ⟨ab,hab,r⟩:=h.mem ht
  have e:=of_decide_eq_true e
  rw [qbS r] at e
  cases e
  exact hab
 ·intro hm
  obtain ⟨k,hk,e⟩:=List.getElem_of_mem hm
  have hk':k < ts.length:=by rw [h.len];exact hk
  have r:=h.at_ k ts[k] tps[k] (List.getElem?_eq_getElem hk') (List.getElem?_eq_getElem hk)
  refine ⟨.ref ts[k],List.mem_map.mpr ⟨_,List.getElem_mem hk',rfl⟩,decide_eq_true ?_⟩
  rw [qbS r,e]
theorem qgq {K:W.Frag} {H:Hp} {l a:Addr} {ts:List Addr} {tps:List (Str×Str)} {s t:Str} {Q:VK} (h:PL H l ts tps) (ha:H a=some (.tup [.str s,.str t])) (q:Q (.bl (decide ((s,t)∈tps))) H):qgJ K false (.ref a) (.ref l) H Q:=by
 refine .inr (.inr ⟨l,ts.map V.ref,fun z=>decide (qdS H z=some (s,t)),1,rfl,SqL.of h.1,by decide,fun z hz=>?_,?_⟩)
 ·obtain ⟨b,hb,rfl⟩:=List.mem_map.mp hz
  obtain ⟨ab,_,r⟩:=h.2.mem hb
  have e:=pair_eqD (K:=K) r ha
  have ee:decide (qdS H (.ref b)=some (s,t))=decide ((ab.1,ab.2)=(s,t)):=by
   rw [qbS r]
   apply decide_eq_decide.mpr
   rw [Option.some.injEq]
  show EqD K H 1 (.ref b) (.ref a) (decide (qdS H (.ref b)=some (s,t)))
  rw [ee]
  exact e
 ·rw [any_in h.2]
  exact q
def qaO (ss:List Str) (tps:List (Str×Str)) (one:Str):List (Str×Str):=(ss.filter fun o=>decide ((one,o)∈tps)).map fun o=>(one,o)
def qav (ss:List Str) (tps:List (Str×Str)) (l:List Str):List (Str×Str):=l.flatMap (qaO ss tps)
def qfP (ss:List Str) (tps:List (Str×Str)) (pl:Str):List Str:=ss.filter fun o=>decide ((pl,o)∈tps)||decide ((o,pl)∈tps)
theorem ji {ss:List Str} {i:Nat} {y:V} (hy:(ss.map V.str)[i]?=some y):∃ s,ss[i]?=some s∧y=.str s:=by
 rw [List.getElem?_map] at hy
 cases h:ss[i]? with
 | none=>rw [h] at hy;cases hy
 | some s=>rw [h] at hy;cases hy;exact ⟨s,rfl,rfl⟩
def Adj (ss:List Str) (ns:List Nat) (tps:List (Str×Str)):Prop:=∀ a b s t,ss[a]?=some s→ss[b]?=some t→((ns.getD a 0).testBit b=true↔((s,t)∈tps∨(t,s)∈tps))
theorem qez {ss:List Str} {s:Str} (h:s∈ss):ss[ss.idxOf s]?=some s:=by
 have hl:=List.idxOf_lt_length_of_mem h
 rw [List.getElem?_eq_getElem hl,List.getElem_idxOf]
structure Wk (ss:List Str) (ns:List Nat) (k:Nat) (name:Str) (ps qs:List Str):Prop where
 nd:ps.Nodup
 has:name∈ps
 rch:∀ s∈ps,s∈ss∧Rch ns k (ss.idxOf s)
 sub:∀ s∈qs,s∈ps
theorem qcz {ss:List Str} {s:Str} (h:s∉ss):jm ss (.str s)=false:=by
 unfold jm
 split
 ·exact decide_eq_false h
 ·rfl
theorem bes_of {ss:List Str} {ns:List Nat} {dps:List (Str×Str)} (hw:WOk ss ns) (ha:Adj ss ns dps) {k:Nat} {s:Str} (gk:ss[k]?=some s):inB ss 0 (ns.getD k 0)=qfP ss dps s:=by
 rw [qbB hw.nd]
 unfold qfP
 apply List.filter_congr
 intro t ht
 rw [Bool.eq_iff_iff,Bool.or_eq_true,decide_eq_true_iff,decide_eq_true_iff]
 exact ha _ _ s t gk (qez ht)
theorem vAsgT {te:TE} {K:W.Frag} {n:Nat} {gs:TGs} {D:Ends} {σ:L2.St} {H:Hp} (h:te σ H fun x H1=>qgS K n gs x σ H1 D.nx):qfU te (qgS K n gs) D σ H:=h
def UN (x y:Str×Str):Prop:=x≠y∧x≠(y.2,y.1)
theorem UN.symm {x y:Str×Str} (h:UN x y):UN y x:=⟨fun e=>h.1 e.symm,fun e=>h.2 (by rw [e])⟩
theorem TOk.un {ss:List Str} {tps:List (Str×Str)} (hn:ss.Nodup) (h:TOk ss tps):tps.Pairwise UN:=by
 have nd:=h.nd
 refine List.Pairwise.imp_of_mem (fun {a b} ha hb (hne:a≠b)=>⟨hne,fun e=>?_⟩) nd
 obtain ⟨j,k,h1,h2,h3⟩:=h.ok a ha
 obtain ⟨j',k',g1,g2,g3⟩:=h.ok b hb
 rw [e] at h2 h3
 have e1:=qI hn h2 g3
 have e2:=qI hn h3 g2
 omega
theorem Shuf.un {ss:List Str} {tps ups:List (Str×Str)} (hn:ss.Nodup) (h:TOk ss tps) (sh:Shuf tps ups):ups.Pairwise UN:=by
 obtain ⟨qps,hp,hA⟩:=sh
 have hu:=h.un hn
 refine hp.symm.pairwise ?_ fun h=>h.symm
 refine List.pairwise_iff_getElem.mpr fun i j hi hj hij=>?_
 have hi':i < tps.length:=by rw [hA.len];exact hi
 have hj':j < tps.length:=by rw [hA.len];exact hj
 have hu':=List.pairwise_iff_getElem.mp hu i j hi' hj' hij
 have ai:=hA.at_ i tps[i] qps[i] (List.getElem?_eq_getElem hi') (List.getElem?_eq_getElem hi)
 have aj:=hA.at_ j tps[j] qps[j] (List.getElem?_eq_getElem hj') (List.getElem?_eq_getElem hj)
 generalize tps[i]=a at hu' ai
 generalize tps[j]=b at hu' aj
 generalize qps[i]=c at ai
 generalize qps[j]=d at aj
 obtain ⟨a1,a2⟩:=a
 obtain ⟨b1,b2⟩:=b
 obtain ⟨h1,h2⟩:=hu'
 rcases ai with rfl | rfl<;>rcases aj with rfl | rfl<;>refine ⟨fun e=>?_,fun e=>?_⟩<;>dsimp only at e h1 h2<;>rw [Prod.mk.injEq] at e<;>simp only [ne_eq,Prod.mk.injEq] at h1 h2<;>first | exact h1 ⟨e.1,e.2⟩ | exact h2 ⟨e.1,e.2⟩ | exact h1 ⟨e.2,e.1⟩ | exact h2 ⟨e.2,e.1⟩
theorem Shuf.mem {tps ups:List (Str×Str)} (sh:Shuf tps ups) (s t:Str):((s,t)∈ups∨(t,s)∈ups)↔((s,t)∈tps∨(t,s)∈tps):=by
 obtain ⟨qps,hp,hA⟩:=sh
 rw [hp.mem_iff,hp.mem_iff]
 constructor
 ·have key:∀ c∈qps,c∈tps∨(c.2,c.1)∈tps:=fun c hc=>by
   obtain ⟨k,hk,e⟩:=List.getElem_of_mem hc
   have hk':k < tps.length:=by rw [hA.len];exact hk
   have a:=hA.at_ k tps[k] qps[k] (List.getElem?_eq_getElem hk') (List.getElem?_eq_getElem hk)
   rw [e] at a
   rcases a with a | a
   ·rw [a];exact .inl (List.getElem_mem hk')
   ·rw [a];exact .inr (List.getElem_mem hk')
  rintro (h | h)
  ·exact key _ h
  ·rcases key _ h with h | h
   ·exact .inr h
   ·exact .inl h
 ·have key:∀ c∈tps,c∈qps∨(c.2,c.1)∈qps:=fun c hc=>by
   obtain ⟨d,hd,r⟩:=hA.mem hc
   rcases r with r | r
   ·rw [← r];exact .inl hd
   ·rw [← r];exact .inr hd
  rintro (h | h)
  ·exact key _ h
  ·rcases key _ h with h | h
   ·exact .inr h
   ·exact .inl h
theorem Shuf.good {ss:List Str} {tps ups:List (Str×Str)} (h:TOk ss tps) (sh:Shuf tps ups):∀ ab∈ups,ab.1∈ss∧ab.2∈ss∧(ss.Nodup→ab.1≠ab.2):=fun ab hab=>by
 have:=(sh.mem ab.1 ab.2).mp (.inl hab)
 rcases this with h' | h'
 ·obtain ⟨j,k,h1,h2,h3⟩:=h.ok _ h'
  exact ⟨List.mem_of_getElem? h2,List.mem_of_getElem? h3,fun nd e=>by dsimp only at h2 h3;rw [e] at h2;have:=qI nd h2 h3;omega⟩
 ·obtain ⟨j,k,h1,h2,h3⟩:=h.ok _ h'
  exact ⟨List.mem_of_getElem? h3,List.mem_of_getElem? h2,fun nd e=>by dsimp only at h2 h3;rw [e] at h3;have:=qI nd h2 h3;omega⟩
theorem Shuf.len {tps ups:List (Str×Str)} (sh:Shuf tps ups):ups.length=tps.length:=by
 obtain ⟨qps,hp,hA⟩:=sh
 rw [hp.length_eq,hA.len]
theorem qeA:∀ (l acc:List Str),(∀ s∈l,jT s=true)→l.Nodup→(∀ s∈l,s∉acc)→qdR (l.map V.str) acc=none
 | [],_,_,_,_=>rfl
 | s::r,acc,hn,nd,hd=>by
  rw [List.map_cons,qcu,if_pos (show qaK (.str s)=true from hn s List.mem_cons_self),if_neg (show ¬ jF (.str s)∈acc from hd s List.mem_cons_self)]
  show qdR (r.map V.str) (acc++[s])=none
  rw [List.nodup_cons] at nd
  refine qeA r _ (fun t ht=>hn t (List.mem_cons_of_mem _ ht)) nd.2 fun t ht hm=>?_
  rcases List.mem_append.mp hm with h | h
  ·exact hd t (List.mem_cons_of_mem _ ht) h
  ·have:t=s:=List.mem_singleton.mp h
   rw [this] at ht
   exact nd.1 ht
theorem tieV_ok {H:Hp} {ss:List Str} {t:Addr} {a b:Str} (e:H t=some (.tup [.str a,.str b])) (ha:jm ss (.str a)=true) (hb:jm ss (.str b)=true) (hne:a≠b):zN H ss (.ref t)=some (a,b):=by
 rw [qdv e,if_pos]
 ·rfl
 ·unfold qdQ
  rw [ha,hb]
  simp [jF,hne]
theorem qfp {H:Hp} {ss:List Str}:∀ (us:List Addr) (ups seen:List (Str×Str)),us.length=ups.length→(∀ (k:Nat) t ab,us[k]?=some t→ups[k]?=some ab→zN H ss (.ref t)=some ab)→(seen++ups).Pairwise UN→goT H ss (us.map V.ref) seen=none
 | [],_,_,_,_,_=>rfl
 | u::us,[],_,hl,_,_=>by cases hl
 | u::us,ab::ups,seen,hl,hc,hp=>by
  rw [List.map_cons,qdw (hc 0 u ab rfl rfl),if_neg]
  ·refine qfp us ups (seen++[ab]) (Nat.succ.inj hl) (fun k t cd h1 h2=>hc (k + 1) t cd (by simpa using h1) (by simpa using h2)) ?_
   rw [List.append_assoc]
   exact hp
  ·rw [List.pairwise_append] at hp
   rintro (h | h)
   ·exact (hp.2.2 ab h ab List.mem_cons_self).1 rfl
   ·exact (hp.2.2 _ h ab List.mem_cons_self).2 rfl
theorem qeB {H:Hp} {ss:List Str}:∀ (us:List Addr) (ups:List (Str×Str)),us.length=ups.length→(∀ (k:Nat) t ab,us[k]?=some t→ups[k]?=some ab→zN H ss (.ref t)=some ab)→(us.map V.ref).filterMap (zN H ss)=ups
 | [],[],_,_=>rfl
 | [],_::_,hl,_=>by cases hl
 | _::_,[],hl,_=>by cases hl
 | u::us,ab::ups,hl,hc=>by
  rw [List.map_cons,List.filterMap_cons,hc 0 u ab rfl rfl]
  exact congrArg (ab::·) (qeB us ups (Nat.succ.inj hl) fun k t cd h1 h2=>hc (k + 1) t cd (by simpa using h1) (by simpa using h2))
theorem qcA (ss:List Str):(ss.map V.str).map jF=ss:=by
 rw [List.map_map]
 exact List.map_id ss
theorem make_ok {H:Hp} {ss:List Str} {v v2:V} {us:List Addr} {tps ups:List (Str×Str)} (hO:NOk ss) (hT:TOk ss tps) (sh:Shuf tps ups) (hc:All2 (fun t ab=>H t=some (.tup [.str ab.1,.str ab.2])) us ups) :
  qfO H v (some (ss.map V.str)) v2 (some (us.map V.ref))=none∧(us.map V.ref).filterMap (zN H ss)=ups:=by
 have pl:∀ s,s∈ss→jm ss (.str s)=true:=fun s hs=>qac hs (hO.nm s hs)
 have tv:∀ (k:Nat) t ab,us[k]?=some t→ups[k]?=some ab→zN H ss (.ref t)=some ab:=fun k t ab h1 h2=>by
  obtain ⟨g1,g2,g3⟩:=sh.good hT ab (List.mem_of_getElem? h2)
  exact tieV_ok (hc.at_ k t ab h1 h2) (pl _ g1) (pl _ g2) (g3 hO.nd)
 have hN:qfW v (some (ss.map V.str))=none:=by
  show (if 14 < (ss.map V.str).length then _ else qdR (ss.map V.str) [])=none
  rw [if_neg (by rw [List.length_map];have:=hO.few;omega)]
  exact qeA ss [] hO.nm hO.nd (by simp)
 refine ⟨?_,qeB us ups hc.len tv⟩
 unfold qfO
 rw [hN]
 show qeH H ((ss.map V.str).map jF) v2 (some (us.map V.ref))=none
 rw [qcA]
 show (if 30 < (us.map V.ref).length then _ else (goT H ss (us.map V.ref) []).map _)=none
 rw [if_neg (by rw [List.length_map,hc.len,sh.len];have:=hT.few;omega),qfp us ups [] hc.len tv (by simpa using sh.un hO.nd hT)]
 rfl
theorem qfq {ss:List Str} {ns:List Nat} {tps ups:List (Str×Str)} (sh:Shuf tps ups) (hb:qaL ss ns ups):Adj ss ns tps:=fun a b s t ga gb=>by
 rw [hb.2.2 a b s t ga gb,decide_eq_true_iff]
 exact sh.mem s t
theorem qbl {ss:List Str} {tps:List (Str×Str)} (hT:TOk ss tps) (s t:Str):(s,t)∈qav ss tps ss↔(s,t)∈tps:=by
 unfold qav
 rw [List.mem_flatMap]
 constructor
 ·rintro ⟨one,_,h⟩
  unfold qaO at h
  obtain ⟨o,ho,e⟩:=List.mem_map.mp h
  cases e
  exact of_decide_eq_true (List.mem_filter.mp ho).2
 ·intro h
  obtain ⟨j,k,h1,h2,h3⟩:=hT.ok _ h
  refine ⟨s,List.mem_of_getElem? h2,?_⟩
  unfold qaO
  exact List.mem_map.mpr ⟨t,List.mem_filter.mpr ⟨List.mem_of_getElem? h3,decide_eq_true h⟩,rfl⟩
theorem Adj.ris {ss:List Str} {ns:List Nat} {tps:List (Str×Str)} (hT:TOk ss tps) (h:Adj ss ns tps):Adj ss ns (qav ss tps ss):=fun a b s t ga gb=>by
 rw [qbl hT,qbl hT]
 exact h a b s t ga gb
theorem qcB (ss:List Str):(List.range ss.length).map (fun i=>ss.getD i "")=ss:=by
 apply List.ext_getElem?
 intro i
 rw [List.getElem?_map]
 by_cases h:i < ss.length
 ·rw [List.getElem?_range h,List.getElem?_eq_getElem h]
  simp [List.getD,h]
 ·rw [List.getElem?_eq_none (by simpa using h),List.getElem?_eq_none (by omega)]
  rfl
theorem ties_ris {ss:List Str} {ns:List Nat} {tps:List (Str×Str)} (hw:WOk ss ns) (hT:TOk ss tps) (ha:Adj ss ns tps):qex ss ns ss.length=qav ss tps ss:=by
 have e:qav ss tps ss=(List.range ss.length).flatMap fun i=>qaO ss tps (ss.getD i ""):=by
  unfold qav
  conv=>lhs;rw [← qcB ss]
  rw [List.flatMap_map]
  rw [qcB]
 rw [e]
 unfold qex
 have key:∀ i∈List.range ss.length,qgp ss ns i=qaO ss tps (ss.getD i ""):=fun i hi=>by
  have hi:i < ss.length:=List.mem_range.mp hi
  have gi:ss[i]?=some (ss.getD i ""):=by simp [List.getD,hi]
  unfold qgp qaO
  congr 1
  rw [qbB hw.nd,List.filter_filter]
  apply List.filter_congr
  intro o ho
  have go:=qez ho
  rw [Bool.eq_iff_iff,Bool.and_eq_true,decide_eq_true_iff,decide_eq_true_iff,ha i _ _ o gi go]
  constructor
  ·rintro ⟨h1,h2 | h2⟩
   ·exact h2
   ·obtain ⟨j,k,l1,l2,l3⟩:=hT.ok _ h2
    have e1:=qI hw.nd l2 go
    have e2:=qI hw.nd l3 gi
    omega
  ·intro h
   obtain ⟨j,k,l1,l2,l3⟩:=hT.ok _ h
   have e1:=qI hw.nd l2 gi
   have e2:=qI hw.nd l3 go
   exact ⟨by omega,.inl h⟩
 have fmc:∀ l:List Nat,(∀ i∈l,qgp ss ns i=qaO ss tps (ss.getD i ""))→l.flatMap (qgp ss ns)=l.flatMap fun i=>qaO ss tps (ss.getD i ""):=fun l=>by
  induction l with
  | nil=>intro _;rfl
  | cons a r ih =>
   intro h
   rw [List.flatMap_cons,List.flatMap_cons,h a List.mem_cons_self,ih fun i hi=>h i (List.mem_cons_of_mem _ hi)]
 exact fmc _ key
theorem But.out {x:Addr} {H H0 H':Hp} (b:But x H0 H') (s:L2.Same H H0) (hx:H x=none):L2.Same H H':=fun c o e=>b c o (fun z=>by subst z;rw [hx] at e;cases e) (s c o e)
def qeQ (K:W.Frag):Sp:=fun vs H Q _=>∃ (a:Addr) (ns:List Int),vs=[.ref a]∧SqL K H a (ns.map V.int)∧ns.length≤63∧∀ H',Q (.bl true) H'
def qeR (l:Str):Str:=(PySem.Txt.partition l ":").1
def pMid (l:Str):Str:=(PySem.Txt.partition l ":").2.1
def pTail (l:Str):Str:=(PySem.Txt.partition l ":").2.2
def wds (l:Str):List Str:=PySem.Txt.split (pTail l) " "
def fw:List Str→Nat→List Str→Sum Nat (List Str)
 | [],_,acc=>.inr acc
 | l::r,k,acc=>if pMid l=""∨jT (qeR l)=false∨qeR l∈acc∨14≤k then .inl k else fw r (k + 1) (acc++[qeR l])
def bel (ss:List Str):List Str→Nat→Bool
 | [],_=>true
 | w::r,k=>if w∈ss∧k < ss.idxOf w then bel ss r (ss.idxOf w) else false
def qhr (l:Str):List (Str×Str):=(wds l).tail.map fun o=>(qeR l,o)
def ti (ss:List Str):List Str→Nat→List (Str×Str)→Sum Nat (List (Str×Str))
 | [],_,acc=>.inr acc
 | l::r,k,acc=>if (wds l).headD ""≠""∨bel ss (wds l).tail k=false∨30 < (acc++qhr l).length then .inl k else ti ss r (k + 1) (acc++qhr l)
theorem WebN.old {H0 H1:Hp} {cw:Addr} {H:Hp} {x:Addr} {ss:List Str} {ns:List Nat} (h:WebN H1 cw H x ss ns) (s:L2.Same H0 H1):WebN H0 cw H x ss ns:=by
 obtain ⟨dx,d,ol,n,h1,h2,h3,h4,h5,a2,a3,a4⟩:=h
 exact ⟨dx,d,ol,n,h1,h2,h3,h4,h5,s.free a2,s.free a3,s.free a4⟩
theorem web_made {cc:Nat→Addr} {cw:Addr} {G:Hp} {c1 l' x dx:Addr} {ss:List Str} {us:List Addr} {tps ups:List (Str×Str)} {Q:VK} {E:XK} (h1:G c1=some (.lst (ss.map V.str))) (h2:G l'=some (.lst (us.map V.ref))) (hA:All2 (fun t ab=>G t=some (.tup [.str ab.1,.str ab.2])) us ups)
  (hO:NOk ss) (hT:TOk ss tps) (sh:Shuf tps ups) (hx0:G x=none) (hdx:G dx=none) (hne:x≠dx) (q:∀ ns H',L2.Same G H'→WebN G cw H' x ss ns→qaL ss ns ups→Q .non H') :
  qeO cc cw [.ref x,.ref c1,.ref l'] (upd (upd G dx (.own x)) x (.ins cw dx [])) Q E:=by
 have s0:L2.Same G (upd (upd G dx (.own x)) x (.ins cw dx [])):=qK (qK (Sr G) hdx) (by rw [qk hne];exact hx0)
 have hl0:=hA.mono fun t ab z=>s0 _ _ z
 have mk0:=make_ok (H:=upd (upd G dx (.own x)) x (.ins cw dx [])) (v:=.ref c1) (v2:=.ref l') hO hT sh hl0
 have nx:∀ {a:Addr} {o:HO},G a=some o→a≠x:=fun e z=>by rw [z,hx0] at e;cases e
 refine ⟨x,x,dx,.ref c1,some (ss.map V.str),.ref l',some (us.map V.ref),rfl,qb,.lst (s0 _ _ h1) (nx h1) (fun v hv=>?_) (by rw [List.length_map];have:=hO.few;omega),.lst (s0 _ _ h2) (nx h2) (fun v hv=>?_) (by rw [List.length_map,hA.len,sh.len];have:=hT.few;omega),(fun r e=>by rw [mk0.1] at e;cases e),fun _ ns H' b hWN hbits=>?_⟩
 ·obtain ⟨s,hs,rfl⟩:=List.mem_map.mp hv
  exact Th.flat rfl fun z e=>by cases e;have:=jg (hO.nm _ hs);omega
 ·obtain ⟨u,hu',rfl⟩:=List.mem_map.mp hv
  obtain ⟨ab,hab,eu⟩:=hA.mem hu'
  obtain ⟨g1,g2,_⟩:=sh.good hT ab hab
  refine (Th.tup (n:=1) (s0 _ _ eu) (nx eu) (fun z hz=>?_) (by show 2≤1000;decide))
  simp only [List.mem_cons,List.not_mem_nil,or_false] at hz
  rcases hz with rfl | rfl
  ·exact Th.flat rfl fun z e=>by cases e;have:=jg (hO.nm _ g1);omega
  ·exact Th.flat rfl fun z e=>by cases e;have:=jg (hO.nm _ g2);omega
 ·have e1:((some (ss.map V.str)).getD []).map jF=ss:=qcA ss
  rw [e1] at hbits hWN
  have e2:((some (us.map V.ref)).getD []).filterMap (zN (upd (upd G dx (.own x)) x (.ins cw dx [])) ss)=ups:=mk0.2
  rw [e2] at hbits
  exact q ns H' (b.out s0 hx0) (hWN.old s0) hbits
structure WG (ss:List Str) (ns:List Nat) (dps:List (Str×Str)):Prop where
 tok:TOk ss dps
 adj:Adj ss ns dps
 due:qex ss ns ss.length=dps
def keepT (dps:List (Str×Str)) (ks:List Str):List (Str×Str):=dps.filter fun t=>decide (t.1∈ks)&&decide (t.2∈ks)
theorem sc_l_cell:FnScope ["_law_script", "_law_k"] ["_law_script", "_law_k"] (qd qae):=fS
theorem sc_l_numbers:FnScope ["_law_cell_here", "_law_bases", "_law_prime", "_law_great", "_law_number", "_law_found", "_law_base"] ["_law_cell_here", "_law_bases", "_law_prime"] (qd jY):=fS
def qhs (K:W.Frag):Sp:=fun vs H Q _=>∃ (a:Addr) (ns:List Int) (k:Int),vs=[.ref a,.int k]∧SqL K H a (ns.map V.int)∧0≤k∧k < 1000∧∀ i:Int,Q (.int i) H
def qgK:Sp:=fun vs H Q _=>∃ (b:Addr) (c pr:Int) (bs:List Int),vs=[.int c,.ref b,.int pr]∧H b=some (.lst (bs.map V.int))∧0 < pr∧pr < 2147483648∧bs.length≤100∧(∀ x∈bs,0 < x∧x < 1073741824) ∧
 ∀ (l:Addr) (ns:List Int) (H':Hp),L2.Same H H'→H l=none→H' l=some (.lst (ns.map V.int))→ns.length=bs.length→(∀ (i:Nat) n x,ns[i]?=some n→bs[i]?=some x→0≤n∧n < x)→Q (.ref l) H'
theorem ok_cl (F:Fun K "_law_cell" "_law_cell" qae f fd) (T:Txt K mg cc cw):FnOk P w K mg base CX0 1 f fd ["_law_script", "_law_k"] (qhs K):=by
 refine F.ok sc_l_cell (fun vs H Q E h=>?_) fun cdv A outer s H vs Q E hr h=>?_
 ·obtain ⟨a,ns,k,rfl,_⟩:=h;rfl
 ·obtain ⟨a,ns,k,rfl,hS,h0,h1,q⟩:=h
  have hu:=zH hr
  refine ⟨_,(qf (qN (qp (zh (K:=K) rfl hu) (qm (jW (K:=K) rfl) rfl T.b_len boot_len (qa (pv 0) qc)) qg (qx _)) (qe (qh qg)) qo)
 (qe (qh (qO (qP (K:=K) rfl hu) (pv 0) (qu ze (pv 1) (qm (jW (K:=K) rfl) rfl T.b_len boot_len (qa (pv 0) qc))) (fun _ _=>rfl))))),?_⟩
  walk_at "v"
  refine qef hS ?_
  rw [List.length_map]
  walk_at "v"
  refine .inl (.inl (.inl ⟨rfl,rfl,?_⟩))
  rw [if_neg Bool.false_ne_true]
  walk_at "v"
  refine qY (fun hc=>?_) (fun hc=>?_)
  ·walk_at "v"
   exact q 0
  ·have hpos:0 < ns.length:=by
    refine Nat.pos_of_ne_zero fun e=>hc ?_
    rw [e]
    rfl
   walk_at "v"
   refine qef hS ?_
   rw [List.length_map]
   walk_at "v"
   refine vI (show (0:Int) < (ns.length:Int) by omega) ?_
   have e1:=Int.emod_nonneg k (show (ns.length:Int)≠0 by omega)
   have e2:=Int.emod_lt_of_pos k (show (0:Int) < (ns.length:Int) by omega)
   obtain ⟨v,i1,i2⟩:=qe5 (xs:=ns.map V.int) e1 (by rw [List.length_map];exact e2)
   rw [List.getElem?_map] at i2
   cases e3:ns[(k % (ns.length:Int)).toNat]? with
   | none=>rw [e3] at i2;cases i2
   | some i =>
    rw [e3] at i2
    cases i2
    exact .inl (vIxLs hS i1 (q i))
theorem ok_ns (F:Fun K "_law_numbers" "_law_numbers" jY f fd) (T:Txt K mg cc cw):FnOk P w K mg base CX0 1 f fd ["_law_cell_here", "_law_bases", "_law_prime"] qgK:=by
 refine F.ok sc_l_numbers (fun vs H Q E h=>?_) fun cdv A outer s H vs Q E hr h=>?_
 ·obtain ⟨b,c,pr,bs,rfl,_⟩:=h;rfl
 ·obtain ⟨b,c,pr,bs,rfl,hb,p0,p1,few,hbs,q⟩:=h
  have hu:=zH hr
  refine ⟨_,(qf (qw (i:=3) sc_l_numbers.nd rfl (Or.inl rfl) (jP op_ge (pv 0) (qu op_pow qg qg) (qx _)))
 (qf (qw (i:=4) sc_l_numbers.nd rfl (Or.inl rfl) (qu (jk (K:=K) rfl) (qu ze (qu qci (qu ze (pv 0) (pv 2)) qg) (pv 2)) qg))
 (qf (qw (i:=5) sc_l_numbers.nd rfl (Or.inl rfl) (qA qc))
 (qf (j8 PassesOwn.never rfl (j9 (K:=K) rfl (pv 1)) (qt (i:=6) sc_l_numbers.nd rfl (Or.inl rfl))
 (qf (qw (i:=4) sc_l_numbers.nd rfl (Or.inl rfl) (qu ze (qu (jk (K:=K) rfl) (qu qci (pv 4) qg) qg) (pv 2)))
 (qe (qN (jj (pv 3)) (qf (qC (qcE (K:=K) rfl PySem.F.plainAttrs_list PySem.F.slot_list_append PySem.F.type_list_append jJ (pv 5) (qa (qu ze (pv 0) (pv 6)) qc)))
 (qe (qw (i:=0) sc_l_numbers.nd rfl (Or.inl rfl) (qu qbF (pv 0) (pv 6))))) (qe (qC (qcE (K:=K) rfl PySem.F.plainAttrs_list PySem.F.slot_list_append PySem.F.type_list_append jJ (pv 5) (qa (qu ze (qu ze (qu qci (pv 4) (qu (jk (K:=K) rfl) (qu qbF (pv 4) qg) qg)) qg) (pv 6)) qc))))))))
 (qe (qh (pv 5))))))),?_⟩
  walk_at "v"
  refine vI ⟨by decide,by decide,by decide⟩ ?_
  walk_at "v"
  generalize decide (c ≥ 10 ^ (18:Int).toNat)=g
  refine vI p0 ?_
  walk_at "v"
  refine qee (.inr (by decide)) ?_
  walk_at "v"
  refine vI p0 ?_
  walk_at "v"
  refine ⟨by decide,fun l hl0=>?_⟩
  have s1:=qK (Sr H) (o:=.lst []) hl0
  have el:upd H l (.lst []) l=some (.lst []):=qb
  have nbl:b≠l:=qy hb hl0
  generalize upd H l (.lst [])=H1 at s1 el ⊢
  walk_at "v"
  have n1:=Int.emod_nonneg (c % pr * 48271) (show pr≠0 by omega)
  have n2:=Int.emod_lt_of_pos (c % pr * 48271) p0
  generalize c % pr * 48271 % pr=z0 at n1 n2
  refine .inl ⟨⟨_,SqL.of (s1 _ _ hb)⟩,jO (K:=K) (fun i σ H'=>∃ (c' num:Int) (ns:List Int) (x6:Option V),σ=[some (.int c'),some (.ref b),some (.int pr),some (.bl g),some (.int num),some (.ref l),x6]∧L2.Same H H'∧H' l=some (.lst (ns.map V.int))∧0≤num∧num < 2147500000∧ns.length=i∧∀ (j:Nat) n x,ns[j]?=some n→bs[j]?=some x→0≤n∧n < x) ⟨c,z0 + 8191,[],none,rfl,s1,el,by omega,by omega,rfl,fun j n x h=>by simp at h⟩ (fun i σ H' _ hp=>by obtain ⟨_,_,_,_,_,z,_⟩:=hp;exact SqL.of (z _ _ hb)) (fun i y σ H2 hy hp=>?_) fun σ H2 hp=>?_⟩
  ·obtain ⟨c',num,ns,x6,rfl,s2,hl2,m0,m1,hnl,hns⟩:=hp
   rw [List.getElem?_map] at hy
   cases e:bs[i]? with
   | none=>rw [e] at hy;cases hy
   | some x =>
    rw [e] at hy
    cases hy
    have hi:i < bs.length:=(List.getElem?_eq_some_iff.mp e).1
    obtain ⟨x0,x1⟩:=hbs x (List.mem_of_getElem? e)
    have more:∀ r:Int,0≤r→r < x→∀ (j:Nat) n y,(ns++[r])[j]?=some n→bs[j]?=some y→0≤n∧n < y:=fun r r0 r1 j n y hj gj=>by
     by_cases hji:j < ns.length
     ·rw [List.getElem?_append_left hji] at hj
      exact hns j n y hj gj
     ·rw [List.getElem?_append_right (by omega)] at hj
      have e0:j - ns.length=0:=by
       have:=(List.getElem?_eq_some_iff.mp hj).1
       simp only [List.length_cons,List.length_nil] at this
       omega
      rw [e0] at hj
      cases hj
      have:j=i:=by omega
      subst this
      rw [e] at gj
      cases gj
      exact ⟨r0,r1⟩
    walk_at "v"
    refine qee (.inr (by decide)) ?_
    walk_at "v"
    refine vI p0 ?_
    walk_at "v"
    have k1:=Int.emod_nonneg (num * 69621 + 4099) (show pr≠0 by omega)
    have k2:=Int.emod_lt_of_pos (num * 69621 + 4099) p0
    generalize (num * 69621 + 4099) % pr=z at k1 k2 ⊢
    refine qY (fun hg=>?_) fun hg=>?_
    ·walk_at "v"
     refine ⟨.inl ⟨rfl,_,SqL.of hl2⟩,?_⟩
     walk_at "v"
     refine vI x0 ?_
     walk_at "v"
     refine ⟨l,_,_,rfl,rfl,hl2,by rw [List.length_map];exact qq (by omega),?_⟩
     walk_at "v"
     refine vI ⟨x0,x1⟩ ?_
     walk_at "v"
     exact ⟨_,_,ns++[c' % x],_,rfl,qfl s2 hl0,by rw [qb,List.map_append];rfl,k1,by omega,by rw [List.length_append,hnl];rfl,more _ (Int.emod_nonneg _ (by omega)) (Int.emod_lt_of_pos _ x0)⟩
    ·walk_at "v"
     refine ⟨.inl ⟨rfl,_,SqL.of hl2⟩,?_⟩
     walk_at "v"
     refine vI ⟨by decide,by decide⟩ ?_
     walk_at "v"
     refine qee (.inl ⟨by omega,by omega⟩) ?_
     walk_at "v"
     refine vI (by decide) ?_
     walk_at "v"
     refine vI x0 ?_
     walk_at "v"
     refine ⟨l,_,_,rfl,rfl,hl2,by rw [List.length_map];exact qq (by omega),?_⟩
     exact ⟨_,_,ns++[z * (z / 977 + 3) % 2147483629 % x],_,rfl,qfl s2 hl0,by rw [qb,List.map_append];rfl,k1,by omega,by rw [List.length_append,hnl];rfl,more _ (Int.emod_nonneg _ (by omega)) (Int.emod_lt_of_pos _ x0)⟩
  ·obtain ⟨c',num,ns,x6,rfl,s2,hl2,m0,m1,hnl,hns⟩:=hp
   walk_at "v"
   exact q l ns H2 s2 hl0 hl2 (by rw [hnl,List.length_map]) hns
theorem sc_l_names:FnScope ["_law_cell_here", "_law_long", "_law_few", "_law_many", "_law_start", "_law_step", "_law_tail", "_law_rest", "_law_size", "_law_letters", "_law_end"] ["_law_cell_here"] (qd zt):=fS
theorem qcW {X:L2.Cx} {st:List PySem.Stmt} {t:L2.TS} (t':L2.TS) (h:L2.PSs X st t) (k:∀ D σ H,t' D σ H→t D σ H):L2.PSs X st t':=fun pins s σ H D I q=>h pins s σ H D I (k D σ H q)
theorem rep_ok {c:Nat} {n:Int} (h:n=1∨n=2∨n=3):MulOk ⟨#[c]⟩ n∧(Txt.mul ⟨#[c]⟩ n).cps.toList=List.replicate n.toNat c∧(Txt.mul ⟨#[c]⟩ n).length=n.toNat:=by
 rcases h with rfl | rfl | rfl
 ·exact ⟨⟨by decide,fun _ _=>by show ¬ ((1:Int) > (2 ^ 63 - 1) / 1);decide,fun _ _=>by show Builtin.Str.tooLong (1 * 1)=false;decide⟩,rfl,rfl⟩
 ·exact ⟨⟨by decide,fun _ _=>by show ¬ ((1:Int) > (2 ^ 63 - 1) / 2);decide,fun _ _=>by show Builtin.Str.tooLong (1 * 2)=false;decide⟩,rfl,rfl⟩
 ·exact ⟨⟨by decide,fun _ _=>by show ¬ ((1:Int) > (2 ^ 63 - 1) / 3);decide,fun _ _=>by show Builtin.Str.tooLong (1 * 3)=false;decide⟩,rfl,rfl⟩
theorem qfr:L26.cps.toList.all sg=true:=by decide +kernel
theorem qcX:L26.length=26:=by decide +kernel
def qht:Sp:=fun vs H Q _=>∃ c:Int,vs=[.int c]∧∀ (l:Addr) (ss:List Str) (H':Hp),L2.Same H H'→H l=none→H' l=some (.lst (ss.map V.str))→NOk ss→Q (.ref l) H'
theorem ok_nm (F:Fun K "_law_names" "_law_names" zt f fd) (T:Txt K mg cc cw) (D_l_numbers:DefOk P w K mg base CX0 1 "_law_numbers" ["_law_cell_here", "_law_bases", "_law_prime"] qgK):FnOk P w K mg base CX0 2 f fd ["_law_cell_here"] qht:=by
 refine F.ok sc_l_names (fun vs H Q E h=>?_) fun cdv A outer s H vs Q E hr h=>?_
 ·obtain ⟨c,rfl,_⟩:=h;rfl
 ·obtain ⟨c,rfl,q⟩:=h
  have hu:=zH hr
  obtain ⟨TC3,hTC3⟩:∃ t:TS,t=fun D σ H'=>(∀ u H',Q u H'→D.rt u H')∧∃ x0 x1 x2 x3 x9 x10 jV step tail rest size,σ=[x0,x1,x2,x3,some (.int jV),some (.int step),some (.int tail),some (.int rest),some (.int size),x9,x10]∧L2.Same H H'∧(0≤jV∧jV < 26)∧(0≤step∧step < 6)∧(0≤tail∧tail < 4)∧(0≤rest∧rest < 26)∧0≤size∧size < 15:=⟨_,rfl⟩
  refine ⟨_,(qf (qb0 (qr D_l_numbers (hm hr) qE (qa (pv 0) (qa (qA (qa qg (qa qg (qa qg (qa qg (qa qg (qa qg (qa qg qc)))))))) (qa qg qc)))) (pg_tupU rfl (ju (qt (i:=1) sc_l_names.nd rfl (Or.inl rfl)) (ju (qt (i:=2) sc_l_names.nd rfl (Or.inl rfl)) (ju (qt (i:=3) sc_l_names.nd rfl (Or.inl rfl)) (ju (qt (i:=4) sc_l_names.nd rfl (Or.inr rfl)) (ju (qt (i:=5) sc_l_names.nd rfl (Or.inr rfl)) (ju (qt (i:=6) sc_l_names.nd rfl (Or.inl rfl)) (ju (qt (i:=7) sc_l_names.nd rfl (Or.inl rfl)) qbE)))))))))
 (qf (qw (i:=8) sc_l_names.nd rfl (Or.inl rfl) (pv 2))
 (qf (qN (qp (zh (K:=K) rfl hu) (pv 1) qg (qx _)) (qe (qw (i:=8) sc_l_names.nd rfl (Or.inl rfl) (pv 3))) qo)
 (qcW TC3 (qf (qw (i:=9) sc_l_names.nd rfl (Or.inr rfl) qV)
 (qf (qw (i:=10) sc_l_names.nd rfl (Or.inr rfl) (qz (qaR (K:=K) rfl) (qu (jk (K:=K) rfl) (qz (qaR (K:=K) rfl) (pv 9) (qD (pv 7)) qS) (pv 9)) qS (qD (pv 6))))
 (qe (qh (qap (sc:=qd zt) (XN:=["_law_cell_here", "_law_long", "_law_few", "_law_many", "_law_start", "_law_step", "_law_tail", "_law_rest", "_law_size", "_law_letters", "_law_end"]) ["_law_k", "_law_end", "_law_letters", "_law_start", "_law_step"] 1 [10,9,4,5] rfl rfl rfl (by decide +kernel) rfl (by decide +kernel)
  (qax rfl T.b_range (qa (pv 8) qc)) (fun _ _ _ _=>(qt (i:=0) (show (["_law_k", "_law_end", "_law_letters", "_law_start", "_law_step"]:List Str).Nodup by decide +kernel) rfl (Or.inl rfl))) zC
  (fun _ _ _ _=>qaE)
  (fun _ _ _ _=>(qu (jk (K:=K) rfl) (qu qci (qO (qP (K:=K) rfl hu) (pv 2) (qu ze (qu (jk (K:=K) rfl) (pv 3) (qu qci (qO (qP (K:=K) rfl hu) (qA (qa qg (qa qg (qa qg (qa qg (qa qg (qa qg qc))))))) (pv 4) (fun _ _=>rfl)) (pv 0))) qg) (fun _ _=>rfl)) (qu (jk (K:=K) rfl) qg (qu ze (pv 0) qg))) (pv 1)))))))) ?cut3)))),?_⟩
  case cut3 =>
   intro D σ H1 h
   rw [hTC3] at h
   obtain ⟨hD,x0,x1,x2,x3,x9,x10,jV,step,tail,rest,size,rfl,s1,⟨a0,a1⟩,⟨st0,st1⟩,⟨t0,t1⟩,⟨r0,r1⟩,z0,z1⟩:=h
   walk_at "v"
   refine qhk (by decide +kernel) ?_
   have hsl:(Txt.slice L26 (some rest) none).cps.toList=L26.cps.toList.drop rest.toNat:=by
    have:=slice_drop L26 rest.toNat
    rw [show ((rest.toNat:Nat):Int)=rest by omega] at this
    exact this
   have hsn:(Txt.slice L26 (some rest) none).length≤26:=by have:=slice_len L26 (some rest) none;rw [qcX] at this;exact this
   walk_at "v"
   refine qgb (by show (Txt.slice L26 (some rest) none).length + L26.length≤sizeLine;rw [qcX];exact Nat.le_trans (Nat.add_le_add_right hsn 26) (by decide)) ?_
   walk_at "v"
   have hal:=qdC (Txt.slice L26 (some rest) none) L26
   have hall:(Txt.slice L26 (some rest) none++L26).length≤52:=by
    have e:(Txt.slice L26 (some rest) none++L26).length=(Txt.slice L26 (some rest) none++L26).cps.toList.length:=by simp [Str.length]
    have e1:(Txt.slice L26 (some rest) none).length=(Txt.slice L26 (some rest) none).cps.toList.length:=by simp [Str.length]
    have e2:L26.length=L26.cps.toList.length:=by simp [Str.length]
    rw [e,hal,List.length_append,← e1,← e2,qcX]
    omega
   refine qhk (Nat.le_trans hall (by decide)) ?_
   walk_at "v"
   have htk:(Txt.slice (Txt.slice L26 (some rest) none++L26) none (some tail)).cps.toList=(L26.cps.toList.drop rest.toNat++L26.cps.toList).take tail.toNat:=by
    have:=slice_take (Txt.slice L26 (some rest) none++L26) tail.toNat
    rw [show ((tail.toNat:Nat):Int)=tail by omega,hal,hsl] at this
    exact this
   have hend:∃ E1:Str,Txt.slice (Txt.slice L26 (some rest) none++L26) none (some tail)=E1∧E1.cps.toList.all sg=true∧E1.cps.toList.length≤3:=by
    refine ⟨_,rfl,?_,?_⟩
    ·rw [htk]
     refine List.all_eq_true.mpr fun x hx=>?_
     have:=List.mem_of_mem_take hx
     rcases List.mem_append.mp this with z | z
     ·exact List.all_eq_true.mp qfr x (List.mem_of_mem_drop z)
     ·exact List.all_eq_true.mp qfr x z
    ·rw [htk,List.length_take]
     omega
   obtain ⟨E1,eE,hE,hE3⟩:=hend
   have eE':Txt.slice (Txt.slice (Str.ofString "abcdefghijklmnopqrstuvwxyz") (some rest) none++Str.ofString "abcdefghijklmnopqrstuvwxyz") none (some tail)=E1:=eE
   rw [eE']
   refine ⟨size,rfl,by omega,by omega,qbw (lo:=0) (fun i ys H'=>L2.Same H1 H'∧∃ ss:List Str,ys=ss.map V.str∧ss.length=i∧∃ sp∈[(1:Int),3,5,7,9,11,15,25],(sp=[1,3,5,7,9,11].getD step.toNat 0)∧∀ (j:Nat) s,ss[j]?=some s→jT s=true∧s.cps.toList.head?=some (97 + ((jV + sp * j) % 26).toNat)) ⟨L2.Same.refl H1,[],rfl,rfl,?_⟩ (fun i ys H' hi hp=>?_) fun ys H' hp=>?_⟩
   ·have:∀ k:Nat,k < 6→([1,3,5,7,9,11]:List Int).getD k 0∈[(1:Int),3,5,7,9,11,15,25]:=by decide
    exact ⟨_,this step.toNat (by omega),rfl,fun j s h=>by simp at h⟩
   ·obtain ⟨s2,ss,rfl,hsl,sp,hsp,esp,hss⟩:=hp
    walk_at "v"
    refine qbH ?_
    walk_at "v"
    refine ⟨by show 6≤sizeLine;decide,fun m hm=>?_⟩
    have s3:=qK s2 (o:=.lst [V.int 1,V.int 3,V.int 5,V.int 7,V.int 9,V.int 11]) hm
    have em:upd H' m (.lst [V.int 1,V.int 3,V.int 5,V.int 7,V.int 9,V.int 11]) m=some (.lst [V.int 1,V.int 3,V.int 5,V.int 7,V.int 9,V.int 11]):=qb
    generalize upd H' m (.lst [V.int 1,V.int 3,V.int 5,V.int 7,V.int 9,V.int 11])=H3 at s3 em ⊢
    have hat:atI [V.int 1,V.int 3,V.int 5,V.int 7,V.int 9,V.int 11] step=some (.int sp):=by
     obtain ⟨k,rfl⟩:=Int.eq_ofNat_of_zero_le st0
     rw [esp,Int.toNat_natCast]
     have hk:k < 6:=by omega
     have:∀ k:Nat,k < 6→([V.int 1,V.int 3,V.int 5,V.int 7,V.int 9,V.int 11]:List V)[k]?=some (.int (([1,3,5,7,9,11]:List Int).getD k 0)):=fun k hk=>by
      match k,hk with
      | 0,_=>rfl
      | 1,_=>rfl
      | 2,_=>rfl
      | 3,_=>rfl
      | 4,_=>rfl
      | 5,_=>rfl
     exact qJ (this k hk)
    walk_at "v"
    refine .inl (zT em hat ?_)
    have spb:0≤sp∧sp≤25:=by
     simp only [List.mem_cons,List.not_mem_nil,or_false] at hsp
     rcases hsp with rfl | rfl | rfl | rfl | rfl | rfl | rfl | rfl<;>decide
    walk_at "v"
    rw [Int.zero_add]
    refine qee (.inl ⟨by omega,by omega⟩) ?_
    walk_at "v"
    refine vI (by decide) ?_
    have c1:=Int.emod_nonneg (jV + sp * (i:Int)) (show (26:Int)≠0 by decide)
    have c2:=Int.emod_lt_of_pos (jV + sp * (i:Int)) (show (0:Int) < 26 by decide)
    refine .inl (vIxS (by decide +kernel) (L26_at c1 c2) ?_)
    walk_at "v"
    refine vI (by decide) ?_
    walk_at "v"
    have hn:1 + (i:Int) % 3=1∨1 + (i:Int) % 3=2∨1 + (i:Int) % 3=3:=by omega
    obtain ⟨mo,ml,mn⟩:=rep_ok (c:=97 + ((jV + sp * (i:Int)) % 26).toNat) hn
    refine ⟨mo,?_⟩
    walk_at "v"
    have hE0:E1.length=E1.cps.toList.length:=by simp [Str.length]
    have hE1:E1.length≤3:=by omega
    refine qgb (by rw [mn];exact Nat.le_trans (show _≤6 by omega) (by decide)) ?_
    refine ⟨by rw [List.length_map,hsl];exact qq (by omega),s3,ss++[_],by rw [List.map_append];rfl,by rw [List.length_append,hsl];rfl,sp,hsp,esp,fun j s hj=>?_⟩
    by_cases hji:j < ss.length
    ·rw [List.getElem?_append_left hji] at hj
     exact hss j s hj
    ·rw [List.getElem?_append_right (by omega)] at hj
     have e0:j - ss.length=0:=by
      have:=(List.getElem?_eq_some_iff.mp hj).1
      simp only [List.length_cons,List.length_nil] at this
      omega
     rw [e0] at hj
     cases hj
     have hjeq:j=i:=by omega
     subst hjeq
     have ea:=qdC (Txt.mul ⟨#[97 + ((jV + sp * (j:Int)) % 26).toNat]⟩ (1 + (j:Int) % 3)) E1
     rw [ml] at ea
     refine ⟨nameS_of ea ?_ ?_ ?_,?_⟩
     ·rw [List.length_append,List.length_replicate];omega
     ·rw [List.length_append,List.length_replicate];omega
     ·rw [List.all_append,hE,Bool.and_true]
      refine List.all_eq_true.mpr fun x hx=>?_
      rw [(List.mem_replicate.mp hx).2]
      exact sg_of (by omega) (by omega)
     ·rw [ea]
      obtain ⟨k,hk⟩:∃ k,(1 + (j:Int) % 3).toNat=k + 1:=⟨(1 + (j:Int) % 3).toNat - 1,by omega⟩
      rw [hk]
      rfl
   ·obtain ⟨s2,ss,rfl,hsl,sp,hsp,esp,hss⟩:=hp
    refine ⟨by rw [List.length_map,hsl];exact Nat.le_of_lt (qq (by omega)),fun l hl0=>hD _ _ ?_⟩
    refine q l ss _ ((s1.trans s2).trans (qK (Sr H') hl0)) ((s1.trans s2).free hl0) qb ⟨by omega,nodup_key fun j k s hj hk=>?_,fun s hs=>?_⟩
    ·have ej:=(hss j s hj).2
     have ek:=(hss k s hk).2
     rw [ej] at ek
     have e:=Option.some.inj ek
     have hj':j < ss.length:=(List.getElem?_eq_some_iff.mp hj).1
     have hk':k < ss.length:=(List.getElem?_eq_some_iff.mp hk).1
     have q1:=Int.emod_nonneg (jV + sp * (j:Int)) (show (26:Int)≠0 by decide)
     have q2:=Int.emod_nonneg (jV + sp * (k:Int)) (show (26:Int)≠0 by decide)
     have:=step_inj (a:=j) (b:=k) hsp (by omega) (by omega) (by omega) (by omega) (sh:=jV) (by omega)
     omega
    ·obtain ⟨j,hj⟩:=List.getElem?_of_mem hs
     exact (hss j s hj).1
  walk_at "v"
  refine vAsgU ?_
  walk_at "v"
  refine ⟨by show 7≤sizeLine;decide,fun b hb=>?_⟩
  have s1:=qK (Sr H) (o:=.lst [V.int 8,V.int 8,V.int 15,V.int 26,V.int 6,V.int 4,V.int 26]) hb
  have eb:upd H b (.lst [V.int 8,V.int 8,V.int 15,V.int 26,V.int 6,V.int 4,V.int 26]) b=some (.lst ([8,8,15,26,6,4,26].map V.int)):=qb
  generalize upd H b (.lst [V.int 8,V.int 8,V.int 15,V.int 26,V.int 6,V.int 4,V.int 26])=H1 at s1 eb ⊢
  walk_at "v"
  refine ⟨b,c,2147483647,[8,8,15,26,6,4,26],rfl,eb,by decide,by decide,by decide,by decide,fun l ns H2 s2 hl0 hl hlen hns=>?_⟩
  match ns,hlen,hl,hns with
  | [n1,n2,n3,n4,n5,n6,n7],_,hl,hns =>
   have e1:=hns 0 n1 8 rfl rfl
   have e2:=hns 1 n2 8 rfl rfl
   have e3:=hns 2 n3 15 rfl rfl
   have e4:=hns 3 n4 26 rfl rfl
   have e5:=hns 4 n5 6 rfl rfl
   have e6:=hns 5 n6 4 rfl rfl
   have e7:=hns 6 n7 26 rfl rfl
   refine ⟨l,_,rfl,.inr (SqL.of hl),rfl,_,_,rfl,_,_,rfl,_,_,rfl,_,_,rfl,_,_,rfl,_,_,rfl,_,_,rfl,rfl,?_⟩
   walk_at "v"
   refine .inl (.inl (.inl ⟨rfl,rfl,?_⟩))
   walk_at "v"
   refine qY (fun h=>?_) fun h=>?_
   ·walk_at "v"
    rw [hTC3]
    exact ⟨fun _ _ z=>z,_,_,_,_,_,_,n4,n5,n6,n7,n3,rfl,s1.trans s2,e4,e5,e6,e7,e3.1,e3.2⟩
   ·walk_at "v"
    rw [hTC3]
    exact ⟨fun _ _ z=>z,_,_,_,_,_,_,n4,n5,n6,n7,n2,rfl,s1.trans s2,e4,e5,e6,e7,e2.1,by omega⟩
theorem sc_l_ties:FnScope ["_law_names_here", "_law_cell_here", "_law_pool", "_law_k", "_law_most", "_law_bases", "_law_numbers_here", "_law_found", "_law_number", "_law_one", "_law_other"] ["_law_names_here", "_law_cell_here"] (qd zy):=fS
theorem vIxAt {K:W.Frag} {H:Hp} {Q:VK} {p:Addr} {ss:List Str} {k:Nat} {x:Str} (hp:H p=some (.lst (ss.map V.str))) (h:ss[k]?=some x) (q:Q (.str x) H):qgh K (.ref p) (.int k) H Q:=
 .inl (zT hp (qJ (by rw [List.getElem?_map,h];rfl)) q)
theorem PL.put {H:Hp} {l:Addr} {ts us:List Addr} {tps ups:List (Str×Str)} (h:PL H l ts tps) (g:All2 (fun t ab=>H t=some (.tup [.str ab.1,.str ab.2])) us ups):PL (upd H l (.lst (us.map V.ref))) l us ups:=
 ⟨qb,g.mono fun t ab z=>by rw [qk (zo z h.1 (by intro z;cases z))];exact z⟩
theorem PL.other {H:Hp} {l l':Addr} {ts:List Addr} {tps:List (Str×Str)} {xs ys:List V} (h:PL H l ts tps) (ne:l≠l') (hl:H l'=some (.lst xs)):PL (upd H l' (.lst ys)) l ts tps:=
 ⟨by rw [qk ne];exact h.1,h.2.mono fun t ab z=>by rw [qk (zo z hl (by intro z;cases z))];exact z⟩
theorem All2.app {α β:Type} {R:α→β→Prop} {l1 l2:List α} {m1 m2:List β} (h1:All2 R l1 m1) (h2:All2 R l2 m2):All2 R (l1++l2) (m1++m2):=by
 refine ⟨by rw [List.length_append,List.length_append,h1.len,h2.len],fun k a b ha hb=>?_⟩
 by_cases hk:k < l1.length
 ·rw [List.getElem?_append_left hk] at ha
  rw [List.getElem?_append_left (by rw [← h1.len];exact hk)] at hb
  exact h1.at_ k a b ha hb
 ·rw [List.getElem?_append_right (by omega)] at ha
  rw [List.getElem?_append_right (by rw [← h1.len];omega),← h1.len] at hb
  exact h2.at_ _ a b ha hb
theorem vIxN {K:W.Frag} {H:Hp} {Q:VK} {p:Addr} {ns:List Int} {i:Int} {b:Int} {bs:List Int} (hp:H p=some (.lst (ns.map V.int))) (hl:ns.length=bs.length) (hb:∀ (i:Nat) n x,ns[i]?=some n→bs[i]?=some x→0≤n∧n < x) (h0:0≤i) (h1:bs[i.toNat]?=some b) (h:∀ n,0≤n→n < b→Q (.int n) H):qgh K (.ref p) (.int i) H Q:=by
 have hj:i.toNat < ns.length:=by rw [hl];exact (List.getElem?_eq_some_iff.mp h1).1
 have e:ns[i.toNat]?=some ns[i.toNat]:=List.getElem?_eq_getElem hj
 obtain ⟨r1,r2⟩:=hb _ _ _ e h1
 have ea:atI (ns.map V.int) i=some (.int ns[i.toNat]):=by
  have:=qJ (xs:=ns.map V.int) (j:=i.toNat) (v:=.int ns[i.toNat]) (by rw [List.getElem?_map,e];rfl)
  rw [show ((i.toNat:Nat):Int)=i by omega] at this
  exact this
 exact .inl (zT hp ea (h _ r1 r2))
theorem cut_len (xs:List V) (a b:Nat):(qaP xs (some (a:Int)) (some (b:Int))).length≤b - a:=by
 unfold qaP
 rw [HT.sIx_nat,HT.sIx_nat,List.length_take]
 omega
theorem cut_at {xs:List V} {a b i:Nat} {v:V} (ha:a≤xs.length) (h:(qaP xs (some (a:Int)) (some (b:Int)))[i]?=some v):xs[a + i]?=some v∧i < b - a:=by
 have hl:=(List.getElem?_eq_some_iff.mp h).1
 have:=cut_len xs a b
 unfold qaP at h
 rw [HT.sIx_nat,HT.sIx_nat,Nat.min_eq_left ha,List.getElem?_take] at h
 split at h
 ·rw [List.getElem?_drop] at h
  exact ⟨h,by omega⟩
 ·cases h
def qhu:Sp:=fun vs H Q _=>∃ (n:Addr) (c:Int) (ss:List Str),vs=[.ref n,.int c]∧H n=some (.lst (ss.map V.str))∧NOk ss∧∀ (l:Addr) (ts:List Addr) (tps ups:List (Str×Str)) (H':Hp),L2.Same H H'→H l=none→PL H' l ts ups→TOk ss tps→Shuf tps ups→Q (.ref l) H'
theorem ok_ts2 (F:Fun K "_law_ties" "_law_ties" zy f fd) (T:Txt K mg cc cw) (D_l_numbers:DefOk P w K mg base CX0 1 "_law_numbers" ["_law_cell_here", "_law_bases", "_law_prime"] qgK):FnOk P w K mg base CX0 2 f fd ["_law_names_here", "_law_cell_here"] qhu:=by
 refine F.ok sc_l_ties (fun vs H Q E h=>?_) fun cdv A outer s H vs Q E hr h=>?_
 ·obtain ⟨n,c,ss,rfl,_⟩:=h;rfl
 ·obtain ⟨n,c,ss,rfl,hn,hO,q⟩:=h
  have few:=hO.few
  have hu:=zH hr
  refine ⟨_,(qf (qw (i:=2) sc_l_ties.nd rfl (Or.inr rfl) (qA qc))
 (qf (j8 PassesOwn.never rfl (qax rfl T.b_range (qa (qm (jW (K:=K) rfl) rfl T.b_len boot_len (qa (pv 0) qc)) qc)) (qt (i:=3) sc_l_ties.nd rfl (Or.inr rfl))
 (qe (qC (qcE (K:=K) rfl PySem.F.plainAttrs_list PySem.F.slot_list_extend PySem.F.type_list_extend qbz (pv 2) (qa (qap (sc:=qd zy) (XN:=["_law_names_here", "_law_cell_here", "_law_pool", "_law_k", "_law_most", "_law_bases", "_law_numbers_here", "_law_found", "_law_number", "_law_one", "_law_other"]) ["_law_other", "_law_names_here", "_law_k"] 1 [0,3] rfl rfl rfl (by decide +kernel) rfl (by decide +kernel)
  (j9 (K:=K) rfl (qz (qaR (K:=K) rfl) (pv 0) (qD (qu (jk (K:=K) rfl) (pv 3) qg)) qS)) (fun _ _ _ _=>(qt (i:=0) (show (["_law_other", "_law_names_here", "_law_k"]:List Str).Nodup by decide +kernel) rfl (Or.inl rfl))) zC
  (fun _ _ _ _=>qaE)
  (fun _ _ _ _=>(zQ (qa (qO (qP (K:=K) rfl hu) (pv 1) (pv 2) (fun _ _=>rfl)) (qa (pv 0) qc))))) qc)))))
 (qf (qw (i:=4) sc_l_ties.nd rfl (Or.inl rfl) (qm (qb2 rfl) rfl T.b_min boot_min (qa qg (qa (qm (jW (K:=K) rfl) rfl T.b_len boot_len (qa (pv 2) qc)) qc))))
 (qf (qw (i:=5) sc_l_ties.nd rfl (Or.inl rfl) (qu (jk (K:=K) rfl) (qA (qa (qu (jk (K:=K) rfl) (pv 4) qg) qc)) (qap (sc:=qd zy) (XN:=["_law_names_here", "_law_cell_here", "_law_pool", "_law_k", "_law_most", "_law_bases", "_law_numbers_here", "_law_found", "_law_number", "_law_one", "_law_other"]) ["_law_k", "_law_pool"] 1 [2] rfl rfl rfl (by decide +kernel) rfl (by decide +kernel)
  (qax rfl T.b_range (qa (pv 4) qc)) (fun _ _ _ _=>(qt (i:=0) (show (["_law_k", "_law_pool"]:List Str).Nodup by decide +kernel) rfl (Or.inl rfl))) zC
  (fun _ _ _ _=>qaE)
  (fun _ _ _ _=>(qu qci qg (qu qc7 (qm (jW (K:=K) rfl) rfl T.b_len boot_len (qa (pv 1) qc)) (pv 0)))))))
 (qf (qw (i:=6) sc_l_ties.nd rfl (Or.inl rfl) (qr D_l_numbers (hm hr) qE (qa (pv 1) (qa (pv 5) (qa qg qc)))))
 (qf (qw (i:=7) sc_l_ties.nd rfl (Or.inl rfl) (qA qc))
 (qf (j8 PassesOwn.never rfl (j9 (K:=K) rfl (qz (qaR (K:=K) rfl) (pv 6) (qD qg) (qD (qu (jk (K:=K) rfl) qg (qO (qP (K:=K) rfl hu) (pv 6) qg (fun _ _=>rfl)))))) (qt (i:=8) sc_l_ties.nd rfl (Or.inl rfl))
 (qf (qb0 (qcE (K:=K) rfl PySem.F.plainAttrs_list PySem.F.slot_list_pop PySem.F.type_list_pop mtR_popAt (pv 2) (qa (qu qbF (pv 8) qg) qc)) (qc6 rfl (ju (qt (i:=9) sc_l_ties.nd rfl (Or.inl rfl)) (ju (qt (i:=10) sc_l_ties.nd rfl (Or.inl rfl)) qbE))))
 (qe (qC (qcE (K:=K) rfl PySem.F.plainAttrs_list PySem.F.slot_list_append PySem.F.type_list_append jJ (pv 7) (qa (qO (qP (K:=K) rfl hu) (qA (qa (zQ (qa (pv 9) (qa (pv 10) qc))) (qa (zQ (qa (pv 10) (qa (pv 9) qc))) qc))) (qu ze (pv 8) qg) (fun _ _=>rfl)) qc))))))
 (qe (qh (pv 7)))))))))),?_⟩
  walk_at "v"
  refine ⟨by decide,fun l hl=>?_⟩
  have s1:=qK (Sr H) (o:=.lst []) hl
  have t1:PL (upd H l (.lst [])) l [] []:=⟨qb,All2.nil⟩
  generalize upd H l (.lst [])=H1 at s1 t1 ⊢
  walk_at "v"
  refine qaq (s1 _ _ hn) ?_
  rw [List.length_map]
  refine ⟨_,rfl,by omega,by omega,qb1 (fun i σ H'=>L2.Same H H'∧∃ (ts:List Addr) (pps:List (Str×Str)) (x3:Option V),σ=[some (.ref n),some (.int c),some (.ref l),x3,none,none,none,none,none,none,none]∧PL H' l ts pps∧pps.length≤14 * i∧pps.Nodup∧∀ ab∈pps,∃ j k,j < k∧ss[j]?=some ab.1∧ss[k]?=some ab.2∧j < i)
   ⟨s1,[],[],none,rfl,t1,by simp,by simp,by simp⟩ (fun i σ H2 hi hp=>?_) fun σ H2 hp=>?_⟩
  ·obtain ⟨s2,ts,pps,x3,rfl,t2,l14,nd,ok⟩:=hp
   have hi':i < ss.length:=by omega
   have gx:ss[i]?=some ss[i]:=List.getElem?_eq_getElem hi'
   generalize ss[i]=x at gx
   walk_at "v"
   refine ⟨.inl ⟨rfl,_,SqL.of t2.1⟩,?_⟩
   rw [Int.zero_add]
   have ec1:qaP (ss.map V.str) (some ((i:Int) + 1)) none=(ss.drop (i + 1)).map V.str:=by
    have:=za (ss.map V.str) (i + 1)
    rw [← List.map_drop] at this
    exact this
   walk_at "v"
   refine .inl ⟨n,_,rfl,SqL.of (s2 _ _ hn),fun d hd=>?_⟩
   rw [ec1]
   have s23:=qK (Sr H2) (o:=.lst ((ss.drop (i + 1)).map V.str)) hd
   have ed:upd H2 d (.lst ((ss.drop (i + 1)).map V.str)) d=some (.lst ((ss.drop (i + 1)).map V.str)):=qb
   replace t2:=t2.same s23
   have s3:=s2.trans s23
   generalize upd H2 d (.lst ((ss.drop (i + 1)).map V.str))=H3 at s3 ed t2 ⊢
   clear s23 s2
   have lr:(ss.drop (i + 1)).length≤13:=by rw [List.length_drop];omega
   refine .inl ⟨⟨_,SqL.of ed⟩,zG (K:=K) (fun m ys H'=>L2.Same H3 H'∧∃ us:List Addr,ys=us.map V.ref∧us.length=m∧All2 (fun t ab=>H' t=some (.tup [.str ab.1,.str ab.2])) us (((ss.drop (i + 1)).take m).map fun y=>(x,y))) ⟨L2.Same.refl H3,[],rfl,rfl,by simpa using All2.nil⟩ (fun m ys H' _ hp=>SqL.of (hp.1 _ _ ed)) (fun m v ys H' hv hp=>?_) fun ys H4 hp=>?_⟩
   ·obtain ⟨s4,us,rfl,hul,hA⟩:=hp
    obtain ⟨y,gy,rfl⟩:∃ y,(ss.drop (i + 1))[m]?=some y∧v=.str y:=by
     rw [List.getElem?_map] at hv
     cases e:(ss.drop (i + 1))[m]? with
     | none=>rw [e] at hv;cases hv
     | some y=>rw [e] at hv;exact ⟨y,rfl,(Option.some.inj hv).symm⟩
    have hm:m < (ss.drop (i + 1)).length:=(List.getElem?_eq_some_iff.mp gy).1
    walk_at "v"
    refine qbH ?_
    walk_at "v"
    refine vIxAt (s4 _ _ (s3 _ _ hn)) gx ?_
    walk_at "v"
    refine ⟨by show 2≤sizeLine;decide,fun u hu0=>?_⟩
    have s45:=qK (Sr H') (o:=.tup [.str x,.str y]) hu0
    have eu:upd H' u (.tup [.str x,.str y]) u=some (.tup [.str x,.str y]):=qb
    generalize upd H' u (.tup [.str x,.str y])=H5 at s45 eu ⊢
    refine ⟨by rw [List.length_map,hul];exact qq (by omega),s4.trans s45,us++[u],by rw [List.map_append];rfl,by rw [List.length_append,hul];rfl,?_⟩
    rw [List.take_add_one,gy,List.map_append]
    exact (hA.mono fun t ab z=>s45 _ _ z).snoc eu
   ·obtain ⟨s4,us,rfl,hul,hA⟩:=hp
    rw [List.length_map] at hul hA
    rw [List.take_length] at hA
    refine ⟨by rw [List.length_map,hul];exact Nat.le_of_lt (qq (by omega)),fun e he=>?_⟩
    have s45:=qK (Sr H4) (o:=.lst (us.map V.ref)) he
    have ee:upd H4 e (.lst (us.map V.ref)) e=some (.lst (us.map V.ref)):=qb
    replace hA:=hA.mono (S:=fun t ab=>upd H4 e (.lst (us.map V.ref)) t=some (.tup [.str ab.1,.str ab.2])) fun t ab z=>s45 _ _ z
    have s5:=s3.trans (s4.trans s45)
    replace t2:=t2.same (s4.trans s45)
    generalize upd H4 e (.lst (us.map V.ref))=H5 at s5 ee hA t2 ⊢
    clear s4 s45
    have htl:=t2.2.len
    have l4:(ss.drop (i + 1)).map (fun y=>(x,y))=(ss.drop (i + 1)).map fun y=>(x,y):=rfl
    walk_at "v"
    refine ⟨l,e,_,_,rfl,rfl,t2.1,ee,Nat.le_trans (show _≤1000 by rw [List.length_map,List.length_map,hul];omega) (by decide),?_⟩
    rw [← List.map_append]
    refine ⟨qfl s5 hl,ts++us,_,_,rfl,t2.put (t2.2.app hA),?_,?_,fun ab hab=>?_⟩
    ·rw [List.length_append,List.length_map]
     omega
    ·refine List.nodup_append.mpr ⟨nd,?_,fun ab h cd h2 e=>?_⟩
     ·exact List.Pairwise.map (fun y=>(x,y)) (fun a b h e=>h (congrArg Prod.snd e)) (hO.nd.sublist (List.drop_sublist _ _))
     ·subst e
      obtain ⟨j,k,h1,h2',h3,h4⟩:=ok _ h
      obtain ⟨y,_,rfl⟩:=List.mem_map.mp h2
      have e1:j=i:=qI hO.nd h2' gx
      omega
    ·rcases List.mem_append.mp hab with h | h
     ·obtain ⟨j,k,h1,h2,h3,h4⟩:=ok ab h
      exact ⟨j,k,h1,h2,h3,by omega⟩
     ·obtain ⟨y,hy,rfl⟩:=List.mem_map.mp h
      obtain ⟨k,hk⟩:=List.getElem?_of_mem hy
      rw [List.getElem?_drop] at hk
      exact ⟨i,i + 1 + k,by omega,gx,hk,by omega⟩
  ·obtain ⟨s2,ts,pps,x3,rfl,t2,l14,nd,ok⟩:=hp
   have htl:=t2.2.len
   have l196:pps.length≤196:=by omega
   walk_at "v"
   refine qaq t2.1 ?_
   rw [List.length_map]
   walk_at "v"
   refine ⟨_,_,rfl,?_⟩
   obtain ⟨m,hm,m30,mL⟩:∃ m:Nat,(if (ts.length:Int) < 30 then (ts.length:Int) else 30)=(m:Int)∧m≤30∧m≤ts.length:=by
    split
    ·exact ⟨ts.length,rfl,by omega,Nat.le_refl _⟩
    ·exact ⟨30,rfl,by omega,by omega⟩
   rw [hm]
   walk_at "v"
   refine ⟨by show 1≤sizeLine;decide,fun b1 hb1=>?_⟩
   have s23:=qK (Sr H2) (o:=.lst [.int ((m:Int) + 1)]) hb1
   have eb1:upd H2 b1 (.lst [.int ((m:Int) + 1)]) b1=some (.lst [.int ((m:Int) + 1)]):=qb
   replace t2:=t2.same s23
   have s3:=s2.trans s23
   generalize upd H2 b1 (.lst [.int ((m:Int) + 1)])=H3 at s3 eb1 t2 ⊢
   clear s23 s2
   walk_at "v"
   refine ⟨m,rfl,by omega,by omega,qbw (lo:=0) (fun i ys H'=>L2.Same H3 H'∧ys=((List.range i).map fun k:Nat=>(2 * ((ts.length:Int) - (k:Int)))).map V.int) ⟨L2.Same.refl H3,rfl⟩ (fun i ys H' hi hp=>?_) fun ys H4 hp=>?_⟩
   ·obtain ⟨s4,rfl⟩:=hp
    walk_at "v"
    refine qbH ?_
    walk_at "v"
    refine qaq (s4 _ _ t2.1) ?_
    rw [List.length_map]
    walk_at "v"
    rw [Int.zero_add]
    refine qee (.inl ⟨by decide,by decide⟩) ?_
    have hi:i < m:=by omega
    refine ⟨by rw [List.length_map,List.length_map,List.length_range];exact qq (by omega),s4,?_⟩
    rw [List.range_succ,List.map_append,List.map_append]
    rfl
   ·obtain ⟨s4,rfl⟩:=hp
    rw [Int.toNat_natCast]
    refine ⟨by rw [List.length_map,List.length_map,List.length_range];exact Nat.le_of_lt (qq (by omega)),fun b2 hb2=>?_⟩
    generalize hbs:((List.range m).map fun k:Nat=>(2 * ((ts.length:Int) - (k:Int))))=bs
    have s45:=qK (Sr H4) (o:=.lst (bs.map V.int)) hb2
    have eb2:upd H4 b2 (.lst (bs.map V.int)) b2=some (.lst (bs.map V.int)):=qb
    replace t2:=t2.same (s4.trans s45)
    replace eb1:=(s4.trans s45) _ _ eb1
    have s5:=s3.trans (s4.trans s45)
    generalize upd H4 b2 (.lst (bs.map V.int))=H5 at s5 eb1 eb2 t2 ⊢
    clear s45 s4 s3
    have hbl:bs.length=m:=by rw [← hbs,List.length_map,List.length_range]
    refine .inl ⟨b1,b2,_,_,rfl,rfl,eb1,eb2,Nat.le_trans (show _≤1000 by rw [List.length_map,hbl];show 1 + m≤1000;omega) (by decide),fun b3 hb3=>?_⟩
    have e3:[V.int ((m:Int) + 1)]++bs.map V.int=(((m:Int) + 1)::bs).map V.int:=rfl
    rw [e3]
    have s56:=qK (Sr H5) (o:=.lst ((((m:Int) + 1)::bs).map V.int)) hb3
    have eb3:upd H5 b3 (.lst ((((m:Int) + 1)::bs).map V.int)) b3=some (.lst ((((m:Int) + 1)::bs).map V.int)):=qb
    replace t2:=t2.same s56
    have s6:=s5.trans s56
    generalize upd H5 b3 (.lst ((((m:Int) + 1)::bs).map V.int))=H6 at s6 eb3 t2 ⊢
    clear s56 s5 e3 eb1 eb2
    walk_at "v"
    refine ⟨b3,_,_,((m:Int) + 1)::bs,rfl,eb3,by decide,by decide,by rw [List.length_cons];omega,fun x hx=>?_,fun nl ns H7 s67 hnl0 hns hnsl hnb=>?_⟩
    ·rcases List.mem_cons.mp hx with rfl | hx
     ·omega
     ·rw [← hbs] at hx
      obtain ⟨k,hk,rfl⟩:=List.mem_map.mp hx
      have:=List.mem_range.mp hk
      omega
    replace t2:=t2.same s67
    have s7:=s6.trans s67
    clear s6 eb3
    walk_at "v"
    refine ⟨by decide,fun fl hfl=>?_⟩
    have s78:=qK (Sr H7) (o:=.lst []) hfl
    have f8:PL (upd H7 fl (.lst [])) fl [] []:=⟨qb,All2.nil⟩
    have nfl:l≠fl:=qy t2.1 hfl
    have hfl0:H fl=none:=s7.free hfl
    replace t2:=t2.same s78
    replace hns:=s78 _ _ hns
    have s8:=s7.trans s78
    generalize upd H7 fl (.lst [])=H8 at s8 f8 t2 hns ⊢
    clear s78 s7 s67
    walk_at "v"
    refine vIxN (b:=(m:Int) + 1) hns hnsl hnb (by decide) rfl fun n0 n00 n0m=>?_
    obtain ⟨k0,rfl⟩:=Int.eq_ofNat_of_zero_le n00
    walk_at "v"
    refine .inl ⟨nl,_,rfl,SqL.of hns,fun c1 hc1=>?_⟩
    rw [List.length_cons,hbl] at hnsl
    have ecut:((1 + k0:Nat):Int)=1 + (k0:Int):=by omega
    have cm1:∀ (i:Nat) v,(qaP (ns.map V.int) (some 1) (some (1 + (k0:Int))))[i]?=some v→∃ x:Int,v=.int x∧0≤x∧x < 2 * ((ts.length:Int) - i)∧i < k0:=fun i v hv=>by
     have hv':(qaP (ns.map V.int) (some ((1:Nat):Int)) (some ((1 + k0:Nat):Int)))[i]?=some v:=by rw [ecut];exact hv
     obtain ⟨h1,h2⟩:=cut_at (by rw [List.length_map,hnsl];omega) hv'
     rw [List.getElem?_map] at h1
     cases e:ns[1 + i]? with
     | none=>rw [e] at h1;cases h1
     | some x =>
      rw [e] at h1
      cases h1
      have hi:i < m:=by omega
      have eb:(((m:Int) + 1)::bs)[1 + i]?=some (2 * ((ts.length:Int) - i)):=by
       rw [Nat.add_comm 1 i,List.getElem?_cons_succ,← hbs,List.getElem?_map,List.getElem?_range hi]
       rfl
      obtain ⟨r1,r2⟩:=hnb _ _ _ e eb
      exact ⟨x,rfl,r1,r2,by omega⟩
    generalize qaP (ns.map V.int) (some 1) (some (1 + (k0:Int)))=cs at cm1 ⊢
    have cl:cs.length≤k0:=by
     refine Nat.le_of_not_lt fun h=>?_
     obtain ⟨x,_,_,_,z⟩:=cm1 k0 _ (List.getElem?_eq_getElem h)
     omega
    have s89:=qK (Sr H8) (o:=.lst cs) hc1
    have ec:upd H8 c1 (.lst cs) c1=some (.lst cs):=qb
    have nlc:c1≠l:=fun e=>by rw [e,t2.1] at hc1;cases hc1
    have nfc:c1≠fl:=fun e=>by rw [e,f8.1] at hc1;cases hc1
    replace t2:=t2.same s89
    replace f8:=f8.same s89
    have s9:=s8.trans s89
    generalize upd H8 c1 (.lst cs)=H9 at s9 f8 t2 ec ⊢
    clear s89 s8 hns
    walk_at "v"
    refine .inl ⟨⟨_,SqL.of ec⟩,jO (K:=K) (fun i σ H'=>L2.Same H H'∧H' c1=some (.lst cs)∧∃ (us vs:List Addr) (qps tps ups:List (Str×Str)) (x8 x9 x10:Option V),σ=[some (.ref n),some (.int c),some (.ref l),x3,some (.int (m:Int)),some (.ref b3),some (.ref nl),some (.ref fl),x8,x9,x10]∧PL H' l us qps∧PL H' fl vs ups∧us.length + i=ts.length∧vs.length=i∧All2 (fun a b=>b=a∨b=(a.2,a.1)) tps ups∧(tps++qps).Perm pps)
     ⟨s9,ec,ts,[],pps,[],[],none,none,none,rfl,t2,f8,rfl,rfl,All2.nil,.refl _⟩ (fun i σ H' _ hp=>SqL.of hp.2.1) (fun i v σ J hv hp=>?_) fun σ J hp=>?_⟩
    ·obtain ⟨sJ,eJ,us,vs,qps,tps,ups,x8,x9,x10,rfl,tJ,fJ,lJ,lV,hA,hP⟩:=hp
     obtain ⟨x,rfl,x0,x1,ik⟩:=cm1 i v hv
     have ltq:=tJ.2.len
     obtain ⟨kk,hkk⟩:∃ kk:Nat,x / 2=(kk:Int):=⟨(x / 2).toNat,by omega⟩
     have hk:kk < us.length:=by omega
     have hkq:kk < qps.length:=by omega
     walk_at "v"
     refine vAsgT ?_
     walk_at "v"
     refine ⟨.inl ⟨rfl,_,SqL.of tJ.1⟩,?_⟩
     walk_at "v"
     refine vI ⟨by decide,by decide⟩ ?_
     rw [hkk]
     walk_at "v"
     have gk:(us.map V.ref)[kk]?=some (.ref us[kk]):=by rw [List.getElem?_map,List.getElem?_eq_getElem hk];rfl
     refine ⟨l,_,_,kk,_,rfl,rfl,tJ.1,by omega,by omega,(qcI (qcV (by rw [List.length_map];exact hk))).1,gk,?_⟩
     have pk:=tJ.2.at_ kk us[kk] qps[kk] (List.getElem?_eq_getElem hk) (List.getElem?_eq_getElem hkq)
     have hPe:=qbC qps kk hkq
     rw [qcy]
     have t3:PL (upd J l (.lst ((us.eraseIdx kk).map V.ref))) l (us.eraseIdx kk) (qps.eraseIdx kk):=tJ.put (tJ.2.erase kk)
     have f3:=fJ.other (ys:=(us.eraseIdx kk).map V.ref) nfl.symm tJ.1
     have p3:upd J l (.lst ((us.eraseIdx kk).map V.ref)) us[kk]=some (.tup [.str qps[kk].1,.str qps[kk].2]):=by rw [qk (zo pk tJ.1 (by intro z;cases z))];exact pk
     have c3:upd J l (.lst ((us.eraseIdx kk).map V.ref)) c1=some (.lst cs):=by rw [qk nlc];exact eJ
     have s3:=qfl (o:=.lst ((us.eraseIdx kk).map V.ref)) sJ hl
     have hlen:(us.eraseIdx kk).length=us.length - 1:=List.length_eraseIdx_of_lt hk
     generalize upd J l (.lst ((us.eraseIdx kk).map V.ref))=J3 at t3 f3 p3 c3 s3 ⊢
     generalize qps[kk]=ab at p3 hPe
     obtain ⟨a,b⟩:=ab
     refine ⟨_,_,rfl,SqT.of p3,rfl,_,_,rfl,_,_,rfl,rfl,?_⟩
     walk_at "v"
     refine ⟨.inl ⟨rfl,_,SqL.of f3.1⟩,?_⟩
     walk_at "v"
     refine ⟨by show 2≤sizeLine;decide,fun u1 h1=>?_⟩
     have s34:=qK (Sr J3) (o:=.tup [.str a,.str b]) h1
     have e1:upd J3 u1 (.tup [.str a,.str b]) u1=some (.tup [.str a,.str b]):=qb
     generalize upd J3 u1 (.tup [.str a,.str b])=J4 at s34 e1 ⊢
     walk_at "v"
     refine ⟨by show 2≤sizeLine;decide,fun u2 h2=>?_⟩
     have s45:=qK (Sr J4) (o:=.tup [.str b,.str a]) h2
     have e2:upd J4 u2 (.tup [.str b,.str a]) u2=some (.tup [.str b,.str a]):=qb
     generalize upd J4 u2 (.tup [.str b,.str a])=J5 at s45 e2 ⊢
     walk_at "v"
     refine ⟨by show 2≤sizeLine;decide,fun w1 h3=>?_⟩
     have s56:=qK (Sr J5) (o:=.lst [.ref u1,.ref u2]) h3
     have e3:upd J5 w1 (.lst [.ref u1,.ref u2]) w1=some (.lst [.ref u1,.ref u2]):=qb
     generalize upd J5 w1 (.lst [.ref u1,.ref u2])=J6 at s56 e3 ⊢
     have s36:=s34.trans (s45.trans s56)
     walk_at "v"
     refine vI (by decide) ?_
     have r1:=Int.emod_nonneg x (show (2:Int)≠0 by decide)
     have r2:=Int.emod_lt_of_pos x (show (0:Int) < 2 by decide)
     have fin:∀ (y8 y9 y10:Option V) (u:Addr) (cd:Str×Str),J6 u=some (.tup [.str cd.1,.str cd.2])→(cd=(a,b)∨cd=(b,a))→qcK (.ref fl) [.ref u] J6 fun _ J7=>L2.Same H J7∧J7 c1=some (.lst cs)∧∃ (us vs:List Addr) (qps tps ups:List (Str×Str)) (x8 x9 x10:Option V),[some (.ref n),some (.int c),some (.ref l),x3,some (.int (m:Int)),some (.ref b3),some (.ref nl),some (.ref fl),y8,y9,y10]=[some (.ref n),some (.int c),some (.ref l),x3,some (.int (m:Int)),some (.ref b3),some (.ref nl),some (.ref fl),x8,x9,x10]∧PL J7 l us qps∧PL J7 fl vs ups∧us.length + (i + 1)=ts.length∧vs.length=i + 1∧All2 (fun a b=>b=a∨b=(a.2,a.1)) tps ups∧(tps++qps).Perm pps:=fun y8 y9 y10 u cd hu hcd=>by
      have f6:=f3.same s36
      have t6:=t3.same s36
      refine ⟨fl,_,_,rfl,rfl,f6.1,by rw [List.length_map,lV];exact qq (by omega),?_⟩
      rw [show vs.map V.ref++[V.ref u]=(vs++[u]).map V.ref by rw [List.map_append];rfl]
      refine ⟨qfl (s3.trans s36) hfl0,by rw [qk nfc];exact s36 _ _ c3,us.eraseIdx kk,vs++[u],qps.eraseIdx kk,tps++[(a,b)],ups++[cd],_,_,_,rfl,t6.other nfl f6.1,f6.put (f6.2.snoc hu),by omega,by rw [List.length_append,lV];rfl,hA.snoc hcd,?_⟩
      rw [List.append_assoc]
      exact (List.Perm.append_left tps hPe).trans hP
     have hr2:x % 2=0∨x % 2=1:=by omega
     rcases hr2 with e | e
     ·rw [e]
      exact .inl (zT (v:=.ref u1) e3 (qJ (j:=0) rfl) (fin _ _ _ u1 (a,b) (s56 _ _ (s45 _ _ e1)) (.inl rfl)))
     ·rw [e]
      exact .inl (zT (v:=.ref u2) e3 (qJ (j:=1) rfl) (fin _ _ _ u2 (b,a) (s56 _ _ e2) (.inr rfl)))
    ·obtain ⟨sJ,eJ,us,vs,qps,tps,ups,x8,x9,x10,rfl,tJ,fJ,lJ,lV,hA,hP⟩:=hp
     walk_at "v"
     have ltp:=hA.len
     have lup:=fJ.2.len
     refine q fl vs tps ups J sJ hfl0 fJ ⟨by omega,fun ab hab=>?_,?_⟩ ⟨ups,.refl _,hA⟩
     ·obtain ⟨j,k,h1,h2,h3,_⟩:=ok ab (hP.subset (List.mem_append_left _ hab))
      exact ⟨j,k,h1,h2,h3⟩
     ·exact (List.nodup_append.mp (hP.nodup_iff.mpr nd)).1
theorem sc_l_tied:FnScope ["_law_ties_here", "_law_one", "_law_other"] ["_law_ties_here", "_law_one", "_law_other"] (qd qaf):=fS
def tiB (ups:List (Str×Str)) (a b:Str):Bool:=decide ((a,b)∈ups)||decide ((b,a)∈ups)
def qhv:Sp:=fun vs H Q _=>∃ (l:Addr) (ts:List Addr) (ups:List (Str×Str)) (a b:Str),vs=[.ref l,.str a,.str b]∧PL H l ts ups∧∀ H',L2.Same H H'→Q (.bl (tiB ups a b)) H'
theorem ok_tdB (F:Fun K "_law_tied" "_law_tied" qaf f fd):FnOk P w K mg base CX0 1 f fd ["_law_ties_here", "_law_one", "_law_other"] qhv:=by
 refine F.ok sc_l_tied (fun vs H Q E h=>?_) fun cdv A outer s H vs Q E hr h=>?_
 ·obtain ⟨l,ts,ups,a,b,rfl,_⟩:=h;rfl
 ·obtain ⟨l,ts,ups,a,b,rfl,hl,q⟩:=h
  have hu:=zH hr
  unfold tiB at q
  refine ⟨_,(qe (qh (pe_or (jP (qem (K:=K) rfl hu) (zQ (qa (pv 1) (qa (pv 2) qc))) (pv 0) (by with_unfolding_all rfl)) (qbr (jP (qem (K:=K) rfl hu) (zQ (qa (pv 2) (qa (pv 1) qc))) (pv 0) (by with_unfolding_all rfl)))))),?_⟩
  walk_at "v"
  refine ⟨by show 2≤sizeLine;decide,fun t ht=>?_⟩
  have s1:=qK (Sr H) (o:=.tup [.str a,.str b]) ht
  have e1:upd H t (.tup [.str a,.str b]) t=some (.tup [.str a,.str b]):=qb
  generalize upd H t (.tup [.str a,.str b])=H1 at s1 e1 ⊢
  walk_at "v"
  refine qgq (hl.same s1) e1 ?_
  walk_at "v"
  refine qY (fun h=>?_) fun h=>?_
  ·rw [h] at q
   exact q _ s1
  ·have h:decide ((a,b)∈ups)=false:=by simpa using h
   rw [h] at q
   walk_at "v"
   refine ⟨by show 2≤sizeLine;decide,fun t2 ht2=>?_⟩
   have s2:=qK s1 (o:=.tup [.str b,.str a]) ht2
   have e2:upd H1 t2 (.tup [.str b,.str a]) t2=some (.tup [.str b,.str a]):=qb
   generalize upd H1 t2 (.tup [.str b,.str a])=H2 at s2 e2 ⊢
   walk_at "v"
   refine qgq (hl.same s2) e2 ?_
   exact q _ s2
theorem sc_Walk_init:FnScope ["self", "web", "start"] ["self", "web", "start"] (qd jG):=fS
theorem sc_Walk_stands_at:FnScope ["self"] ["self"] (qd qU):=fS
theorem sc_Walk_gone:FnScope ["self"] ["self"] (qd jZ):=fS
theorem sc_Walk_hand:FnScope ["self"] ["self"] (qd j0):=fS
def PlayAt (cp cw:Addr) (H:Hp) (x b p:Addr) (ss:List Str) (ns:List Nat) (tr:List Str):Prop:=∃ dx,H x=some (.ins cp dx (jv "path" (.ref p) (jv "board" (.ref b) [])))∧H p=some (.lst (tr.map V.str))∧WebAt cw H b ss ns
theorem PlayAt.same {cp cw x b p:Addr} {H H':Hp} {ss:List Str} {ns:List Nat} {tr:List Str} (h:PlayAt cp cw H x b p ss ns tr) (s:L2.Same H H'):PlayAt cp cw H' x b p ss ns tr:=by
 obtain ⟨dx,h1,h2,h3⟩:=h
 exact ⟨dx,s _ _ h1,s _ _ h2,h3.same s⟩
theorem zd {p b:Addr}:List.lookup ("path":Str) (jv "path" (V.ref p) (jv "board" (V.ref b) []))=some (V.ref p):=by rw [qv,if_pos rfl]
theorem qbT {p b:Addr}:List.lookup ("board":Str) (jv "path" (V.ref p) (jv "board" (V.ref b) []))=some (V.ref b):=by rw [qv,if_neg (by decide +kernel),qv,if_pos rfl]
theorem WebAt.but {cw b x c dx:Addr} {fs:List (Str×V)} {H H':Hp} {ss:List Str} {ns:List Nat} (h:WebAt cw H b ss ns) (hx:H x=some (.ins c dx fs)) (ne:b≠x) (k:But x H H'):WebAt cw H' b ss ns:=by
 obtain ⟨wx,d,ol,n,h1,h2,h3,h4,h5⟩:=h
 exact ⟨wx,d,ol,n,k _ _ ne h1,k _ _ (zo h2 hx (by intro z;cases z)) h2,k _ _ (zo h3 hx (by intro z;cases z)) h3,k _ _ (zo h4 hx (by intro z;cases z)) h4,h5⟩
def qeS (cc:Nat→Addr) (cw:Addr):Sp:=fun vs H Q _=>∃ (x dx b:Addr) (st:Str) (ss:List Str) (ns:List Nat),vs=[.ref x,.ref b,.str st]∧H x=some (.ins (cc 9) dx [])∧WebAt cw H b ss ns∧st∈ss∧∀ (p:Addr) (H':Hp),But x H H'→H p=none→PlayAt (cc 9) cw H' x b p ss ns [st]→Q .non H'
theorem ok_wkI (F:Fun K "__init__" "Walk.__init__" jG f fd) (T:Txt K mg cc cw) (D_Web_has_place:MethOk P w K mg base CX0 3 cw "has_place" ["self", "thing"] (qew cw)):FnOk P w K mg base CX0 5 f fd ["self", "web", "start"] (qeS cc cw):=by
 refine F.ok sc_Walk_init (fun vs H Q E h=>?_) fun cdv A outer s H vs Q E hr h=>?_
 ·obtain ⟨x,dx,b,st,ss,ns,rfl,_⟩:=h;rfl
 ·obtain ⟨x,dx,b,st,ss,ns,rfl,hx,hW,hst,q⟩:=h
  have hu:=zH hr
  refine ⟨_,(qf (qN (jC (jj (j6 D_Web_has_place (hm hr) (pv 1) (qa (pv 2) qc)))) (qe zZ) qo)
 (qf (jQ (K:=K) rfl (pv 0) (pv 1) rfl)
 (qe (jQ (K:=K) rfl (pv 0) (qA (qa (pv 2) qc)) rfl)))),?_⟩
  obtain ⟨wx,d,ol,n,hb,_,_,_,hw⟩:=id hW
  have hnm:=hw.nm _ hst
  have nbx:b≠x:=fun e=>by subst e;rw [hx] at hb;injection hb with hb;injection hb with _ _ hb;cases hb
  walk_at "v"
  refine ⟨b,wx,_,rfl,hb,qaV (by decide +kernel),?_⟩
  walk_at "v"
  refine ⟨x,0,b,ss,ns,.str st,rfl,hW,Th.flat rfl (fun z e=>by cases e;have:=jg hnm;omega),fun H1 s1=>?_⟩
  rw [qac hst hnm]
  walk_at "v"
  refine qY (fun h=>by cases h) fun _=>?_
  walk_at "v"
  refine .inl ⟨x,cc 9,dx,[],rfl,s1 _ _ hx,T.pcl,T.pb,by decide,?_⟩
  have b1:=((But.refl x H).same s1).put (o:=.ins (cc 9) dx (jv "board" (.ref b) []))
  have hx1:upd H1 x (.ins (cc 9) dx (jv "board" (.ref b) [])) x=some (.ins (cc 9) dx (jv "board" (.ref b) [])):=qb
  generalize upd H1 x (.ins (cc 9) dx (jv "board" (.ref b) []))=H2 at b1 hx1 ⊢
  walk_at "v"
  refine ⟨by show 1≤sizeLine;decide,fun p hp=>?_⟩
  have npx:p≠x:=fun e=>by rw [e,hx1] at hp;cases hp
  have hp0:H p=none:=by
   cases e:H p with
   | none=>rfl
   | some o=>rw [b1 p o npx e] at hp;cases hp
  have b2:=b1.new (o:=.lst [.str st]) hp
  have hx2:upd H2 p (.lst [.str st]) x=some (.ins (cc 9) dx (jv "board" (.ref b) [])):=by rw [qk npx.symm];exact hx1
  have ep:upd H2 p (.lst [.str st]) p=some (.lst [.str st]):=qb
  generalize upd H2 p (.lst [.str st])=H3 at b2 hx2 ep ⊢
  walk_at "v"
  refine .inl ⟨x,cc 9,dx,_,rfl,hx2,T.pcl,T.pp,Nat.lt_of_le_of_lt (jU _ _ _) (by decide),?_⟩
  have b3:=b2.put (o:=.ins (cc 9) dx (jv "path" (.ref p) (jv "board" (.ref b) [])))
  exact q p _ b3 hp0 ⟨dx,qb,by rw [qk npx];exact ep,hW.but hx nbx b3⟩
def qgL (cc:Nat→Addr) (cw:Addr):Sp:=fun vs H Q _=>∃ (x b p:Addr) (ss:List Str) (ns:List Nat) (tr:List Str) (z:Str),vs=[.ref x]∧PlayAt (cc 9) cw H x b p ss ns tr∧tr.getLast?=some z∧Q (.str z) H
def qfQ (cc:Nat→Addr) (cw:Addr):Sp:=fun vs H Q _=>∃ (x b p:Addr) (ss:List Str) (ns:List Nat) (tr:List Str),vs=[.ref x]∧PlayAt (cc 9) cw H x b p ss ns tr∧∀ l,H l=none→Q (.ref l) (upd H l (.lst (tr.map V.str)))
def qgr (cc:Nat→Addr) (cw:Addr):Sp:=fun vs H Q _=>∃ (x b p:Addr) (ss:List Str) (ns:List Nat) (tr:List Str),vs=[.ref x]∧PlayAt (cc 9) cw H x b p ss ns tr∧Q (.int (((tr.length:Int) - 1) % 2)) H
theorem qcY {xs:List Str} {z:Str} (h:xs.getLast?=some z):atI (xs.map V.str) (-1)=some (.str z):=by
 have e:(xs.map V.str).getLast?=some (.str z):=by rw [List.getLast?_map,h];rfl
 rw [List.getLast?_eq_getElem?] at e
 have hl:=(List.getElem?_eq_some_iff.mp e).1
 unfold atI ixN
 rw [if_neg (by decide),if_pos (by omega)]
 have e2:(-1 + ((xs.map V.str).length:Int)).toNat=(xs.map V.str).length - 1:=by omega
 show (xs.map V.str)[(-1 + ((xs.map V.str).length:Int)).toNat]?=_
 rw [e2]
 exact e
theorem ok_ps (F:Fun K "stands_at" "Walk.stands_at" qU f fd) (T:Txt K mg cc cw):FnOk P w K mg base CX0 1 f fd ["self"] (qgL cc cw):=by
 refine F.ok sc_Walk_stands_at (fun vs H Q E h=>?_) fun cdv A outer s H vs Q E hr h=>?_
 ·obtain ⟨x,b,p,ss,ns,tr,z,rfl,_⟩:=h;rfl
 ·obtain ⟨x,b,p,ss,ns,tr,z,rfl,⟨dx,hx,hp,hW⟩,hz,q⟩:=h
  have hu:=zH hr
  refine ⟨_,(qe (qh (qO (qP (K:=K) rfl hu) (qQ (K:=K) rfl (pv 0) rfl) (qdJ qbs qg) (fun _ _=>rfl)))),?_⟩
  walk_at "v"
  refine .inl ⟨x,cc 9,dx,_,.ref p,rfl,hx,T.pcl,T.pp,zd,?_⟩
  walk_at "v"
  refine vU ?_
  exact .inl (zT hp (qcY hz) q)
theorem ok_pgn (F:Fun K "gone" "Walk.gone" jZ f fd) (T:Txt K mg cc cw):FnOk P w K mg base CX0 1 f fd ["self"] (qfQ cc cw):=by
 refine F.ok sc_Walk_gone (fun vs H Q E h=>?_) fun cdv A outer s H vs Q E hr h=>?_
 ·obtain ⟨x,b,p,ss,ns,tr,rfl,_⟩:=h;rfl
 ·obtain ⟨x,b,p,ss,ns,tr,rfl,⟨dx,hx,hp,hW⟩,q⟩:=h
  refine ⟨_,(qe (qh (zF (qbN (K:=K) rfl rfl) rfl T.b_list boot_list (qa (qQ (K:=K) rfl (pv 0) rfl) qc)))),?_⟩
  walk_at "v"
  refine .inl ⟨x,cc 9,dx,_,.ref p,rfl,hx,T.pcl,T.pp,zd,?_⟩
  walk_at "v"
  exact .inl ⟨p,_,rfl,.inl (SqL.of hp),q⟩
theorem ok_ph (F:Fun K "hand" "Walk.hand" j0 f fd) (T:Txt K mg cc cw):FnOk P w K mg base CX0 1 f fd ["self"] (qgr cc cw):=by
 refine F.ok sc_Walk_hand (fun vs H Q E h=>?_) fun cdv A outer s H vs Q E hr h=>?_
 ·obtain ⟨x,b,p,ss,ns,tr,rfl,_⟩:=h;rfl
 ·obtain ⟨x,b,p,ss,ns,tr,rfl,⟨dx,hx,hp,hW⟩,q⟩:=h
  refine ⟨_,(qe (qh (qu ze (qu qc7 (qm (jW (K:=K) rfl) rfl T.b_len boot_len (qa (qQ (K:=K) rfl (pv 0) rfl) qc)) qg) qg))),?_⟩
  walk_at "v"
  refine .inl ⟨x,cc 9,dx,_,.ref p,rfl,hx,T.pcl,T.pp,zd,?_⟩
  walk_at "v"
  refine qaq hp ?_
  rw [List.length_map]
  walk_at "v"
  exact vI (by decide) q
theorem sc_Walk_move_to:FnScope ["self", "thing"] ["self", "thing"] (qd qX):=fS
theorem sc_Walk_back:FnScope ["self"] ["self"] (qd jH):=fS
theorem sc_Play_moves:FnScope ["self"] ["self"] (qd jt):=fS
theorem sc_Play_not_gone:FnScope ["self", "names"] ["self", "names"] (qd qF):=fS
theorem sc_Play_go:FnScope ["self", "name"] ["self", "name"] (qd zc):=fS
def ngS (tr xs:List Str):List Str:=xs.filter fun o=>!decide (o∈tr)
def mvS (ss:List Str) (ns:List Nat) (tr:List Str) (z:Str):List Str:=ngS tr (inB ss 0 (ns.getD (ss.idxOf z) 0))
def qgM (cc:Nat→Addr) (cw:Addr):Sp:=fun vs H Q _=>∃ (x b p l:Addr) (ss:List Str) (ns:List Nat) (tr xs:List Str),vs=[.ref x,.ref l]∧PlayAt (cc 9) cw H x b p ss ns tr∧H l=some (.lst (xs.map V.str))∧xs.length≤14∧∀ r,H r=none→Q (.ref r) (upd H r (.lst ((ngS tr xs).map V.str)))
def qeI (cc:Nat→Addr) (cw:Addr):Sp:=fun vs H Q _=>∃ (x b p:Addr) (ss:List Str) (ns:List Nat) (tr:List Str) (z:Str),vs=[.ref x]∧PlayAt (cc 9) cw H x b p ss ns tr∧tr.getLast?=some z∧z∈ss∧∀ (r:Addr) (H':Hp),L2.Same H H'→H r=none→H' r=some (.lst ((mvS ss ns tr z).map V.str))→Q (.ref r) H'
def qbq (cc:Nat→Addr) (cw:Addr):Sp:=fun vs H Q _=>∃ (x b p:Addr) (ss:List Str) (ns:List Nat) (tr:List Str) (z v:Str),vs=[.ref x,.str v]∧PlayAt (cc 9) cw H x b p ss ns tr∧tr.length≤100∧tr.getLast?=some z∧z∈ss∧v∈mvS ss ns tr z∧∀ H',But p H H'→H' p=some (.lst ((tr++[v]).map V.str))→Q .non H'
def qhw (cc:Nat→Addr) (cw:Addr):Sp:=fun vs H Q _=>∃ (x b p:Addr) (ss:List Str) (ns:List Nat) (tr:List Str) (z:Str),vs=[.ref x]∧PlayAt (cc 9) cw H x b p ss ns (tr++[z])∧tr≠[]∧tr.length≤100∧Q (.str z) (upd H p (.lst (tr.map V.str)))
theorem jc {f:Str} {p b:V} (h:(f=="path"||f=="board")=false:=by decide +kernel):List.lookup f (jv "path" p (jv "board" b []))=none:=by
 simp only [Bool.or_eq_false_iff,beq_eq_false_iff_ne] at h
 rw [qv,if_neg h.1,qv,if_neg h.2]
 rfl
theorem ok_ng (F:Fun K "not_gone" "Play.not_gone" qF f fd) (T:Txt K mg cc cw):FnOk P w K mg base CX0 1 f fd ["self", "names"] (qgM cc cw):=by
 refine F.ok sc_Play_not_gone (fun vs H Q E h=>?_) fun cdv A outer s H vs Q E hr h=>?_
 ·obtain ⟨x,b,p,l,ss,ns,tr,xs,rfl,_⟩:=h;rfl
 ·obtain ⟨x,b,p,l,ss,ns,tr,xs,rfl,⟨dx,hx,hp,hW⟩,hl,few,q⟩:=h
  have hu:=zH hr
  refine ⟨_,(qe (qh (qap (sc:=qd qF) (XN:=["self", "names"]) ["name", "self"] 1 [0] rfl rfl rfl (by decide +kernel) rfl (by decide +kernel)
  (j9 (K:=K) rfl (pv 1)) (fun _ _ _ _=>(qt (i:=0) (show (["name", "self"]:List Str).Nodup by decide +kernel) rfl (Or.inl rfl))) zC
  (fun _ _ _ _=>(qaF (qp (zg (K:=K) rfl hu) (pv 0) (qQ (K:=K) rfl (pv 1) rfl) (by with_unfolding_all rfl))))
  (fun _ _ _ _=>(pv 0))))),?_⟩
  walk_at "v"
  refine .inl ⟨⟨_,SqL.of hl⟩,zG (K:=K) (fun m ys H'=>H'=H∧ys=(ngS tr (xs.take m)).map V.str) ⟨rfl,rfl⟩ (fun m ys H' _ hp=>by rw [hp.1];exact SqL.of hl) (fun m y ys H' hy hp'=>?_) fun ys H' hp'=>?_⟩
  ·obtain ⟨rfl,rfl⟩:=hp'
   obtain ⟨o,gm,rfl⟩:=ji hy
   have htk:xs.take (m + 1)=xs.take m++[o]:=by rw [List.take_add_one,gm];rfl
   have fewY:((ngS tr (xs.take m)).map V.str).length < sizeLine:=by
    rw [List.length_map]
    exact qq (Nat.le_trans (List.length_filter_le _ _) (by rw [List.length_take];omega))
   have enx:ngS tr (xs.take (m + 1))=ngS tr (xs.take m)++(if (!decide (o∈tr))=true then [o] else []):=by
    unfold ngS
    rw [htk,List.filter_append,List.filter_cons]
    rfl
   rw [enx,List.map_append]
   walk_at "v"
   refine .inl ⟨x,cc 9,dx,_,.ref p,rfl,hx,T.pcl,T.pp,zd,?_⟩
   refine .inl ⟨p,_,rfl,.inl (SqL.of hp),rfl,jS _,?_⟩
   rw [zO]
   walk_at "v"
   refine qY (fun h=>?_) fun h=>?_
   ·walk_at "v"
    refine ⟨fewY,rfl,?_⟩
    have h:(!decide (o∈tr))=true:=h
    rw [if_pos h]
    rfl
   ·refine ⟨rfl,?_⟩
    have h:¬ (!decide (o∈tr))=true:=h
    rw [if_neg h]
    simp
  ·obtain ⟨rfl,rfl⟩:=hp'
   have etl:xs.take (xs.map V.str).length=xs:=by rw [List.length_map,List.take_length]
   rw [etl]
   exact ⟨by rw [List.length_map];exact Nat.le_of_lt (qq (Nat.le_trans (List.length_filter_le _ _) (by omega))),q⟩
theorem ok_pm (F:Fun K "moves" "Play.moves" jt f fd) (T:Txt K mg cc cw) (QD_Web_beside:MethOk P w K mg base CX0 6 cw "beside" ["self", "place"] (fun vs H Q _=>qhq cc cw vs H Q E0)) (D_Walk_stands_at:MethOk P w K mg base CX0 1 (cc 9) "stands_at" ["self"] (qgL cc cw)) (D_Play_not_gone:MethOk P w K mg base CX0 1 (cc 9) "not_gone" ["self", "names"] (qgM cc cw)):FnOk P w K mg base CX0 7 f fd ["self"] (qeI cc cw):=by
 refine F.ok sc_Play_moves (fun vs H Q E h=>?_) fun cdv A outer s H vs Q E hr h=>?_
 ·obtain ⟨x,b,p,ss,ns,tr,z,rfl,_⟩:=h;rfl
 ·obtain ⟨x,b,p,ss,ns,tr,z,rfl,hP,hz,hzs,q⟩:=h
  obtain ⟨dx,hx,hp,hW⟩:=id hP
  have hu:=zH hr
  refine ⟨_,(qe (qh (j6 D_Play_not_gone (hm hr) (pv 0) (qa (j6 QD_Web_beside (hm hr) (qQ (K:=K) rfl (pv 0) rfl) (qa (qB D_Walk_stands_at (hm hr) (pv 0)) qc)) qc)))),?_⟩
  obtain ⟨wx,d,ol,n,hb,_,_,_,hw⟩:=id hW
  have hnm:=hw.nm _ hzs
  have hix:ss[ss.idxOf z]?=some z:=by rw [List.getElem?_eq_getElem (List.idxOf_lt_length_of_mem hzs)];exact congrArg some (List.getElem_idxOf _)
  walk_at "v"
  refine ⟨x,dx,_,rfl,hx,jc,?_⟩
  walk_at "v"
  refine .inl ⟨x,cc 9,dx,_,.ref b,rfl,hx,T.pcl,T.pb,qbT,?_⟩
  walk_at "v"
  refine ⟨b,wx,_,rfl,hb,qaV (by decide +kernel),?_⟩
  walk_at "v"
  refine ⟨x,dx,_,rfl,hx,jc,?_⟩
  walk_at "v"
  refine ⟨x,b,p,ss,ns,tr,z,rfl,hP,hz,?_⟩
  walk_at "v"
  refine ⟨x,0,b,ss,ns,.str z,rfl,hW,Th.flat rfl (fun z e=>by cases e;have:=jg hnm;omega),(fun e=>by rw [qac hzs hnm] at e;cases e),fun j hj _ H1 s1 l hl=>?_⟩
  have ej:j=ss.idxOf z:=qI hw.nd hj hix
  subst ej
  have s12:=qK (Sr H1) (o:=.lst ((inB ss 0 (ns.getD (ss.idxOf z) 0)).map V.str)) hl
  have el:upd H1 l (.lst ((inB ss 0 (ns.getD (ss.idxOf z) 0)).map V.str)) l=some (.lst ((inB ss 0 (ns.getD (ss.idxOf z) 0)).map V.str)):=qb
  have s2:=s1.trans s12
  generalize upd H1 l (.lst ((inB ss 0 (ns.getD (ss.idxOf z) 0)).map V.str))=H2 at s2 el ⊢
  have few:=hw.few
  have hil:(inB ss 0 (ns.getD (ss.idxOf z) 0)).length≤ss.length:=qau _ _ _
  walk_at "v"
  refine ⟨x,b,p,l,ss,ns,tr,_,rfl,hP.same s2,el,by omega,fun r hr0=>?_⟩
  exact q r _ (qK s2 hr0) (s2.free hr0) qb
theorem ok_mvt (F:Fun K "move_to" "Walk.move_to" qX f fd) (T:Txt K mg cc cw) (D_Play_moves:MethOk P w K mg base CX0 7 (cc 9) "moves" ["self"] (qeI cc cw)):FnOk P w K mg base CX0 8 f fd ["self", "thing"] (qbq cc cw):=by
 refine F.ok sc_Walk_move_to (fun vs H Q E h=>?_) fun cdv A outer s H vs Q E hr h=>?_
 ·obtain ⟨x,b,p,ss,ns,tr,z,v,rfl,_⟩:=h;rfl
 ·obtain ⟨x,b,p,ss,ns,tr,z,v,rfl,hP,l100,hz,hzs,hv,q⟩:=h
  obtain ⟨dx,hx,hp,hW⟩:=id hP
  have hu:=zH hr
  refine ⟨_,(qf (qN (qp (zg (K:=K) rfl hu) (pv 1) (qB D_Play_moves (hm hr) (pv 0)) (by with_unfolding_all rfl)) (qe zZ) qo)
 (qe (qC (qcE (K:=K) rfl PySem.F.plainAttrs_list PySem.F.slot_list_append PySem.F.type_list_append jJ (qQ (K:=K) rfl (pv 0) rfl) (qa (pv 1) qc))))),?_⟩
  walk_at "v"
  refine ⟨x,dx,_,rfl,hx,jc,?_⟩
  walk_at "v"
  refine ⟨x,b,p,ss,ns,tr,z,rfl,hP,hz,hzs,fun r H1 s1 hr0 hr1=>?_⟩
  refine .inl ⟨r,_,rfl,.inl (SqL.of hr1),rfl,jS _,?_⟩
  rw [zO]
  walk_at "v"
  refine qY (fun h=>?_) fun _=>?_
  ·have h:(!decide (v∈mvS ss ns tr z))=true:=h
   rw [decide_eq_true hv] at h
   cases h
  walk_at "v"
  refine .inl ⟨x,cc 9,dx,_,.ref p,rfl,s1 _ _ hx,T.pcl,T.pp,zd,?_⟩
  walk_at "v"
  refine ⟨.inl ⟨rfl,_,SqL.of (s1 _ _ hp)⟩,?_⟩
  walk_at "v"
  refine ⟨p,_,_,rfl,rfl,s1 _ _ hp,by rw [List.length_map];exact qq (by omega),?_⟩
  exact q _ ((But.refl p H).same s1).put (by rw [qb,List.map_append];rfl)
theorem ok_pgo (F:Fun K "go" "Play.go" zc f fd) (T:Txt K mg cc cw) (D_Walk_move_to:MethOk P w K mg base CX0 8 (cc 9) "move_to" ["self", "thing"] (qbq cc cw)):FnOk P w K mg base CX0 9 f fd ["self", "name"] (qbq cc cw):=by
 refine F.ok sc_Play_go (fun vs H Q E h=>?_) fun cdv A outer s H vs Q E hr h=>?_
 ·obtain ⟨x,b,p,ss,ns,tr,z,v,rfl,_⟩:=h;rfl
 ·obtain ⟨x,b,p,ss,ns,tr,z,v,rfl,hP,l100,hz,hzs,hv,q⟩:=h
  obtain ⟨dx,hx,hp,hW⟩:=id hP
  refine ⟨_,(qe (qC (j6 D_Walk_move_to (hm hr) (pv 0) (qa (pv 1) qc)))),?_⟩
  walk_at "v"
  refine ⟨x,dx,_,rfl,hx,jc,?_⟩
  walk_at "v"
  exact ⟨x,b,p,ss,ns,tr,z,v,rfl,hP,l100,hz,hzs,hv,q⟩
theorem ok_pbk (F:Fun K "back" "Walk.back" jH f fd) (T:Txt K mg cc cw):FnOk P w K mg base CX0 1 f fd ["self"] (qhw cc cw):=by
 refine F.ok sc_Walk_back (fun vs H Q E h=>?_) fun cdv A outer s H vs Q E hr h=>?_
 ·obtain ⟨x,b,p,ss,ns,tr,z,rfl,_⟩:=h;rfl
 ·obtain ⟨x,b,p,ss,ns,tr,z,rfl,hP,hne,l100,q⟩:=h
  obtain ⟨dx,hx,hp,hW⟩:=id hP
  have hu:=zH hr
  refine ⟨_,(qf (qN (qp (zh (K:=K) rfl hu) (qm (jW (K:=K) rfl) rfl T.b_len boot_len (qa (qQ (K:=K) rfl (pv 0) rfl) qc)) qg (qx _)) (qe zZ) qo)
 (qe (qh (qfL (K:=K) rfl PySem.F.plainAttrs_list PySem.F.slot_list_pop PySem.F.type_list_pop qen (qQ (K:=K) rfl (pv 0) rfl))))),?_⟩
  walk_at "v"
  refine .inl ⟨x,cc 9,dx,_,.ref p,rfl,hx,T.pcl,T.pp,zd,?_⟩
  walk_at "v"
  refine qaq hp ?_
  walk_at "v"
  refine .inl (.inl (.inl ⟨rfl,rfl,?_⟩))
  walk_at "v"
  have htl:0 < tr.length:=List.length_pos_iff.mpr hne
  refine qY (fun h=>?_) fun _=>?_
  ·have h:eqV (V.int ((tr++[z]).map V.str).length) (V.int 1)=true:=h
   rw [List.length_map,List.length_append] at h
   have h:((tr.length + 1:Nat):Int)=1:=by simpa [eqV] using h
   omega
  walk_at "v"
  refine .inl ⟨x,cc 9,dx,_,.ref p,rfl,hx,T.pcl,T.pp,zd,?_⟩
  walk_at "v"
  refine ⟨.inl ⟨rfl,_,SqL.of hp⟩,?_⟩
  refine ⟨p,_,.str z,rfl,rfl,hp,by simp,?_⟩
  rw [show ((tr++[z]).map V.str).dropLast=tr.map V.str by simp]
  exact q
theorem qdD:∀ {l m:List (Str×Str)},l.Nodup→(∀ x∈l,x∈m)→l.length≤m.length
 | [],_,_,_=>Nat.zero_le _
 | x::r,m,hn,h=>by
  obtain ⟨h1,h2⟩:=List.nodup_cons.mp hn
  have hx:=h x List.mem_cons_self
  have ih:=qdD (l:=r) (m:=m.erase x) h2 fun y hy=>(List.mem_erase_of_ne (fun e=>h1 (by rw [← e];exact hy))).mpr (h y (List.mem_cons_of_mem _ hy))
  rw [List.length_erase_of_mem hx] at ih
  have:0 < m.length:=List.length_pos_of_mem hx
  simp only [List.length_cons]
  omega
theorem ris_nd {ss:List Str} (tps:List (Str×Str)) (hn:ss.Nodup):(qav ss tps ss).Nodup:=by
 unfold qav
 show List.Pairwise _ _
 rw [List.pairwise_flatMap]
 refine ⟨fun a _=>?_,List.Pairwise.imp (fun {a b} hab x hx y hy e=>?_) hn⟩
 ·exact List.Pairwise.map _ (fun x y hxy e=>hxy (Prod.mk.inj e).2) (hn.filter _)
 ·unfold qaO at hx hy
  obtain ⟨o,_,rfl⟩:=List.mem_map.mp hx
  obtain ⟨o',_,rfl⟩:=List.mem_map.mp hy
  exact hab (Prod.mk.inj e).1
theorem TOk.ris {ss:List Str} {tps:List (Str×Str)} (hn:ss.Nodup) (hT:TOk ss tps):TOk ss (qav ss tps ss):=by
 have hnd:=ris_nd tps hn
 have hsub:∀ ab∈qav ss tps ss,ab∈tps:=fun ab h=>(qbl hT ab.1 ab.2).mp h
 exact ⟨Nat.le_trans (qdD hnd hsub) hT.few,fun ab h=>hT.ok ab (hsub ab h),hnd⟩
theorem WG.ofR {ss:List Str} {ns:List Nat} {tps ups:List (Str×Str)} (hw:WOk ss ns) (hT:TOk ss tps) (sh:Shuf tps ups) (hb:qaL ss ns ups):WG ss ns (qav ss tps ss):=
 ⟨hT.ris hw.nd,Adj.ris hT (qfq sh hb),ties_ris hw hT (qfq sh hb)⟩
theorem WebAt.ok {cw x:Addr} {H:Hp} {ss:List Str} {ns:List Nat} (h:WebAt cw H x ss ns):WOk ss ns:=by
 obtain ⟨_,_,_,_,_,_,_,_,z⟩:=h;exact z
theorem sc_Play_twin:FnScope ["self"] ["self"] (qd j1):=fS
theorem sc_played:FnScope ["web", "names", "play", "name"] ["web", "names"] (qd zA):=fS
structure RowOk (ss:List Str) (ns:List Nat) (tr:List Str):Prop where
 ne:tr≠[]
 few:tr.length≤100
 ins:∀ s∈tr,s∈ss
 mv:∀ (i:Nat) z v,tr[i]?=some z→tr[i + 1]?=some v→v∈mvS ss ns (tr.take (i + 1)) z
def qfR (cc:Nat→Addr) (cw:Addr):Sp:=fun vs H Q _=>∃ (b l:Addr) (ss:List Str) (ns:List Nat) (tr:List Str),vs=[.ref b,.ref l]∧WebAt cw H b ss ns∧H l=some (.lst (tr.map V.str))∧RowOk ss ns tr∧∀ (x p:Addr) (H':Hp),L2.Same H H'→H x=none→H p=none→PlayAt (cc 9) cw H' x b p ss ns tr→Q (.ref x) H'
def qhx (cc:Nat→Addr) (cw:Addr):Sp:=fun vs H Q _=>∃ (x b p:Addr) (ss:List Str) (ns:List Nat) (tr:List Str),vs=[.ref x]∧PlayAt (cc 9) cw H x b p ss ns tr∧RowOk ss ns tr∧∀ (x' p':Addr) (H':Hp),L2.Same H H'→H x'=none→H p'=none→PlayAt (cc 9) cw H' x' b p' ss ns tr→Q (.ref x') H'
theorem jA {p:Addr} {H H1 H2:Hp} (s:L2.Same H H1) (b:But p H1 H2) (hp:H p=none):L2.Same H H2:=fun c o e=>b c o (fun z=>by rw [z,hp] at e;cases e) (s c o e)
theorem ok_pld (F:Fun K "played" "played" zA f fd) (T:Txt K mg cc cw) (D_Play:MakeOk P w K mg base CX0 5 (cc 9) "Play" ["self", "web", "start"] (qeS cc cw)) (D_Play_go:MethOk P w K mg base CX0 9 (cc 9) "go" ["self", "name"] (qbq cc cw)):FnOk P w K mg base CX0 10 f fd ["web", "names"] (qfR cc cw):=by
 refine F.ok sc_played (fun vs H Q E h=>?_) fun cdv A outer s H vs Q E hr h=>?_
 ·obtain ⟨b,l,ss,ns,tr,rfl,_⟩:=h;rfl
 ·obtain ⟨b,l,ss,ns,tr,rfl,hW,hl,hR,q⟩:=h
  have hu:=zH hr
  refine ⟨_,(qf (qN (PW.pt (qbp (jC (jj (qm (qbh (K:=K) rfl) rfl T.b_isinstance boot_isinstance (qa (pv 1) (qa (zQ (qa (jN (v:=.ty "list") rfl T.b_list boot_list rfl) (qa (jN (v:=.ty "tuple") rfl T.b_tuple boot_tuple rfl) qc))) qc))))) (qak (qp (zh (K:=K) rfl hu) (qm (jW (K:=K) rfl) rfl T.b_len boot_len (qa (pv 1) qc)) qg (qx _))))) (qe zZ) qo)
 (qf (qw (i:=2) sc_played.nd rfl (Or.inl rfl) (qds D_Play (hm hr) (qa (pv 0) (qa (qO (qP (K:=K) rfl hu) (pv 1) qg (fun _ _=>rfl)) qc))))
 (qf (j8 PassesOwn.never rfl (j9 (K:=K) rfl (qz (qaR (K:=K) rfl) (pv 1) (qD qg) qS)) (qt (i:=3) sc_played.nd rfl (Or.inl rfl))
 (qe (qC (j6 D_Play_go (hm hr) (pv 2) (qa (pv 3) qc)))))
 (qe (qh (pv 2)))))),?_⟩
  have hlen:0 < tr.length:=List.length_pos_iff.mpr hR.ne
  have l100:=hR.few
  walk_at "v"
  refine ⟨by show 2≤sizeLine;decide,fun tt htt=>?_⟩
  have s1:=qK (Sr H) (o:=.tup [.ty "list",.ty "tuple"]) htt
  have ett:upd H tt (.tup [.ty "list",.ty "tuple"]) tt=some (.tup [.ty "list",.ty "tuple"]):=qb
  generalize upd H tt (.tup [.ty "list",.ty "tuple"])=H1 at s1 ett ⊢
  have hA:Arg tt H1 (.ref l) (some (tr.map V.str)):=.lst (s1 _ _ hl) (qy hl htt) (fun v hv=>by
   obtain ⟨s',hs',rfl⟩:=List.mem_map.mp hv
   exact Th.flat rfl (fun z e=>by cases e;have:=jg (hW.ok.nm _ (hR.ins _ hs'));omega)) (by rw [List.length_map];omega)
  walk_at "v"
  refine hA.isi ett ?_
  walk_at "v"
  refine qY (fun h=>by cases h) fun _=>?_
  walk_at "v"
  refine qaq (s1 _ _ hl) ?_
  rw [List.length_map]
  walk_at "v"
  refine .inl (.inl (.inl ⟨rfl,rfl,?_⟩))
  walk_at "v"
  refine qY (fun h=>?_) fun _=>?_
  ·have h:eqV (V.int tr.length) (V.int 0)=true:=h
   have h:((tr.length:Nat):Int)=0:=by simpa [eqV] using h
   omega
  walk_at "v"
  cases tr with
  | nil=>exact absurd rfl hR.ne
  | cons a r =>
   have ha0:atI ((a::r).map V.str) 0=some (.str a):=qJ (show ((a::r).map V.str)[0]?=some (.str a) from rfl)
   refine .inl (zT (s1 _ _ hl) ha0 ?_)
   walk_at "v"
   intro x dx hx0 hdx ndx
   have hx00:=s1.free hx0
   have sG:L2.Same H1 (upd (upd H1 dx (.own x)) x (.ins (cc 9) dx [])):=qK (qK (Sr H1) hdx) (by rw [qk ndx.symm];exact hx0)
   have eG:upd (upd H1 dx (.own x)) x (.ins (cc 9) dx []) x=some (.ins (cc 9) dx []):=qb
   generalize upd (upd H1 dx (.own x)) x (.ins (cc 9) dx [])=G at sG eG ⊢
   have s2:=s1.trans sG
   refine ⟨x,dx,b,a,ss,ns,rfl,eG,hW.same s2,hR.ins a List.mem_cons_self,fun p H2 b2 hp0 hPl=>⟨rfl,?_⟩⟩
   have hp00:=s2.free hp0
   have s3:L2.Same H H2:=jA s2 b2 hx00
   have ec1:qaP ((a::r).map V.str) (some 1) none=r.map V.str:=by
    have:=za ((a::r).map V.str) 1
    rw [← List.map_drop] at this
    exact this
   walk_at "v"
   refine .inl ⟨l,_,rfl,SqL.of (s3 _ _ hl),fun d hd=>?_⟩
   rw [ec1]
   have s34:=qK (Sr H2) (o:=.lst (r.map V.str)) hd
   have ed:upd H2 d (.lst (r.map V.str)) d=some (.lst (r.map V.str)):=qb
   have ndp:d≠p:=fun e=>by
    obtain ⟨_,_,z,_⟩:=hPl
    rw [e,z] at hd
    cases hd
   have s4:=s3.trans s34
   replace hPl:=hPl.same s34
   generalize upd H2 d (.lst (r.map V.str))=H4 at s4 ed hPl ⊢
   walk_at "v"
   refine .inl ⟨⟨_,SqL.of ed⟩,jO (K:=K) (fun i σ H'=>L2.Same H H'∧H' d=some (.lst (r.map V.str))∧PlayAt (cc 9) cw H' x b p ss ns ((a::r).take (i + 1))∧∃ x3,σ=[some (.ref b),some (.ref l),some (.ref x),x3]) ⟨s4,ed,hPl,none,rfl⟩ (fun i σ H' _ hp=>SqL.of hp.2.1) (fun i y σ H5 hy hp=>?_) fun σ H5 hp=>?_⟩
   ·obtain ⟨s5,ed5,hP5,x3,rfl⟩:=hp
    obtain ⟨v,gv,rfl⟩:=ji hy
    have hi:i < r.length:=(List.getElem?_eq_some_iff.mp gv).1
    obtain ⟨z,gi⟩:∃ z,(a::r)[i]?=some z:=⟨_,List.getElem?_eq_getElem (show i < (a::r).length by rw [List.length_cons];omega)⟩
    have gv':(a::r)[i + 1]?=some v:=by rw [List.getElem?_cons_succ];exact gv
    have hlast:((a::r).take (i + 1)).getLast?=some z:=by
     rw [List.take_add_one,gi]
     exact List.getLast?_concat
    obtain ⟨dx5,hx5,hp5,_⟩:=id hP5
    have nxp:x≠p:=zo hx5 hp5 (by intro z;cases z)
    walk_at "v"
    refine ⟨x,dx5,_,rfl,hx5,jc,?_⟩
    walk_at "v"
    refine ⟨x,b,p,ss,ns,_,z,v,rfl,hP5,by rw [List.length_take];omega,hlast,hR.ins _ (List.mem_of_getElem? gi),hR.mv i z v gi gv',fun H6 b6 e6=>?_⟩
    have s6:=jA s5 b6 hp00
    refine ⟨s6,b6 _ _ ndp ed5,⟨dx5,b6 _ _ nxp hx5,?_,hW.same s6⟩,_,rfl⟩
    rw [e6,List.take_add_one (i:=i + 1),gv']
    rfl
   ·obtain ⟨s5,ed5,hP5,x3,rfl⟩:=hp
    rw [List.length_map,show (a::r).take (r.length + 1)=a::r from List.take_of_length_le (by rw [List.length_cons];exact Nat.le_refl _)] at hP5
    walk_at "v"
    exact q x p H5 s5 hx00 hp00 hP5
theorem ok_tw (F:Fun K "twin" "Play.twin" j1 f fd) (T:Txt K mg cc cw) (D_played:DefOk P w K mg base CX0 10 "played" ["web", "names"] (qfR cc cw)):FnOk P w K mg base CX0 11 f fd ["self"] (qhx cc cw):=by
 refine F.ok sc_Play_twin (fun vs H Q E h=>?_) fun cdv A outer s H vs Q E hr h=>?_
 ·obtain ⟨x,b,p,ss,ns,tr,rfl,_⟩:=h;rfl
 ·obtain ⟨x,b,p,ss,ns,tr,rfl,⟨dx,hx,hp,hW⟩,hR,q⟩:=h
  refine ⟨_,(qe (qh (qr D_played (hm hr) qE (qa (qQ (K:=K) rfl (pv 0) rfl) (qa (qQ (K:=K) rfl (pv 0) rfl) qc))))),?_⟩
  walk_at "v"
  refine .inl ⟨x,cc 9,dx,_,.ref b,rfl,hx,T.pcl,T.pb,qbT,?_⟩
  walk_at "v"
  refine .inl ⟨x,cc 9,dx,_,.ref p,rfl,hx,T.pcl,T.pp,zd,?_⟩
  walk_at "v"
  exact ⟨b,p,ss,ns,tr,rfl,hW,hp,hR,q⟩
theorem sc_l_moves:FnScope ["_law_names_here", "_law_ties_here", "_law_trail"] ["_law_names_here", "_law_ties_here", "_law_trail"] (qd zu):=fS
def mvL (ups:List (Str×Str)) (ss tr:List Str) (z:Str):List Str:=ss.filter fun o=>!decide (o∈tr)&&tiB ups z o
theorem qdT {ss:List Str} {ns:List Nat} {dps ups:List (Str×Str)} {tr:List Str} {z:Str} (hw:WOk ss ns) (ha:Adj ss ns dps) (ht:∀ a b,tiB ups a b=tiB dps a b) (hz:z∈ss):mvS ss ns tr z=mvL ups ss tr z:=by
 have hix:ss[ss.idxOf z]?=some z:=by rw [List.getElem?_eq_getElem (List.idxOf_lt_length_of_mem hz)];exact congrArg some (List.getElem_idxOf _)
 unfold mvS mvL ngS
 rw [bes_of hw ha hix]
 unfold qfP
 rw [List.filter_filter]
 refine List.filter_congr fun o _=>?_
 rw [ht]
 rfl
def qgs:Sp:=fun vs H Q _=>∃ (n l t:Addr) (ss:List Str) (ts:List Addr) (ups:List (Str×Str)) (tr:List Str) (z:Str),vs=[.ref n,.ref l,.ref t]∧H n=some (.lst (ss.map V.str))∧ss.length≤14∧PL H l ts ups∧H t=some (.lst (tr.map V.str))∧tr.getLast?=some z∧∀ (r:Addr) (H':Hp),L2.Same H H'→H r=none→H' r=some (.lst ((mvL ups ss tr z).map V.str))→Q (.ref r) H'
theorem ok_mvL (F:Fun K "_law_moves" "_law_moves" zu f fd) (D_l_tied:DefOk P w K mg base CX0 1 "_law_tied" ["_law_ties_here", "_law_one", "_law_other"] qhv):FnOk P w K mg base CX0 2 f fd ["_law_names_here", "_law_ties_here", "_law_trail"] qgs:=by
 refine F.ok sc_l_moves (fun vs H Q E h=>?_) fun cdv A outer s H vs Q E hr h=>?_
 ·obtain ⟨n,l,t,ss,ts,ups,tr,z,rfl,_⟩:=h;rfl
 ·obtain ⟨n,l,t,ss,ts,ups,tr,z,rfl,hn,few,hl,ht,hz,q⟩:=h
  have hu:=zH hr
  refine ⟨_,(qe (qh (qap (sc:=qd zu) (XN:=["_law_names_here", "_law_ties_here", "_law_trail"]) ["_law_name", "_law_trail", "_law_ties_here"] 1 [2,1] rfl rfl rfl (by decide +kernel) rfl (by decide +kernel)
  (j9 (K:=K) rfl (pv 0)) (fun _ _ _ _=>(qt (i:=0) (show (["_law_name", "_law_trail", "_law_ties_here"]:List Str).Nodup by decide +kernel) rfl (Or.inl rfl))) zC
  (fun _ _ _ _=>(qaF (PW.pt (qa9 (qp (zg (K:=K) rfl hu) (pv 0) (pv 1) (by with_unfolding_all rfl)) (qan (jj (qr D_l_tied (hm hr) qE (qa (pv 2) (qa (qO (qP (K:=K) rfl hu) (pv 1) (qdJ qbs qg) (fun _ _=>rfl)) (qa (pv 0) qc))))))))))
  (fun _ _ _ _=>(pv 0))))),?_⟩
  walk_at "v"
  refine .inl ⟨⟨_,SqL.of hn⟩,zG (K:=K) (fun m ys H'=>L2.Same H H'∧ys=(mvL ups (ss.take m) tr z).map V.str) ⟨L2.Same.refl H,rfl⟩ (fun m ys H' _ hp=>SqL.of (hp.1 _ _ hn)) (fun m y ys H' hy hp'=>?_) fun ys H' hp'=>?_⟩
  ·obtain ⟨s1,rfl⟩:=hp'
   obtain ⟨o,gm,rfl⟩:=ji hy
   have htk:ss.take (m + 1)=ss.take m++[o]:=by rw [List.take_add_one,gm];rfl
   have fewY:((mvL ups (ss.take m) tr z).map V.str).length < sizeLine:=by
    rw [List.length_map]
    exact qq (Nat.le_trans (List.length_filter_le _ _) (by rw [List.length_take];omega))
   have enx:mvL ups (ss.take (m + 1)) tr z=mvL ups (ss.take m) tr z++(if (!decide (o∈tr)&&tiB ups z o)=true then [o] else []):=by
    unfold mvL
    rw [htk,List.filter_append,List.filter_cons]
    rfl
   rw [enx,List.map_append]
   walk_at "v"
   refine .inl ⟨t,_,rfl,.inl (SqL.of (s1 _ _ ht)),rfl,jS _,?_⟩
   rw [zO]
   walk_at "v"
   refine qY (fun h=>?_) fun h=>?_
   ·have h:(!decide (o∈tr))=true:=h
    rw [h]
    walk_at "v"
    refine vU ?_
    refine .inl (zT (s1 _ _ ht) (qcY hz) ?_)
    walk_at "v"
    refine ⟨l,ts,ups,z,o,rfl,hl.same s1,fun H2 s2=>?_⟩
    walk_at "v"
    refine qY (fun h2=>?_) fun h2=>?_
    ·walk_at "v"
     refine ⟨fewY,s1.trans s2,?_⟩
     rw [h2]
     rfl
    ·refine ⟨s1.trans s2,?_⟩
     have h2:tiB ups z o=false:=by simpa using h2
     rw [h2]
     simp
   ·have h:(!decide (o∈tr))=false:=by
     have h:¬ (!decide (o∈tr))=true:=h
     simpa using h
    rw [h]
    refine qY (fun h=>by cases h) fun _=>?_
    exact ⟨s1,by simp⟩
  ·obtain ⟨s1,rfl⟩:=hp'
   have etl:ss.take (ss.map V.str).length=ss:=by rw [List.length_map,List.take_length]
   rw [etl]
   exact ⟨by rw [List.length_map];exact Nat.le_of_lt (qq (Nat.le_trans (List.length_filter_le _ _) (by omega))),fun r hr0=>q r _ (qK s1 hr0) (s1.free hr0) qb⟩
theorem eqD_strs {K:W.Frag} {H:Hp} {m:Nat} {ss:List Str}:∀ x∈ss.map V.str,EqD K H m x x true:=fun x hx=>by
 obtain ⟨s,_,rfl⟩:=List.mem_map.mp hx
 have e:=EqD.flat (K:=K) (H:=H) (n:=m) (x:=.str s) (y:=.str s) rfl rfl
 rw [qa6,decide_eq_true rfl] at e
 exact e
theorem qcZ {K:W.Frag} {H:Hp} {n:Nat} {a b:Addr} (h:EqT K H n a b true):EqD K H n (.ref a) (.ref b) true:=by
 by_cases e:a=b
 ·subst e;exact .self
 ·exact .deep h e
structure Duo (ss:List Str) (ns:List Nat) (dps ups:List (Str×Str)):Prop where
 wg:WG ss ns dps
 ti:∀ a b,tiB ups a b=tiB dps a b
theorem qbm {K:W.Frag} {H:Hp} {a b:Addr} {ss:List Str} (ha:H a=some (.lst (ss.map V.str))) (hb:H b=some (.lst (ss.map V.str))):EqT K H 1 a b true:=by
 have z:=EqT.lst (K:=K) (H:=H) (n:=0) (e:=fun _=>true) (SqL.of ha) (SqL.of hb) rfl fun j x y h1 h2=>by
  rw [h1] at h2
  cases h2
  exact eqD_strs x (List.mem_of_getElem? h1)
 rw [qad] at z
 exact z
theorem qg3 {K:W.Frag} {H:Hp} {Q:VK} {p:Addr} {ss:List Str} {i:Int} (hp:H p=some (.lst (ss.map V.str))) (h0:0≤i) (h1:i < ss.length) (h:∀ s∈ss,Q (.str s) H):qgh K (.ref p) (.int i) H Q:=by
 obtain ⟨y,iy,hy⟩:=qe5 (xs:=ss.map V.str) h0 (by rw [List.length_map];exact h1)
 obtain ⟨s,hs,rfl⟩:=List.mem_map.mp (List.mem_of_getElem? hy)
 exact .inl (zT hp iy (h s hs))
theorem duo_ti {ss:List Str} {tps ups:List (Str×Str)} (hT:TOk ss tps) (sh:Shuf tps ups) (a b:Str):tiB ups a b=tiB (qav ss tps ss) a b:=by
 unfold tiB
 rw [Bool.eq_iff_iff]
 simp only [Bool.or_eq_true,decide_eq_true_iff]
 rw [sh.mem a b,qbl hT a b,qbl hT b a]
theorem row_one {ss:List Str} {ns:List Nat} {st:Str} (h:st∈ss):RowOk ss ns [st]:=⟨by simp,by show 1≤100;decide,fun s hs=>by rw [List.mem_singleton.mp hs];exact h,fun i z v _ h=>by simp at h⟩
theorem RowOk.snoc {ss:List Str} {ns:List Nat} {tr:List Str} {z v:Str} (h:RowOk ss ns tr) (hl:tr.length < 100) (hz:tr.getLast?=some z) (hv:v∈mvS ss ns tr z) (hs:v∈ss):RowOk ss ns (tr++[v]):=by
 refine ⟨by simp,by rw [List.length_append];show tr.length + 1≤100;omega,fun s hs'=>?_,fun i y u g1 g2=>?_⟩
 ·rcases List.mem_append.mp hs' with q | q
  ·exact h.ins s q
  ·rw [List.mem_singleton.mp q];exact hs
 ·have hi:i + 1 < (tr++[v]).length:=(List.getElem?_eq_some_iff.mp g2).1
  rw [List.length_append] at hi
  have hi:i + 1 < tr.length + 1:=hi
  rw [List.getElem?_append_left (by omega)] at g1
  rw [List.take_append_of_le_length (by omega)]
  by_cases e:i + 1 < tr.length
  ·rw [List.getElem?_append_left e] at g2
   exact h.mv i y u g1 g2
  ·have el:i + 1=tr.length:=by omega
   rw [List.getElem?_append_right (by omega),el,Nat.sub_self] at g2
   cases g2
   rw [List.getLast?_eq_getElem?,← el,Nat.add_sub_cancel,g1] at hz
   cases hz
   rw [el,List.take_length]
   exact hv
def qeT (cc:Nat→Addr) (cw:Addr):Sp:=fun vs H Q E=>∃ (x b p q:Addr) (k:Nat) (ss:List Str) (ns:List Nat) (tr:List Str) (z:Str) (v:V),vs=[.ref x,v]∧PlayAt (cc 9) cw H x b p ss ns tr∧tr.getLast?=some z∧z∈ss∧Th q H k v∧(∀ u,v=.str u→u∉mvS ss ns tr z)∧Rz cc H E (5,v)
def qgt (cc:Nat→Addr) (cw:Addr):Sp:=fun vs H Q E=>∃ (x b p:Addr) (ss:List Str) (ns:List Nat) (st:Str),vs=[.ref x]∧PlayAt (cc 9) cw H x b p ss ns [st]∧∀ H',L2.Same H H'→E (.ref (cc 6)) none H'
def qgu (cc:Nat→Addr) (cw:Addr):Sp:=fun vs H Q E=>∃ (x b q:Addr) (k:Nat) (ss:List Str) (ns:List Nat) (v:V),vs=[.ref x,.ref b,v]∧WebAt cw H b ss ns∧Th q H k v∧jm ss v=false∧Rz cc H E (2,v)
theorem inV_no {v:V} {xs:List Str} (h:∀ u,v=.str u→u∉xs) (hf:zB v=true):inV v (xs.map V.str)=false:=by
  cases v with
  | str u=>rw [zO];exact decide_eq_false (h u rfl)
  | _ =>
    first
    | (exfalso;revert hf;exact (by decide))
    | (unfold inV
       rw [List.any_eq_false]
       intro y hy
       obtain ⟨s,_,rfl⟩:=List.mem_map.mp hy
       simp [eqV])
    | (exfalso;cases hf;done)
theorem Th.notin {q p:Addr} {H:Hp} {k:Nat} {v:V} {xs:List Str} {Q:VK} (h:Th q H k v) (hp:H p=some (.lst (xs.map V.str))) (hv:∀ u,v=.str u→u∉xs) (k':Q (.bl true) H):qgj K v (.ref p) H Q:=by
 cases h with
 | flat f l =>
  refine .inl (.inl ⟨p,_,rfl,.inl (SqL.of hp),f,jS _,?_⟩)
  rw [inV_no hv f]
  exact k'
 | lst e ne h l=>exact .inr ⟨p,xs,_,_,rfl,SqL.of hp,rfl,e,rfl,k'⟩
 | tup e ne h l=>exact .inr ⟨p,xs,_,_,rfl,SqL.of hp,rfl,e,rfl,k'⟩
 | dct e ne=>exact .inr ⟨p,xs,_,_,rfl,SqL.of hp,rfl,e,rfl,k'⟩
theorem ok_mvtX (F:Fun K "move_to" "Walk.move_to" qX f fd) (T:Txt K mg cc cw) (D_NoMove:XMakeOk P w K mg base 2 (cc 5) "NoMove" ["self", "found"] (spX (cc 5) (qaj 5))) (D_Play_moves:MethOk P w K mg base CX0 7 (cc 9) "moves" ["self"] (qeI cc cw)):FnOk P w K mg base (CX1 P w) 8 f fd ["self", "thing"] (qeT cc cw):=by
 refine F.ok1 sc_Walk_move_to (fun vs H Q E h=>?_) fun cdv A outer s H vs Q E hr h=>?_
 ·obtain ⟨x,b,p,q,k,ss,ns,tr,z,v,rfl,_⟩:=h;rfl
 ·obtain ⟨x,b,p,q,k,ss,ns,tr,z,v,rfl,hP,hz,hzs,hv,hno,hE⟩:=h
  obtain ⟨dx,hx,hp,hW⟩:=id hP
  have hu:=zH hr
  refine ⟨_,(qf (qN (qp (k_notinX (K:=K) rfl hu) (pv 1) (qB D_Play_moves (hm hr) (pv 0)) (by with_unfolding_all rfl)) (qe (jq (K:=K) rfl qH (qai D_NoMove (hm hr) (qa (pv 1) qc)))) qo)
 (qe (qC (qcE (K:=K) rfl PySem.F.plainAttrs_list PySem.F.slot_list_append PySem.F.type_list_append jJ (qQ (K:=K) rfl (pv 0) rfl) (qa (pv 1) qc))))),?_⟩
  walk_at "v"
  refine ⟨x,dx,_,rfl,hx,jc,?_⟩
  walk_at "v"
  refine ⟨x,b,p,ss,ns,tr,z,rfl,hP,hz,hzs,fun r H1 s1 hr0 hr1=>?_⟩
  refine (hv.same s1).notin hr1 hno ?_
  walk_at "v"
  refine qbH ?_
  walk_at "v"
  exact qG (T.xat 5 (by decide)) (hE.later s1)
theorem ok_pgoX (F:Fun K "go" "Play.go" zc f fd) (T:Txt K mg cc cw) (D_Walk_move_to:MethOk P w K mg base (CX1 P w) 8 (cc 9) "move_to" ["self", "thing"] (qeT cc cw)):FnOk P w K mg base (CX1 P w) 9 f fd ["self", "name"] (qeT cc cw):=by
 refine F.ok1 sc_Play_go (fun vs H Q E h=>?_) fun cdv A outer s H vs Q E hr h=>?_
 ·obtain ⟨x,b,p,q,k,ss,ns,tr,z,v,rfl,_⟩:=h;rfl
 ·obtain ⟨x,b,p,q,k,ss,ns,tr,z,v,rfl,hP,hz,hzs,hv,hno,hE⟩:=h
  obtain ⟨dx,hx,hp,hW⟩:=id hP
  refine ⟨_,(qe (qC (qaa D_Walk_move_to (hm hr) qH (pv 0) (qa (pv 1) qc)))),?_⟩
  walk_at "v"
  refine ⟨x,dx,_,rfl,hx,jc,?_⟩
  walk_at "v"
  exact ⟨x,b,p,q,k,ss,ns,tr,z,v,rfl,hP,hz,hzs,hv,hno,hE⟩
theorem ok_bkX (F:Fun K "back" "Walk.back" jH f fd) (T:Txt K mg cc cw) (D_NoBack:XMakeOk P w K mg base 2 (cc 6) "NoBack" ["self"] (qg2 (cc 6))):FnOk P w K mg base (CX1 P w) 4 f fd ["self"] (qgt cc cw):=by
 refine F.ok1 sc_Walk_back (fun vs H Q E h=>?_) fun cdv A outer s H vs Q E hr h=>?_
 ·obtain ⟨x,b,p,ss,ns,st,rfl,_⟩:=h;rfl
 ·obtain ⟨x,b,p,ss,ns,st,rfl,hP,hE⟩:=h
  obtain ⟨dx,hx,hp,hW⟩:=id hP
  have hu:=zH hr
  refine ⟨_,(qf (qN (qp (zh (K:=K) rfl hu) (qm (jW (K:=K) rfl) rfl T.b_len boot_len (qa (qQ (K:=K) rfl (pv 0) rfl) qc)) qg (qx _)) (qe (jq (K:=K) rfl qH (pe_xm0 D_NoBack (hm hr)))) qo)
 (qe (qh (qfL (K:=K) rfl PySem.F.plainAttrs_list PySem.F.slot_list_pop PySem.F.type_list_pop qen (qQ (K:=K) rfl (pv 0) rfl))))),?_⟩
  walk_at "v"
  refine .inl ⟨x,cc 9,dx,_,.ref p,rfl,hx,T.pcl,T.pp,zd,?_⟩
  walk_at "v"
  refine qaq hp ?_
  walk_at "v"
  refine .inl (.inl (.inl ⟨rfl,rfl,?_⟩))
  walk_at "v"
  refine qY (fun _=>?_) fun h=>absurd rfl h
  walk_at "v"
  refine ⟨by show 0≤1000;decide,fun x' hx'=>⟨x',rfl,qb,rfl,x',cc 6,none,rfl,qb,T.xat 6 (by decide),hE _ fun c o e=>?_⟩⟩
  have nx:c≠x':=fun z=>by rw [z,hx'] at e;cases e
  rw [qk nx,qk nx]
  exact e
theorem ok_wkX (F:Fun K "__init__" "Walk.__init__" jG f fd) (T:Txt K mg cc cw) (D_NoPlace:XMakeOk P w K mg base 2 (cc 2) "NoPlace" ["self", "found"] (spX (cc 2) (qaj 2))) (D_Web_has_place:MethOk P w K mg base CX0 3 cw "has_place" ["self", "thing"] (qew cw)):FnOk P w K mg base (CX1 P w) 5 f fd ["self", "web", "start"] (qgu cc cw):=by
 refine F.ok1 sc_Walk_init (fun vs H Q E h=>?_) fun cdv A outer s H vs Q E hr h=>?_
 ·obtain ⟨x,b,q,k,ss,ns,v,rfl,_⟩:=h;rfl
 ·obtain ⟨x,b,q,k,ss,ns,v,rfl,hW,hv,hno,hE⟩:=h
  have hu:=zH hr
  refine ⟨_,(qf (qN (jC (jj (j6 D_Web_has_place (hm hr) (pv 1) (qa (pv 2) qc)))) (qe (jq (K:=K) rfl qH (qai D_NoPlace (hm hr) (qa (pv 2) qc)))) qo)
 (qf (jQ (K:=K) rfl (pv 0) (pv 1) rfl)
 (qe (jQ (K:=K) rfl (pv 0) (qA (qa (pv 2) qc)) rfl)))),?_⟩
  obtain ⟨wx,d,ol,n,hb,_,_,_,hw⟩:=id hW
  walk_at "v"
  refine ⟨b,wx,_,rfl,hb,qaV (by decide +kernel),?_⟩
  walk_at "v"
  refine ⟨q,k,b,ss,ns,v,rfl,hW,hv,fun H1 s1=>?_⟩
  rw [hno]
  walk_at "v"
  refine qbH ?_
  walk_at "v"
  exact qG (T.xat 2 (by decide)) (hE.later s1)
theorem sc_show_walk:FnScope ["walk"] ["walk"] (qd j2):=fS
theorem sc_show_play:FnScope ["play"] ["play"] (qd j3):=fS
theorem qdE {K:W.Frag} {H:Hp} {a e:Addr} {xs:List Str} (ha:H a=some (.lst (xs.map V.str))) (he:H e=some (.lst [])):EqT K H 1 a e (decide (xs=[])):=by
 cases xs with
 | nil =>
  have z':=EqT.lst (K:=K) (H:=H) (n:=0) (e:=fun _=>true) (SqL.of ha) (SqL.of he) rfl fun j x y h1 h2=>by simp at h1
  rw [qad] at z'
  exact z'
 | cons s r=>exact .lstL (SqL.of ha) (SqL.of he) (by simp)
theorem qc0:∀ {xs:List Str},(∀ s∈xs,jT s=true)→(xs.map (·.length)).sum≤6 * xs.length
 | [],_=>Nat.le_refl _
 | s::r,h=>by
  have h1:=jg (h s List.mem_cons_self)
  have h2:=qc0 (xs:=r) fun t ht=>h t (List.mem_cons_of_mem _ ht)
  rw [List.map_cons,List.sum_cons,List.length_cons]
  omega
def qc1 (cc:Nat→Addr) (cw:Addr):Sp:=fun vs H Q _=>∃ (x b p:Addr) (ss:List Str) (ns:List Nat) (tr:List Str),vs=[.ref x]∧PlayAt (cc 9) cw H x b p ss ns tr∧tr.length≤100∧(∀ s∈tr,jT s=true)∧∀ (H':Hp),L2.Same H H'→Q (.str (Txt.join " > " tr)) H'
theorem ok_shw (F:Fun K "show_walk" "show_walk" j2 f fd) (T:Txt K mg cc cw) (D_Walk_gone:MethOk P w K mg base CX0 1 (cc 9) "gone" ["self"] (qfQ cc cw)):FnOk P w K mg base CX0 2 f fd ["walk"] (qc1 cc cw):=by
 refine F.ok sc_show_walk (fun vs H Q E h=>?_) fun cdv A outer s H vs Q E hr h=>?_
 ·obtain ⟨x,b,p,ss,ns,tr,rfl,_⟩:=h;rfl
 ·obtain ⟨x,b,p,ss,ns,tr,rfl,hP,few,hnm,q⟩:=h
  obtain ⟨dx,hx,hp,hW⟩:=id hP
  refine ⟨_,(qe (qh (qcE (K:=K) rfl PySem.F.plainAttrs_str PySem.F.slot_str_join PySem.F.type_str_join (qeg (K:=K) rfl) qV (qa (qB D_Walk_gone (hm hr) (pv 0)) qc)))),?_⟩
  walk_at "v"
  refine ⟨rfl,?_⟩
  walk_at "v"
  refine ⟨x,dx,_,rfl,hx,jc,?_⟩
  walk_at "v"
  refine ⟨x,b,p,ss,ns,tr,rfl,hP,fun l hl=>?_⟩
  have s1:=qK (Sr H) (o:=.lst (tr.map V.str)) hl
  have hs:=qc0 hnm
  refine ⟨_,l,tr,rfl,rfl,SqL.of qb,?_,q _ s1⟩
  have:(" > ":Str).length=3:=rfl
  rw [this]
  omega
theorem ok_shp (F:Fun K "show_play" "show_play" j3 f fd) (D_show_walk:DefOk P w K mg base CX0 2 "show_walk" ["walk"] (qc1 cc cw)):FnOk P w K mg base CX0 3 f fd ["play"] (qc1 cc cw):=by
 refine F.ok sc_show_play (fun vs H Q E h=>?_) fun cdv A outer s H vs Q E hr h=>?_
 ·obtain ⟨x,b,p,ss,ns,tr,rfl,_⟩:=h;rfl
 ·obtain ⟨x,b,p,ss,ns,tr,rfl,h⟩:=h
  refine ⟨_,(qe (qh (qr D_show_walk (hm hr) qE (qa (pv 0) qc)))),?_⟩
  walk_at "v"
  exact ⟨x,b,p,ss,ns,tr,rfl,h⟩
def qa7 (ups:List (Str×Str)) (ss row:List Str) (k:Nat):Bool:=match row[k]? with
 | none=>true
 | some u=>if k=0 then decide (u∈ss) else decide (u∈mvL ups ss (row.take k) ((row.take k).getLast?.getD ""))
def fbN (ups:List (Str×Str)) (ss row:List Str):Option Nat:=(List.range row.length).find? fun k=>!qa7 ups ss row k
theorem qaW {p:Nat→Bool}:∀ n,(∀ k,(List.range n).find? p=some k→k < n∧p k=true∧∀ j,j < k→p j=false)∧((List.range n).find? p=none→∀ j,j < n→p j=false)
 | 0=>⟨fun k h=>by simp at h,fun _ j h=>absurd h (Nat.not_lt_zero j)⟩
 | n + 1=>by
  obtain ⟨i1,i2⟩:=qaW (p:=p) n
  rw [List.range_succ,List.find?_append]
  cases e:(List.range n).find? p with
  | some k =>
   obtain ⟨h1,h2,h3⟩:=i1 k e
   refine ⟨fun k' h=>?_,fun h=>by simp at h⟩
   have:k=k':=by simpa using h
   subst this
   exact ⟨by omega,h2,h3⟩
  | none =>
   have h0:=i2 e
   refine ⟨fun k h=>?_,fun h j hj=>?_⟩
   ·have h:[n].find? p=some k:=by simpa using h
    rw [List.find?_cons] at h
    cases hp:p n with
    | true =>
     rw [hp] at h
     have:n=k:=by simpa using h
     subst this
     exact ⟨by omega,hp,h0⟩
    | false=>rw [hp] at h;simp at h
   ·by_cases e':j=n
    ·subst e'
     cases hp:p j with
     | false=>rfl
     | true =>
      have h:[j].find? p=none:=by simpa using h
      rw [List.find?_cons,hp] at h
      cases h
    ·exact h0 j (by omega)
theorem qbU {ups:List (Str×Str)} {ss row:List Str} {k:Nat} (h:fbN ups ss row=some k):k < row.length∧qa7 ups ss row k=false∧∀ j,j < k→qa7 ups ss row j=true:=by
 obtain ⟨h1,h2,h3⟩:=(qaW _).1 k h
 exact ⟨h1,by simpa using h2,fun j hj=>by simpa using h3 j hj⟩
theorem qeC {ups:List (Str×Str)} {ss row:List Str} (h:fbN ups ss row=none):∀ j,j < row.length→qa7 ups ss row j=true:=fun j hj=>by simpa using (qaW _).2 h j hj
theorem qdU {ups:List (Str×Str)} {ss row:List Str} {k:Nat} (h1:k < row.length) (h2:qa7 ups ss row k=false) (h3:∀ j,j < k→qa7 ups ss row j=true):fbN ups ss row=some k:=by
 cases e:fbN ups ss row with
 | none=>rw [qeC e k h1] at h2;cases h2
 | some k' =>
  obtain ⟨g1,g2,g3⟩:=qbU e
  by_cases a:k < k'
  ·rw [g3 k a] at h2;cases h2
  ·by_cases b:k' < k
   ·rw [h3 k' b] at g2;cases g2
   ·rw [show k'=k by omega]
theorem qbn {row:List Str} {i:Nat} {z:Str} (h:row[i]?=some z):(row.take (i + 1)).getLast?=some z:=by
 rw [List.take_add_one,h]
 exact List.getLast?_concat
theorem qeD {α:Type} [BEq α] [LawfulBEq α]:∀ {l m:List α},l.Nodup→(∀ x∈l,x∈m)→l.length≤m.length
 | [],_,_,_=>Nat.zero_le _
 | x::r,m,hn,h=>by
  obtain ⟨h1,h2⟩:=List.nodup_cons.mp hn
  have hx:=h x List.mem_cons_self
  have ih:=qeD (l:=r) (m:=m.erase x) h2 fun y hy=>(List.mem_erase_of_ne (fun e=>h1 (by rw [← e];exact hy))).mpr (h y (List.mem_cons_of_mem _ hy))
  rw [List.length_erase_of_mem hx] at ih
  have:0 < m.length:=List.length_pos_of_mem hx
  simp only [List.length_cons]
  omega
theorem RowOk.le14 {ss:List Str} {ns:List Nat} {tr:List Str} (h:RowOk ss ns tr):tr.length≤ss.length:=by
 refine qeD ?_ h.ins
 show List.Pairwise _ _
 rw [List.pairwise_iff_getElem]
 intro i j hi hj hij e
 obtain ⟨k,rfl⟩:∃ k,j=k + 1:=⟨j - 1,by omega⟩
 have hm:=h.mv k tr[k] tr[k + 1] (List.getElem?_eq_getElem (by omega)) (List.getElem?_eq_getElem hj)
 unfold mvS ngS at hm
 have h2:=(List.mem_filter.mp hm).2
 have h3:tr[k + 1]∈tr.take (k + 1):=by
  rw [← e]
  exact List.mem_of_getElem? (i:=i) (by rw [List.getElem?_take,if_pos (by omega)];exact List.getElem?_eq_getElem hi)
 rw [decide_eq_true h3] at h2
 cases h2
theorem qcC {ss:List Str} {ns:List Nat} {dps ups:List (Str×Str)} {row:List Str} (hw:WOk ss ns) (hD:Duo ss ns dps ups):∀ {k:Nat},0 < k→k≤row.length→(∀ j,j < k→qa7 ups ss row j=true)→RowOk ss ns (row.take k)
 | 0,h,_,_=>absurd h (Nat.lt_irrefl 0)
 | k + 1,_,hk,hj=>by
  obtain ⟨z,gz⟩:∃ z,row[k]?=some z:=⟨_,List.getElem?_eq_getElem (by omega)⟩
  have h0:=hj k (by omega)
  unfold qa7 at h0
  rw [gz] at h0
  have htk:row.take (k + 1)=row.take k++[z]:=by rw [List.take_add_one,gz];rfl
  by_cases e:k=0
  ·subst e
   have h0:decide (z∈ss)=true:=h0
   rw [htk]
   exact row_one (of_decide_eq_true h0)
  ·have h0:decide (z∈mvL ups ss (row.take k) ((row.take k).getLast?.getD ""))=true:=by
    have h0:(if k=0 then decide (z∈ss) else decide (z∈mvL ups ss (row.take k) ((row.take k).getLast?.getD "")))=true:=h0
    rwa [if_neg e] at h0
   have hm:=of_decide_eq_true h0
   have ih:=qcC hw hD (k:=k) (by omega) (by omega) fun j h=>hj j (by omega)
   obtain ⟨y,gy⟩:∃ y,(row.take k).getLast?=some y:=⟨_,List.getLast?_eq_some_getLast ih.ne⟩
   rw [gy] at hm
   have hys:=ih.ins y (List.mem_of_getLast? gy)
   rw [htk]
   have h14:=ih.le14
   have few:=hw.few
   refine ih.snoc (by omega) gy ?_ (List.mem_filter.mp hm).1
   rw [qdT hw hD.wg.adj hD.ti hys]
   exact hm
theorem qgv {ss:List Str} {ns:List Nat} {dps ups:List (Str×Str)} {row:List Str} {k:Nat} {u z:Str} (hw:WOk ss ns) (hD:Duo ss ns dps ups) (hk:0 < k) (gu:row[k]?=some u) (hz:(row.take k).getLast?=some z) (hzs:z∈ss):qa7 ups ss row k=decide (u∈mvS ss ns (row.take k) z):=by
 unfold qa7
 rw [gu]
 show (if k=0 then decide (u∈ss) else decide (u∈mvL ups ss (row.take k) ((row.take k).getLast?.getD "")))=_
 rw [if_neg (by omega),hz,qdT hw hD.wg.adj hD.ti hzs]
 rfl
theorem FnOk.or {P:Program} {w:World} {K:W.Frag} {mg:Str→Option Value} {base:Heap} {CX:CXT} {k:Nat} {f:Addr} {fd:FuncData} {ps:List Str} {sp1 sp2:Sp} (F1:FnOk P w K mg base CX k f fd ps sp1) (F2:FnOk P w K mg base CX k f fd ps sp2):FnOk P w K mg base CX k f fd ps (fun vs H Q E=>sp1 vs H Q E∨sp2 vs H Q E):=
 ⟨fun vs H Q E h=>h.elim (F1.len vs H Q E) (F2.len vs H Q E),fun A outer s H args us vs Q E hr he hb hv hs=>hs.elim (F1.run A outer s H args us vs Q E hr he hb hv) (F2.run A outer s H args us vs Q E hr he hb hv)⟩
def qeU (cc:Nat→Addr) (cw:Addr):Sp:=fun vs H Q E=>qeS cc cw vs H Q E∨qgu cc cw vs H Q E
def qeV (cc:Nat→Addr) (cw:Addr):Sp:=fun vs H Q E=>qbq cc cw vs H Q E∨qeT cc cw vs H Q E
def SeqH (H:Hp) (l:Addr) (xs:List V):Prop:=H l=some (.lst xs)∨H l=some (.tup xs)
theorem SeqH.same {H H':Hp} {l:Addr} {xs:List V} (h:SeqH H l xs) (s:L2.Same H H'):SeqH H' l xs:=h.imp (fun e=>s _ _ e) fun e=>s _ _ e
def qfs (cc:Nat→Addr):Sp:=fun vs H Q E=>∃ (b r:Addr) (v:V) (o:Option (List V)),vs=[.ref b,v]∧Arg r H v o∧o.getD []=[]∧Rz cc H E (2,v)
def qft (cc:Nat→Addr) (cw:Addr):Sp:=fun vs H Q E=>∃ (b l:Addr) (ss:List Str) (ns:List Nat) (dps ups:List (Str×Str)) (row:List Str),vs=[.ref b,.ref l]∧WebAt cw H b ss ns∧Duo ss ns dps ups∧SeqH H l (row.map V.str)∧row≠[]∧row.length≤60∧(∀ s∈row,s.length≤1000) ∧
 (∀ u,fbN ups ss row=some 0→row[0]?=some u→Rz cc H E (2,.str u))∧(∀ k u,fbN ups ss row=some (k + 1)→row[k + 1]?=some u→Rz cc H E (5,.str u)) ∧
 (fbN ups ss row=none→∀ (x p:Addr) (H':Hp),L2.Same H H'→H x=none→H p=none→PlayAt (cc 9) cw H' x b p ss ns row→Q (.ref x) H')
theorem seq_ix {H:Hp} {l:Addr} {xs:List V} {i:Int} {y:V} {Q:VK} (h:SeqH H l xs) (ha:atI xs i=some y) (q:Q y H):qgh K (.ref l) (.int i) H Q:=h.elim (fun e=>.inl (zT e ha q)) fun e=>.inl (qfJ e ha q)
theorem seq_len {H:Hp} {l:Addr} {xs:List V} {Q:VK} (h:SeqH H l xs) (q:Q (.int xs.length) H):qcj K [.ref l] H Q:=h.elim (fun e=>qaq e q) fun e=>qfK e q
theorem seq_tl {H:Hp} {l:Addr} {x:V} {xs:List V} {Q:VK} (h:SeqH H l (x::xs)) (q:∀ d H',L2.Same H H'→H d=none→SeqH H' d xs→Q (.ref d) H'):qf8 K (.ref l) (some 1) none H Q:=by
 have ec:qaP (x::xs) (some 1) none=xs:=by have:=za (x::xs) 1;exact this
 rcases h with h | h
 ·refine .inl ⟨l,_,rfl,SqL.of h,fun d hd=>?_⟩
  rw [ec]
  exact q d _ (qK (Sr H) hd) hd (.inl qb)
 ·refine .inr ⟨l,_,rfl,SqT.of h,fun z=>?_,fun d hd=>?_⟩
  ·have z1:=z.1
   unfold HT.sIx at z1
   simp at z1
  ·rw [ec]
   exact q d _ (qK (Sr H) hd) hd (.inr qb)
theorem seq_for {l:Addr} {H:Hp} {xs:List V} {g:TG} {tb:TS} {D:Ends} {σ:L2.St} (h:SeqH H l xs) (Pv:Nat→L2.St→Hp→Prop) (h0:Pv 0 σ H) (hl:∀ i σ H',Pv i σ H'→∀ o,H l=some o→H' l=some o)
  (hs:∀ i x σ H,xs[i]?=some x→Pv i σ H→g x σ H fun σ2 H2=>tb { D with nx:=Pv (i + 1),ct:=Pv (i + 1),bk:=D.nx } σ2 H2) (hd:∀ σ H,Pv xs.length σ H→D.nx σ H) :
  ((∃ xs,SqL K H l xs)∧qgn g tb D σ (Itl K l) H)∨((∃ xs,SqT K H l xs)∧qgn g tb D σ (Itt K l) H):=by
 rcases h with h | h
 ·exact .inl ⟨⟨_,SqL.of h⟩,jO (K:=K) Pv h0 (fun i σ H' _ hp=>SqL.of (hl i σ H' hp _ h)) hs hd⟩
 ·exact .inr ⟨⟨_,SqT.of h⟩,qd1 (K:=K) Pv h0 (fun i σ H' _ hp=>SqT.of (hl i σ H' hp _ h)) hs hd⟩
theorem ok_pldE (F:Fun K "played" "played" zA f fd) (T:Txt K mg cc cw) (D_NoPlace:XMakeOk P w K mg base 2 (cc 2) "NoPlace" ["self", "found"] (spX (cc 2) (qaj 2))) (D_Play:MakeOk P w K mg base (CX1 P w) 5 (cc 9) "Play" ["self", "web", "start"] (qeU cc cw)) (D_Play_go:MethOk P w K mg base (CX1 P w) 9 (cc 9) "go" ["self", "name"] (qeV cc cw)):FnOk P w K mg base (CX1 P w) 10 f fd ["web", "names"] (qfs cc):=by
 refine F.ok1 sc_played (fun vs H Q E h=>?_) fun cdv A outer s H vs Q E hr h=>?_
 ·obtain ⟨b,r,v,o,rfl,_⟩:=h;rfl
 ·obtain ⟨b,r,v,o,rfl,hA,ho,hE⟩:=h
  have hu:=zH hr
  refine ⟨_,(qf (qN (PW.pt (qbp (jC (jj (qm (qbh (K:=K) rfl) rfl T.b_isinstance boot_isinstance (qa (pv 1) (qa (zQ (qa (jN (v:=.ty "list") rfl T.b_list boot_list rfl) (qa (jN (v:=.ty "tuple") rfl T.b_tuple boot_tuple rfl) qc))) qc))))) (qak (qp (zh (K:=K) rfl hu) (qm (jW (K:=K) rfl) rfl T.b_len boot_len (qa (pv 1) qc)) qg (qx _))))) (qe (jq (K:=K) rfl qH (qai D_NoPlace (hm hr) (qa (pv 1) qc)))) qo)
 (qf (qw (i:=2) sc_played.nd rfl (Or.inl rfl) (qbM D_Play (hm hr) qH (qa (pv 0) (qa (qO (qP (K:=K) rfl hu) (pv 1) qg (fun _ _=>rfl)) qc))))
 (qf (j8 PassesOwn.leaving rfl (j9 (K:=K) rfl (qz (qaR (K:=K) rfl) (pv 1) (qD qg) qS)) (qt (i:=3) sc_played.nd rfl (Or.inl rfl))
 (qe (qC (qaa D_Play_go (hm hr) qH (pv 2) (qa (pv 3) qc)))))
 (qe (qh (pv 2)))))),?_⟩
  walk_at "v"
  refine ⟨by show 2≤sizeLine;decide,fun tt htt=>?_⟩
  have s1:=qK (Sr H) (o:=.tup [.ty "list",.ty "tuple"]) htt
  have ett:upd H tt (.tup [.ty "list",.ty "tuple"]) tt=some (.tup [.ty "list",.ty "tuple"]):=qb
  replace hA:=hA.keep (H':=upd H tt (.tup [.ty "list",.ty "tuple"])) fun b o _ e=>s1 b o e
  generalize upd H tt (.tup [.ty "list",.ty "tuple"])=H1 at s1 ett hA ⊢
  walk_at "v"
  refine hA.isi ett ?_
  walk_at "v"
  cases o with
  | none =>
   refine qY (fun _=>?_) fun h=>absurd rfl h
   refine qbH ?_
   walk_at "v"
   exact qG (T.xat 2 (by decide)) (hE.later s1)
  | some xs =>
   have ho:xs=[]:=ho
   subst ho
   refine qY (fun h=>by cases h) fun _=>?_
   walk_at "v"
   refine hA.len ?_
   walk_at "v"
   refine .inl (.inl (.inl ⟨rfl,rfl,?_⟩))
   walk_at "v"
   refine qY (fun _=>?_) fun h=>absurd rfl h
   walk_at "v"
   exact qG (T.xat 2 (by decide)) (hE.later s1)
theorem ok_pldR (F:Fun K "played" "played" zA f fd) (T:Txt K mg cc cw) (D_NoPlace:XMakeOk P w K mg base 2 (cc 2) "NoPlace" ["self", "found"] (spX (cc 2) (qaj 2))) (D_Play:MakeOk P w K mg base (CX1 P w) 5 (cc 9) "Play" ["self", "web", "start"] (qeU cc cw)) (D_Play_go:MethOk P w K mg base (CX1 P w) 9 (cc 9) "go" ["self", "name"] (qeV cc cw)):FnOk P w K mg base (CX1 P w) 10 f fd ["web", "names"] (qft cc cw):=by
 refine F.ok1 sc_played (fun vs H Q E h=>?_) fun cdv A outer s H vs Q E hr h=>?_
 ·obtain ⟨b,l,ss,ns,dps,ups,row,rfl,_⟩:=h;rfl
 ·obtain ⟨b,l,ss,ns,dps,ups,row,rfl,hW,hD,hl,hne,l50,hln,e0,e1,q⟩:=h
  have hu:=zH hr
  have hw:=hW.ok
  refine ⟨_,(qf (qN (PW.pt (qbp (jC (jj (qm (qbh (K:=K) rfl) rfl T.b_isinstance boot_isinstance (qa (pv 1) (qa (zQ (qa (jN (v:=.ty "list") rfl T.b_list boot_list rfl) (qa (jN (v:=.ty "tuple") rfl T.b_tuple boot_tuple rfl) qc))) qc))))) (qak (qp (zh (K:=K) rfl hu) (qm (jW (K:=K) rfl) rfl T.b_len boot_len (qa (pv 1) qc)) qg (qx _))))) (qe (jq (K:=K) rfl qH (qai D_NoPlace (hm hr) (qa (pv 1) qc)))) qo)
 (qf (qw (i:=2) sc_played.nd rfl (Or.inl rfl) (qbM D_Play (hm hr) qH (qa (pv 0) (qa (qO (qP (K:=K) rfl hu) (pv 1) qg (fun _ _=>rfl)) qc))))
 (qf (j8 PassesOwn.leaving rfl (j9 (K:=K) rfl (qz (qaR (K:=K) rfl) (pv 1) (qD qg) qS)) (qt (i:=3) sc_played.nd rfl (Or.inl rfl))
 (qe (qC (qaa D_Play_go (hm hr) qH (pv 2) (qa (pv 3) qc)))))
 (qe (qh (pv 2)))))),?_⟩
  walk_at "v"
  refine ⟨by show 2≤sizeLine;decide,fun tt htt=>?_⟩
  have s1:=qK (Sr H) (o:=.tup [.ty "list",.ty "tuple"]) htt
  have ett:upd H tt (.tup [.ty "list",.ty "tuple"]) tt=some (.tup [.ty "list",.ty "tuple"]):=qb
  have hth:∀ x∈row.map V.str,Th tt (upd H tt (.tup [.ty "list",.ty "tuple"])) 2 x:=fun x hx=>by
   obtain ⟨s',hs',rfl⟩:=List.mem_map.mp hx
   have:=hln s' hs'
   exact Th.str (by omega)
  have hA:Arg tt (upd H tt (.tup [.ty "list",.ty "tuple"])) (.ref l) (some (row.map V.str)):=by
   have ntl:l≠tt:=hl.elim (fun e=>qy e htt) fun e=>qy e htt
   rcases hl.same s1 with h | h
   ·exact .lst h ntl hth (by rw [List.length_map];omega)
   ·exact .tup h ntl hth (by rw [List.length_map];omega)
  have hl1:=hl.same s1
  generalize upd H tt (.tup [.ty "list",.ty "tuple"])=H1 at s1 ett hA hl1 ⊢
  walk_at "v"
  refine hA.isi ett ?_
  walk_at "v"
  refine qY (fun h=>by cases h) fun _=>?_
  walk_at "v"
  refine seq_len hl1 ?_
  rw [List.length_map]
  walk_at "v"
  refine .inl (.inl (.inl ⟨rfl,rfl,?_⟩))
  walk_at "v"
  refine qY (fun h=>?_) fun _=>?_
  ·have h:eqV (V.int row.length) (V.int 0)=true:=h
   have h:((row.length:Nat):Int)=0:=by simpa [eqV] using h
   exact absurd (List.length_eq_zero_iff.mp (by omega)) hne
  walk_at "v"
  cases row with
  | nil=>exact absurd rfl hne
  | cons a rs =>
   have ha0:atI ((a::rs).map V.str) 0=some (.str a):=qJ (show ((a::rs).map V.str)[0]?=some (.str a) from rfl)
   refine seq_ix hl1 ha0 ?_
   walk_at "v"
   intro x dx hx0 hdx ndx
   have hx00:=s1.free hx0
   have sG:L2.Same H1 (upd (upd H1 dx (.own x)) x (.ins (cc 9) dx [])):=qK (qK (Sr H1) hdx) (by rw [qk ndx.symm];exact hx0)
   have eG:upd (upd H1 dx (.own x)) x (.ins (cc 9) dx []) x=some (.ins (cc 9) dx []):=qb
   generalize upd (upd H1 dx (.own x)) x (.ins (cc 9) dx [])=G at sG eG ⊢
   have s2:=s1.trans sG
   have hok0:qa7 ups ss (a::rs) 0=decide (a∈ss):=rfl
   have hla:=hln a List.mem_cons_self
   by_cases hin:a∈ss
   ·refine .inl ⟨x,dx,b,a,ss,ns,rfl,eG,hW.same s2,hin,fun p H2 b2 hp0 hPl=>⟨rfl,?_⟩⟩
    rw [decide_eq_true hin] at hok0
    have hp00:=s2.free hp0
    have s3:L2.Same H H2:=jA s2 b2 hx00
    walk_at "v"
    refine seq_tl (hl.same s3) fun d H4 s34 hd hsd=>?_
    have s4:=s3.trans s34
    have ndp:d≠p:=fun e=>by
     obtain ⟨_,_,z,_⟩:=hPl
     rw [e,z] at hd
     cases hd
    replace hPl:=hPl.same s34
    walk_at "v"
    refine seq_for hsd (fun i σ H'=>L2.Same H H'∧(∀ o,H4 d=some o→H' d=some o)∧PlayAt (cc 9) cw H' x b p ss ns ((a::rs).take (i + 1))∧(∀ j,j < i + 1→qa7 ups ss (a::rs) j=true)∧∃ x3,σ=[some (.ref b),some (.ref l),some (.ref x),x3]) ⟨s4,fun _ e=>e,hPl,(fun j hj=>by rw [show j=0 by omega];exact hok0),none,rfl⟩ (fun i σ H' hp=>hp.2.1) (fun i y σ H5 hy hp=>?_) fun σ H5 hp=>?_
    ·obtain ⟨s5,ed5,hP5,hj5,x3,rfl⟩:=hp
     obtain ⟨v,gv,rfl⟩:=ji hy
     have hi:i < rs.length:=(List.getElem?_eq_some_iff.mp gv).1
     have gv':(a::rs)[i + 1]?=some v:=by rw [List.getElem?_cons_succ];exact gv
     have hR:=qcC hw hD (row:=a::rs) (k:=i + 1) (by omega) (by rw [List.length_cons];omega) hj5
     obtain ⟨z,hz⟩:∃ z,((a::rs).take (i + 1)).getLast?=some z:=⟨_,List.getLast?_eq_some_getLast hR.ne⟩
     have hzs:=hR.ins z (List.mem_of_getLast? hz)
     have hoki:=qgv hw hD (row:=a::rs) (k:=i + 1) (by omega) gv' hz hzs
     have hlv:=hln v (List.mem_of_getElem? gv')
     obtain ⟨dx5,hx5,hp5,_⟩:=id hP5
     have nxp:x≠p:=zo hx5 hp5 (by intro z;cases z)
     walk_at "v"
     refine ⟨x,dx5,_,rfl,hx5,jc,?_⟩
     walk_at "v"
     by_cases hmv:v∈mvS ss ns ((a::rs).take (i + 1)) z
     ·rw [decide_eq_true hmv] at hoki
      refine .inl ⟨x,b,p,ss,ns,_,z,v,rfl,hP5,by have:=hR.few;omega,hz,hzs,hmv,fun H6 b6 e6=>?_⟩
      have s6:=jA s5 b6 hp00
      refine ⟨s6,fun o e=>b6 _ _ ndp (ed5 o e),⟨dx5,b6 _ _ nxp hx5,?_,hW.same s6⟩,fun j hj=>?_,_,rfl⟩
      ·rw [e6,List.take_add_one (i:=i + 1),gv']
       rfl
      ·by_cases e:j=i + 1
       ·rw [e];exact hoki
       ·exact hj5 j (by omega)
     ·rw [decide_eq_false hmv] at hoki
      exact .inr ⟨x,b,p,x,0,ss,ns,_,z,.str v,rfl,hP5,hz,hzs,Th.str (by omega),(fun u e=>by cases e;exact hmv),(e1 i v (qdU (by rw [List.length_cons];omega) hoki hj5) gv').later s5⟩
    ·obtain ⟨s5,ed5,hP5,hj5,x3,rfl⟩:=hp
     rw [List.length_map] at hP5 hj5
     have eN:fbN ups ss (a::rs)=none:=by
      cases e:fbN ups ss (a::rs) with
      | none=>rfl
      | some k =>
       obtain ⟨g1,g2,_⟩:=qbU e
       rw [List.length_cons] at g1
       rw [hj5 k g1] at g2
       cases g2
     rw [show (a::rs).take (rs.length + 1)=a::rs from List.take_of_length_le (by rw [List.length_cons];exact Nat.le_refl _)] at hP5
     walk_at "v"
     exact q eN x p H5 s5 hx00 hp00 hP5
   ·refine .inr ⟨x,b,x,0,ss,ns,.str a,rfl,hW.same s2,Th.str (by omega),qcz hin,?_⟩
    rw [decide_eq_false hin] at hok0
    exact (e0 a (qdU (by rw [List.length_cons];omega) hok0 fun j h=>absurd h (Nat.not_lt_zero j)) rfl).later s2
theorem sc_words_from_start:FnScope ["web", "text", "words"] ["web", "text"] (qd qR):=fS
theorem sc_go_along:FnScope ["walk", "words", "at", "word"] ["walk", "words"] (qd zm):=fS
theorem sc_read_play:FnScope ["web", "text", "words", "play"] ["web", "text"] (qd j4):=fS
def wdS (z:Str):List Str:=Txt.split z " > "
theorem qeW (z:Str):wdS z≠[]:=fun h=>by
 have:=split_pos z " > "
 unfold wdS at h
 rw [h] at this
 exact absurd this (by decide)
theorem qfu (c:List Nat):∀ {xs:List (List Nat)} {x:List Nat},x∈xs→x.length≤(jl c xs).length
 | [],_,h=>by cases h
 | [y],x,h=>by rw [List.mem_singleton.mp h];exact Nat.le_refl _
 | y::y'::r,x,h=>by
  show x.length≤(y++c++jl c (y'::r)).length
  rw [List.length_append,List.length_append]
  rcases List.mem_cons.mp h with rfl | h
  ·omega
  ·have:=qfu c h
   omega
theorem qfv {z u:Str} (h:u∈wdS z):u.length≤z.length:=by
 have h1:=zV " > " (wdS z)
 unfold wdS at h1 h
 rw [StrLaws.join_split] at h1
 have h2:=qfu (" > ":Str).cps.toList (x:=u.cps.toList) (xs:=(Txt.split z " > ").map (·.cps.toList)) (List.mem_map.mpr ⟨u,h,rfl⟩)
 rw [← h1] at h2
 simpa [Str.length] using h2
def qgw (cc:Nat→Addr) (cw:Addr):Sp:=fun vs H Q E=>∃ (b r:Addr) (k:Nat) (ss:List Str) (ns:List Nat) (v:V),vs=[.ref b,v]∧WebAt cw H b ss ns∧Th r H k v∧((∀ z,v≠.str z)→Rz cc H E (7,.int 0))∧∀ z,v=.str z→z.length≤10000∧(∀ u,(wdS z)[0]?=some u→u∉ss→Rz cc H E (7,.int 0)) ∧
 ∀ u,(wdS z)[0]?=some u→u∈ss→∀ (l:Addr) (H':Hp),L2.Same H H'→H l=none→H' l=some (.lst ((wdS z).map V.str))→Q (.ref l) H'
def qgx (cc:Nat→Addr) (cw:Addr):Sp:=fun vs H Q E=>∃ (H0:Hp) (x b p l:Addr) (ss:List Str) (ns:List Nat) (dps ups:List (Str×Str)) (u:Str) (rs:List Str),vs=[.ref x,.ref l]∧L2.Same H0 H∧H0 p=none∧WebAt cw H0 b ss ns∧Duo ss ns dps ups∧PlayAt (cc 9) cw H x b p ss ns [u]∧H l=some (.lst ((u::rs).map V.str))∧u∈ss∧(∀ s∈rs,s.length≤10000) ∧
 (∀ k,fbN ups ss (u::rs)=some (k + 1)→Rz cc H0 E (7,.int ((k + 1:Nat):Int)))∧(fbN ups ss (u::rs)=none→∀ H',L2.Same H0 H'→PlayAt (cc 9) cw H' x b p ss ns (u::rs)→Q .non H')
def qfS (cc:Nat→Addr) (cw:Addr):Sp:=fun vs H Q E=>∃ (b r:Addr) (k:Nat) (ss:List Str) (ns:List Nat) (dps ups:List (Str×Str)) (v:V),vs=[.ref b,v]∧WebAt cw H b ss ns∧Duo ss ns dps ups∧Th r H k v∧((∀ z,v≠.str z)→Rz cc H E (7,.int 0))∧∀ z,v=.str z→z.length≤10000∧(∀ k:Nat,fbN ups ss (wdS z)=some k→Rz cc H E (7,.int (k:Int))) ∧
 (fbN ups ss (wdS z)=none→∀ (x p:Addr) (H':Hp),L2.Same H H'→H x=none→H p=none→PlayAt (cc 9) cw H' x b p ss ns (wdS z)→Q (.ref x) H')
theorem ok_wfs (F:Fun K "words_from_start" "words_from_start" qR f fd) (T:Txt K mg cc cw) (D_NoText:XMakeOk P w K mg base 2 (cc 7) "NoText" ["self", "at"] (spX (cc 7) (qaj 7))) (D_Web_has_place:MethOk P w K mg base CX0 3 cw "has_place" ["self", "thing"] (qew cw)):FnOk P w K mg base (CX1 P w) 4 f fd ["web", "text"] (qgw cc cw):=by
 refine F.ok1 sc_words_from_start (fun vs H Q E h=>?_) fun cdv A outer s H vs Q E hr h=>?_
 ·obtain ⟨b,r,k,ss,ns,v,rfl,_⟩:=h;rfl
 ·obtain ⟨b,r,k,ss,ns,v,rfl,hW,hv,hno,hz⟩:=h
  have hu:=zH hr
  obtain ⟨tv,htv,tyv,st1,st2,_⟩:=hv.ty (K:=K)
  have ks:=qbK K tv htv "str" (by simp)
  refine ⟨_,(qf (qN (jC (jj (qm (qdr (K:=K) rfl) rfl T.b_isinstance boot_isinstance (qa (pv 1) (qa (jN (v:=.ty "str") rfl T.b_str boot_str rfl) qc))))) (qe (jq (K:=K) rfl qH (qai D_NoText (hm hr) (qa qg qc)))) qo)
 (qf (qw (i:=2) sc_words_from_start.nd rfl (Or.inl rfl) (qcE (K:=K) rfl PySem.F.plainAttrs_str PySem.F.slot_str_split PySem.F.type_str_split qdt (pv 1) (qa qV qc)))
 (qf (qN (jC (jj (j6 D_Web_has_place (hm hr) (pv 0) (qa (qO (qP (K:=K) rfl hu) (pv 2) qg (fun _ _=>rfl)) qc)))) (qe (jq (K:=K) rfl qH (qai D_NoText (hm hr) (qa qg qc)))) qo)
 (qe (qh (pv 2)))))),?_⟩
  walk_at "v"
  refine qeN (.inl tyv) rfl ks ?_
  walk_at "v"
  cases e1:qeh tv "str" with
  | false =>
   refine qY (fun _=>?_) fun h=>absurd rfl h
   walk_at "v"
   refine qG (T.xat 7 (by decide)) (hno fun z e=>?_)
   subst e
   cases tyv
   cases e1
  | true =>
   obtain ⟨z,rfl,_⟩:=st1 e1
   obtain ⟨hzl,hbad,hgood⟩:=hz z rfl
   refine qY (fun h=>by cases h) fun _=>?_
   walk_at "v"
   refine ⟨rfl,?_⟩
   walk_at "v"
   refine ⟨z,_,rfl,rfl,rfl,Nat.le_trans (show z.length + 2≤10002 by omega) (by decide),fun l hl=>?_⟩
   have s1:=qK (Sr H) (o:=.lst ((wdS z).map V.str)) hl
   have el:upd H l (.lst ((wdS z).map V.str)) l=some (.lst ((wdS z).map V.str)):=qb
   change qgF _ _ _ _ (upd H l (.lst ((wdS z).map V.str)))
   generalize upd H l (.lst ((wdS z).map V.str))=H1 at s1 el ⊢
   obtain ⟨u,hu0⟩:∃ u,(wdS z)[0]?=some u:=⟨_,List.getElem?_eq_getElem (List.length_pos_iff.mpr (qeW z))⟩
   have hul:=qfv (List.mem_of_getElem? hu0)
   obtain ⟨wx,d,ol,n,hb,_,_,_,hw⟩:=id (hW.same s1)
   walk_at "v"
   refine ⟨b,wx,_,rfl,hb,qaV (by decide +kernel),?_⟩
   walk_at "v"
   refine .inl (zT el (qJ (j:=0) (by rw [List.getElem?_map,hu0];rfl)) ?_)
   walk_at "v"
   refine ⟨b,0,b,ss,ns,.str u,rfl,hW.same s1,Th.str (by omega),fun H2 s2=>?_⟩
   walk_at "v"
   by_cases hin:u∈ss
   ·rw [qac hin (hw.nm _ hin)]
    refine qY (fun h=>by cases h) fun _=>?_
    walk_at "v"
    exact hgood u hu0 hin l H2 (s1.trans s2) hl (s2 _ _ el)
   ·rw [qcz hin]
    refine qbH ?_
    walk_at "v"
    exact qG (T.xat 7 (by decide)) ((hbad u hu0 hin).later (s1.trans s2))
theorem ok_gal (F:Fun K "go_along" "go_along" zm f fd) (T:Txt K mg cc cw) (D_NoText:XMakeOk P w K mg base 2 (cc 7) "NoText" ["self", "at"] (spX (cc 7) (qaj 7))) (D_Play_moves:MethOk P w K mg base CX0 7 (cc 9) "moves" ["self"] (qeI cc cw)) (D_Play_go:MethOk P w K mg base (CX1 P w) 9 (cc 9) "go" ["self", "name"] (qeV cc cw)):FnOk P w K mg base (CX1 P w) 10 f fd ["walk", "words"] (qgx cc cw):=by
 refine F.ok1 sc_go_along (fun vs H Q E h=>?_) fun cdv A outer s H vs Q E hr h=>?_
 ·obtain ⟨H0,x,b,p,l,ss,ns,dps,ups,u,rs,rfl,_⟩:=h;rfl
 ·obtain ⟨H0,x,b,p,l,ss,ns,dps,ups,u,rs,rfl,s0,hp0,hW,hD,hP,hl,hus,hln,hE,q⟩:=h
  have hu:=zH hr
  have hw:=hW.ok
  have few:=hw.few
  refine ⟨_,(qe (j8 PassesOwn.leaving rfl (pi_enum1 (K:=K) rfl rfl T.b_enumerate (qz (qaR (K:=K) rfl) (pv 1) (qD qg) qS)) (qc6 rfl (ju (qt (i:=2) sc_go_along.nd rfl (Or.inl rfl)) (ju (qt (i:=3) sc_go_along.nd rfl (Or.inl rfl)) qbE)))
 (qf (qN (qp (zg (K:=K) rfl hu) (pv 3) (qB D_Play_moves (hm hr) (pv 0)) (by with_unfolding_all rfl)) (qe (jq (K:=K) rfl qH (qai D_NoText (hm hr) (qa (pv 2) qc)))) qo)
 (qe (qC (qaa D_Play_go (hm hr) qH (pv 0) (qa (pv 3) qc))))))),?_⟩
  walk_at "v"
  refine vEnum1 ?_
  walk_at "v"
  obtain ⟨dx,hx,hp,_⟩:=id hP
  have nxp:x≠p:=zo hx hp (by intro z;cases z)
  have ec:qaP ((u::rs).map V.str) (some 1) none=rs.map V.str:=by
   have:=za ((u::rs).map V.str) 1
   rw [← List.map_drop] at this
   exact this
  refine .inl ⟨l,_,rfl,SqL.of hl,fun d hd=>?_⟩
  rw [ec]
  have ndp:d≠p:=fun e=>by rw [e,hp] at hd;cases hd
  have s1:=qK (Sr H) (o:=.lst (rs.map V.str)) hd
  have ed:upd H d (.lst (rs.map V.str)) d=some (.lst (rs.map V.str)):=qb
  generalize upd H d (.lst (rs.map V.str))=H1 at s1 ed ⊢
  refine ⟨d,_,rfl,SqL.of ed,for_enum1 (K:=K) (fun i σ H'=>L2.Same H0 H'∧H' d=some (.lst (rs.map V.str))∧PlayAt (cc 9) cw H' x b p ss ns ((u::rs).take (i + 1))∧(∀ j,j < i + 1→qa7 ups ss (u::rs) j=true)∧∃ x2 x3,σ=[some (.ref x),some (.ref l),x2,x3]) ⟨s0.trans s1,ed,hP.same s1,(fun j hj=>by rw [show j=0 by omega];exact decide_eq_true hus),none,none,rfl⟩ (fun i σ H' _ hp=>SqL.of hp.2.1) (fun i y t σ J hy ht hp'=>?_) fun σ J hp'=>?_⟩
  ·obtain ⟨sJ,edJ,hPJ,hj,x2,x3,rfl⟩:=hp'
   obtain ⟨v,gv,rfl⟩:=ji hy
   have hi:i < rs.length:=(List.getElem?_eq_some_iff.mp gv).1
   have gv':(u::rs)[i + 1]?=some v:=by rw [List.getElem?_cons_succ];exact gv
   have hR:=qcC hw hD (row:=u::rs) (k:=i + 1) (by omega) (by rw [List.length_cons];omega) hj
   obtain ⟨z,hz⟩:∃ z,((u::rs).take (i + 1)).getLast?=some z:=⟨_,List.getLast?_eq_some_getLast hR.ne⟩
   have hzs:=hR.ins z (List.mem_of_getLast? hz)
   have hoki:=qgv hw hD (row:=u::rs) (k:=i + 1) (by omega) gv' hz hzs
   have hlv:=hln v (List.mem_of_getElem? gv)
   refine ⟨t,_,rfl,SqT.of qb,rfl,_,_,rfl,_,_,rfl,rfl,?_⟩
   have sJt:=qK (Sr J) (o:=.tup [.int ((i + 1:Nat):Int),.str v]) ht
   replace edJ:=sJt _ _ edJ
   replace hPJ:=hPJ.same sJt
   have sJ1:=sJ.trans sJt
   generalize upd J t (.tup [.int ((i + 1:Nat):Int),.str v])=J1 at sJ1 edJ hPJ ⊢
   obtain ⟨dxJ,hxJ,hpJ,_⟩:=id hPJ
   walk_at "v"
   refine ⟨x,dxJ,_,rfl,hxJ,jc,?_⟩
   walk_at "v"
   refine ⟨x,b,p,ss,ns,_,z,rfl,hPJ,hz,hzs,fun m J2 s12 hm0 hm=>?_⟩
   refine .inl ⟨m,_,rfl,.inl (SqL.of hm),rfl,jS _,?_⟩
   rw [zO]
   walk_at "v"
   by_cases hmv:v∈mvS ss ns ((u::rs).take (i + 1)) z
   ·rw [decide_eq_true hmv] at hoki ⊢
    refine qY (fun h=>by cases h) fun _=>?_
    have hPJ2:=hPJ.same s12
    walk_at "v"
    refine ⟨x,dxJ,_,rfl,s12 _ _ hxJ,jc,?_⟩
    walk_at "v"
    refine .inl ⟨x,b,p,ss,ns,_,z,v,rfl,hPJ2,hR.few,hz,hzs,hmv,fun H6 b6 e6=>?_⟩
    have s6:=jA (sJ1.trans s12) b6 hp0
    refine ⟨s6,b6 _ _ ndp (s12 _ _ edJ),⟨dxJ,b6 _ _ nxp (s12 _ _ hxJ),?_,hW.same s6⟩,fun j hj'=>?_,_,_,rfl⟩
    ·rw [e6,List.take_add_one (i:=i + 1),gv']
     rfl
    ·by_cases e:j=i + 1
     ·rw [e];exact hoki
     ·exact hj j (by omega)
   ·rw [decide_eq_false hmv] at hoki ⊢
    refine qbH ?_
    walk_at "v"
    exact qG (T.xat 7 (by decide)) ((hE i (qdU (by rw [List.length_cons];omega) hoki hj)).later (sJ1.trans s12))
  ·obtain ⟨sJ,edJ,hPJ,hj,x2,x3,rfl⟩:=hp'
   rw [List.length_map] at hPJ hj
   have eN:fbN ups ss (u::rs)=none:=by
    cases e:fbN ups ss (u::rs) with
    | none=>rfl
    | some k =>
     obtain ⟨g1,g2,_⟩:=qbU e
     rw [List.length_cons] at g1
     rw [hj k g1] at g2
     cases g2
   rw [show (u::rs).take (rs.length + 1)=u::rs from List.take_of_length_le (by rw [List.length_cons];exact Nat.le_refl _)] at hPJ
   exact q eN J sJ hPJ
theorem ok_rdp (F:Fun K "read_play" "read_play" j4 f fd) (T:Txt K mg cc cw) (D_words_from_start:DefOk P w K mg base (CX1 P w) 4 "words_from_start" ["web", "text"] (qgw cc cw)) (D_Play:MakeOk P w K mg base (CX1 P w) 5 (cc 9) "Play" ["self", "web", "start"] (qeU cc cw)) (D_go_along:DefOk P w K mg base (CX1 P w) 10 "go_along" ["walk", "words"] (qgx cc cw)):FnOk P w K mg base (CX1 P w) 11 f fd ["web", "text"] (qfS cc cw):=by
 refine F.ok1 sc_read_play (fun vs H Q E h=>?_) fun cdv A outer s H vs Q E hr h=>?_
 ·obtain ⟨b,r,k,ss,ns,dps,ups,v,rfl,_⟩:=h;rfl
 ·obtain ⟨b,r,k,ss,ns,dps,ups,v,rfl,hW,hD,hv,hno,hz⟩:=h
  have hu:=zH hr
  refine ⟨_,(qf (qw (i:=2) sc_read_play.nd rfl (Or.inl rfl) (qar D_words_from_start (hm hr) qH (qa (pv 0) (qa (pv 1) qc))))
 (qf (qw (i:=3) sc_read_play.nd rfl (Or.inl rfl) (qbM D_Play (hm hr) qH (qa (pv 0) (qa (qO (qP (K:=K) rfl hu) (pv 2) qg (fun _ _=>rfl)) qc))))
 (qf (qC (qar D_go_along (hm hr) qH (qa (pv 3) (qa (pv 2) qc))))
 (qe (qh (pv 3)))))),?_⟩
  walk_at "v"
  refine ⟨b,r,k,ss,ns,v,rfl,hW,hv,hno,fun z ez=>?_⟩
  obtain ⟨hzl,hbad,hgood⟩:=hz z ez
  have hpos:=List.length_pos_iff.mpr (qeW z)
  refine ⟨hzl,fun u hu0 hin=>?_,fun u hu0 hin l H1 s1 hl0 hl=>?_⟩
  ·refine hbad 0 (qdU hpos ?_ fun j h=>absurd h (Nat.not_lt_zero j))
   unfold qa7
   rw [hu0]
   exact decide_eq_false hin
  ·walk_at "v"
   refine .inl (zT hl (qJ (j:=0) (by rw [List.getElem?_map,hu0];rfl)) ?_)
   walk_at "v"
   intro x0 dx0 hx0 hdx0 ndx0
   have sG:L2.Same H1 (upd (upd H1 dx0 (.own x0)) x0 (.ins (cc 9) dx0 [])):=qK (qK (Sr H1) hdx0) (by rw [qk ndx0.symm];exact hx0)
   have eG:upd (upd H1 dx0 (.own x0)) x0 (.ins (cc 9) dx0 []) x0=some (.ins (cc 9) dx0 []):=qb
   generalize upd (upd H1 dx0 (.own x0)) x0 (.ins (cc 9) dx0 [])=G at sG eG ⊢
   refine .inl ⟨x0,dx0,b,u,ss,ns,rfl,eG,(hW.same s1).same sG,hin,fun p0 H2 b2 hp0 hP0=>⟨rfl,?_⟩⟩
   have s12:L2.Same H1 H2:=jA sG b2 hx0
   have s2:=s1.trans s12
   have hp00:=s1.free (sG.free hp0)
   have hx00:=s1.free hx0
   obtain ⟨rs,ers⟩:∃ rs,wdS z=u::rs:=by
    cases e:wdS z with
    | nil=>exact absurd e (qeW z)
    | cons a rs=>rw [e] at hu0;cases hu0;exact ⟨rs,rfl⟩
   rw [ers] at hbad hgood hl
   walk_at "v"
   refine ⟨H,x0,b,p0,l,ss,ns,dps,ups,u,rs,rfl,s2,hp00,hW,hD,hP0,s12 _ _ hl,hin,(fun s' hs'=>by have:=qfv (z:=z) (u:=s') (by rw [ers];exact List.mem_cons_of_mem _ hs');omega),(fun k e=>hbad (k + 1) e),fun eN H3 s3 hP3=>?_⟩
   walk_at "v"
   exact hgood eN x0 p0 H3 s3 hx00 hp00 hP3
theorem sc_l_row:FnScope ["_law_names_here", "_law_ties_here", "_law_numbers_here", "_law_row_here", "_law_number", "_law_moves_here"] ["_law_names_here", "_law_ties_here", "_law_numbers_here"] (qd qaX):=fS
theorem sc_l_first_bad:FnScope ["_law_names_here", "_law_ties_here", "_law_row_here", "_law_at", "_law_word"] ["_law_names_here", "_law_ties_here", "_law_row_here"] (qd jB):=fS
def RowG (ups:List (Str×Str)) (ss row:List Str):Prop:=row≠[]∧∀ j,j < row.length→qa7 ups ss row j=true
theorem okAt_pre {ups:List (Str×Str)} {ss row ys:List Str} {j:Nat} (h:j < row.length):qa7 ups ss (row++ys) j=qa7 ups ss row j:=by
 unfold qa7
 rw [List.getElem?_append_left h,List.take_append_of_le_length (by omega)]
theorem RowG.snoc {ups:List (Str×Str)} {ss row:List Str} {z v:Str} (h:RowG ups ss row) (hz:row.getLast?=some z) (hv:v∈mvL ups ss row z):RowG ups ss (row++[v]):=by
 refine ⟨by simp,fun j hj=>?_⟩
 rw [List.length_append] at hj
 have hj:j < row.length + 1:=hj
 by_cases e:j < row.length
 ·rw [okAt_pre e];exact h.2 j e
 ·obtain rfl:j=row.length:=by omega
  have h0:row.length≠0:=fun e=>h.1 (List.length_eq_zero_iff.mp e)
  unfold qa7
  rw [List.getElem?_append_right (Nat.le_refl _),Nat.sub_self]
  show (if row.length=0 then decide (v∈ss) else decide (v∈mvL ups ss ((row++[v]).take row.length) (((row++[v]).take row.length).getLast?.getD "")))=true
  rw [if_neg h0,List.take_left,hz]
  exact decide_eq_true hv
def qfw:Sp:=fun vs H Q _=>∃ (n l nu:Addr) (ss:List Str) (ts:List Addr) (ups:List (Str×Str)) (nms:List Int),vs=[.ref n,.ref l,.ref nu]∧H n=some (.lst (ss.map V.str))∧ss.length≤14∧ss≠[]∧PL H l ts ups∧H nu=some (.lst (nms.map V.int))∧nms≠[]∧nms.length≤20∧∀ (r:Addr) (row:List Str) (H':Hp),L2.Same H H'→H r=none→H' r=some (.lst (row.map V.str))→RowG ups ss row→row.length≤20→Q (.ref r) H'
def fbV:Option Nat→V
 | none=>.non
 | some k=>.int (k:Int)
def qhy:Sp:=fun vs H Q _=>∃ (n l r:Addr) (ss:List Str) (ts:List Addr) (ups:List (Str×Str)) (row:List Str),vs=[.ref n,.ref l,.ref r]∧H n=some (.lst (ss.map V.str))∧ss.length≤14∧PL H l ts ups∧H r=some (.lst (row.map V.str))∧∀ (H':Hp),L2.Same H H'→Q (fbV (fbN ups ss row)) H'
theorem ok_rw14 (F:Fun K "_law_row" "_law_row" qaX f fd) (T:Txt K mg cc cw) (D_l_moves:DefOk P w K mg base CX0 2 "_law_moves" ["_law_names_here", "_law_ties_here", "_law_trail"] qgs):FnOk P w K mg base CX0 3 f fd ["_law_names_here", "_law_ties_here", "_law_numbers_here"] qfw:=by
 refine F.ok sc_l_row (fun vs H Q E h=>?_) fun cdv A outer s H vs Q E hr h=>?_
 ·obtain ⟨n,l,nu,ss,ts,ups,nms,rfl,_⟩:=h;rfl
 ·obtain ⟨n,l,nu,ss,ts,ups,nms,rfl,hn,few,hss,hl,hnu,hnm,l20,q⟩:=h
  have hu:=zH hr
  have hpos:=List.length_pos_iff.mpr hss
  cases nms with
  | nil=>exact absurd rfl hnm
  | cons c cs =>
   refine ⟨_,(qf (qw (i:=3) sc_l_row.nd rfl (Or.inl rfl) (qA (qa (qO (qP (K:=K) rfl hu) (pv 0) (qu ze (qO (qP (K:=K) rfl hu) (pv 2) qg (fun _ _=>rfl)) (qm (jW (K:=K) rfl) rfl T.b_len boot_len (qa (pv 0) qc))) (fun _ _=>rfl)) qc)))
 (qf (j8 PassesOwn.never rfl (j9 (K:=K) rfl (qz (qaR (K:=K) rfl) (pv 2) (qD qg) qS)) (qt (i:=4) sc_l_row.nd rfl (Or.inl rfl))
 (qf (qw (i:=5) sc_l_row.nd rfl (Or.inl rfl) (qr D_l_moves (hm hr) qE (qa (pv 0) (qa (pv 1) (qa (pv 3) qc)))))
 (qe (qN (PW.pt (qa9 (qp (qas (K:=K) rfl hu) (pv 5) (qA qc) (qx _)) (qan (qp qdK (qu qbF (pv 4) qg) qg (qx _))))) (qe (qC (qcE (K:=K) rfl PySem.F.plainAttrs_list PySem.F.slot_list_append PySem.F.type_list_append jJ (pv 3) (qa (qO (qP (K:=K) rfl hu) (pv 5) (qu ze (pv 4) (qm (jW (K:=K) rfl) rfl T.b_len boot_len (qa (pv 5) qc))) (fun _ _=>rfl)) qc)))) qo))))
 (qe (qh (pv 3))))),?_⟩
   walk_at "v"
   refine .inl (zT hnu (qJ (j:=0) rfl) ?_)
   walk_at "v"
   refine qaq hn ?_
   rw [List.length_map]
   refine vI (show (0:Int) < (ss.length:Int) by omega) ?_
   refine qg3 hn (Int.emod_nonneg _ (by omega)) (Int.emod_lt_of_pos _ (by omega)) fun st hst=>?_
   walk_at "v"
   refine ⟨by show 1≤sizeLine;decide,fun r hr0=>?_⟩
   have s1:=qK (Sr H) (o:=.lst [.str st]) hr0
   have er:upd H r (.lst [.str st]) r=some (.lst ([st].map V.str)):=qb
   generalize upd H r (.lst [.str st])=H1 at s1 er ⊢
   have ec:qaP ((c::cs).map V.int) (some 1) none=cs.map V.int:=by
    have:=za ((c::cs).map V.int) 1
    rw [← List.map_drop] at this
    exact this
   walk_at "v"
   refine .inl ⟨nu,_,rfl,SqL.of (s1 _ _ hnu),fun d hd=>?_⟩
   rw [ec]
   have ndr:d≠r:=fun e=>by rw [e,er] at hd;cases hd
   have s12:=qK (Sr H1) (o:=.lst (cs.map V.int)) hd
   have ed:upd H1 d (.lst (cs.map V.int)) d=some (.lst (cs.map V.int)):=qb
   have s2:=s1.trans s12
   replace er:=s12 _ _ er
   generalize upd H1 d (.lst (cs.map V.int))=H2 at s2 er ed ⊢
   have hG0:RowG ups ss [st]:=⟨by simp,fun j hj=>by rw [show j=0 by have:j < 1:=hj;omega];exact decide_eq_true hst⟩
   walk_at "v"
   refine .inl ⟨⟨_,SqL.of ed⟩,jO (K:=K) (fun i σ H'=>L2.Same H H'∧H' d=some (.lst (cs.map V.int))∧∃ row,H' r=some (.lst (row.map V.str))∧RowG ups ss row∧row.length≤i + 1∧∃ x4 x5,σ=[some (.ref n),some (.ref l),some (.ref nu),some (.ref r),x4,x5]) ⟨s2,ed,[st],er,hG0,Nat.le_refl _,none,none,rfl⟩ (fun i σ H' _ hp=>SqL.of hp.2.1) (fun i y σ J hy hp=>?_) fun σ J hp=>?_⟩
   ·obtain ⟨sJ,edJ,row,erJ,hG,hrl,x4,x5,rfl⟩:=hp
    have hi:i < 20:=by have:=(List.getElem?_eq_some_iff.mp hy).1;rw [List.length_map] at this;rw [List.length_cons] at l20;omega
    obtain ⟨nb,rfl⟩:∃ nb,y=.int nb:=by
     obtain ⟨nb,_,e⟩:=List.mem_map.mp (List.mem_of_getElem? hy)
     exact ⟨nb,e.symm⟩
    obtain ⟨z,hz⟩:∃ z,row.getLast?=some z:=⟨_,List.getLast?_eq_some_getLast hG.1⟩
    walk_at "v"
    refine ⟨n,l,r,ss,ts,ups,row,z,rfl,sJ _ _ hn,few,hl.same sJ,erJ,hz,fun m J1 s1' hm0 hm=>?_⟩
    have sJ1:=sJ.trans s1'
    walk_at "v"
    refine ⟨by decide,fun e he=>?_⟩
    have s12':=qK (Sr J1) (o:=.lst []) he
    have ee:upd J1 e (.lst []) e=some (.lst []):=qb
    have sJ2:=sJ1.trans s12'
    have erJ2:=s12' _ _ (s1' _ _ erJ)
    have edJ2:=s12' _ _ (s1' _ _ edJ)
    replace hm:=s12' _ _ hm
    generalize upd J1 e (.lst [])=J2 at sJ2 ee hm erJ2 edJ2 ⊢
    refine .inr (.inl ⟨m,e,_,1,rfl,rfl,by decide,qdE hm ee,?_⟩)
    walk_at "v"
    refine qY (fun h=>?_) fun _=>qY (fun h=>by first | cases h | contradiction) fun _=>⟨sJ2,edJ2,row,erJ2,hG,by omega,_,_,rfl⟩
    have hne:mvL ups ss row z≠[]:=by simpa using h
    have hml:0 < (mvL ups ss row z).length:=List.length_pos_iff.mpr hne
    walk_at "v"
    refine vI ⟨by decide,by decide⟩ ?_
    walk_at "v"
    refine qY (fun _=>?_) fun _=>⟨sJ2,edJ2,row,erJ2,hG,by omega,_,_,rfl⟩
    walk_at "v"
    refine ⟨.inl ⟨rfl,_,SqL.of erJ2⟩,?_⟩
    walk_at "v"
    refine qaq hm ?_
    rw [List.length_map]
    refine vI (show (0:Int) < ((mvL ups ss row z).length:Int) by omega) ?_
    refine qg3 hm (Int.emod_nonneg _ (by omega)) (Int.emod_lt_of_pos _ (by omega)) fun v hv=>?_
    walk_at "v"
    refine ⟨r,_,_,rfl,rfl,erJ2,by rw [List.length_map];exact qq (by omega),?_⟩
    have b3:=(But.refl r J2).put (o:=.lst (row.map V.str++[.str v]))
    exact ⟨jA sJ2 b3 hr0,b3 _ _ ndr edJ2,row++[v],by rw [qb,List.map_append];rfl,hG.snoc hz hv,by rw [List.length_append];show row.length + 1≤i + 1 + 1;omega,_,_,rfl⟩
   ·obtain ⟨sJ,edJ,row,erJ,hG,hrl,x4,x5,rfl⟩:=hp
    rw [List.length_map] at hrl
    rw [List.length_cons] at l20
    walk_at "v"
    exact q r row J sJ hr0 erJ hG (by omega)
theorem ok_fb (F:Fun K "_law_first_bad" "_law_first_bad" jB f fd) (T:Txt K mg cc cw) (D_l_moves:DefOk P w K mg base CX0 2 "_law_moves" ["_law_names_here", "_law_ties_here", "_law_trail"] qgs):FnOk P w K mg base CX0 3 f fd ["_law_names_here", "_law_ties_here", "_law_row_here"] qhy:=by
 refine F.ok sc_l_first_bad (fun vs H Q E h=>?_) fun cdv A outer s H vs Q E hr h=>?_
 ·obtain ⟨n,l,r,ss,ts,ups,row,rfl,_⟩:=h;rfl
 ·obtain ⟨n,l,r,ss,ts,ups,row,rfl,hn,few,hl,her,q⟩:=h
  have hu:=zH hr
  refine ⟨_,(qf (j8 PassesOwn.never rfl (pi_enum (K:=K) rfl rfl T.b_enumerate (qa (pv 2) qc)) (qc6 rfl (ju (qt (i:=3) sc_l_first_bad.nd rfl (Or.inl rfl)) (ju (qt (i:=4) sc_l_first_bad.nd rfl (Or.inl rfl)) qbE)))
 (qf (qN (PW.pt (qa9 (qp (zh (K:=K) rfl hu) (pv 3) qg (qx _)) (qan (qp (zg (K:=K) rfl hu) (pv 4) (pv 0) (by with_unfolding_all rfl))))) (qe (qh qg)) qo)
 (qe (qN (PW.pt (qa9 (qp qdK (pv 3) qg (qx _)) (qan (qp (zg (K:=K) rfl hu) (pv 4) (qr D_l_moves (hm hr) qE (qa (pv 0) (qa (pv 1) (qa (qz (qaR (K:=K) rfl) (pv 2) qS (qD (pv 3))) qc)))) (by with_unfolding_all rfl))))) (qe (qh (pv 3))) qo))))
 (qe (qh qbY))),?_⟩
  walk_at "v"
  refine ⟨r,_,rfl,SqL.of her,for_enum (K:=K) (fun i σ H'=>L2.Same H H'∧(∀ j,j < i→qa7 ups ss row j=true)∧∃ x3 x4,σ=[some (.ref n),some (.ref l),some (.ref r),x3,x4]) ⟨L2.Same.refl H,(fun j h=>absurd h (Nat.not_lt_zero j)),none,none,rfl⟩ (fun i σ H' _ hp=>SqL.of (hp.1 _ _ her)) (fun i y t σ J hy ht hp=>?_) fun σ J hp=>?_⟩
  ·obtain ⟨sJ,hj,x3,x4,rfl⟩:=hp
   obtain ⟨v,gv,rfl⟩:=ji hy
   have hi:i < row.length:=(List.getElem?_eq_some_iff.mp gv).1
   refine ⟨t,_,rfl,SqT.of qb,rfl,_,_,rfl,_,_,rfl,rfl,?_⟩
   have sJ1:=qK sJ (o:=.tup [.int i,.str v]) ht
   generalize upd J t (.tup [.int i,.str v])=J1 at sJ1 ⊢
   walk_at "v"
   refine .inl (.inl (.inl ⟨rfl,rfl,?_⟩))
   walk_at "v"
   cases i with
   | zero =>
    refine qY (fun _=>?_) fun h=>absurd rfl h
    have ho:qa7 ups ss row 0=decide (v∈ss):=by unfold qa7;rw [gv];rfl
    walk_at "v"
    refine .inl ⟨n,_,rfl,.inl (SqL.of (sJ1 _ _ hn)),rfl,jS _,?_⟩
    rw [zO]
    walk_at "v"
    by_cases hin:v∈ss
    ·rw [decide_eq_true hin] at ho ⊢
     refine qY (fun h=>by cases h) fun _=>?_
     walk_at "v"
     refine qY (fun h=>absurd h (by decide)) fun _=>qY (fun h=>by first | cases h | contradiction) fun _=>?_
     exact ⟨sJ1,(fun j h=>by rw [show j=0 by omega];exact ho),_,_,rfl⟩
    ·rw [decide_eq_false hin] at ho ⊢
     refine qbH ?_
     walk_at "v"
     rw [qdU hi ho fun j h=>absurd h (Nat.not_lt_zero j)] at q
     exact q J1 sJ1
   | succ k =>
    have hkz:eqV (V.int ((k + 1:Nat):Int)) (V.int 0)=false:=by
     cases e:eqV (V.int ((k + 1:Nat):Int)) (V.int 0) with
     | false=>rfl
     | true =>
      have:(((k + 1:Nat):Nat):Int)=0:=by simpa [eqV] using e
      omega
    refine qY (fun h=>by have h:eqV (V.int ((k + 1:Nat):Int)) (V.int 0)=true:=h;rw [hkz] at h;cases h) fun _=>qY (fun h=>by first | cases h | contradiction) fun _=>?_
    walk_at "v"
    refine qY (fun _=>?_) fun h=>absurd (decide_eq_true (by omega)) h
    obtain ⟨z,gz⟩:∃ z,row[k]?=some z:=⟨_,List.getElem?_eq_getElem (by omega)⟩
    have hz:=qbn gz
    have ho:qa7 ups ss row (k + 1)=decide (v∈mvL ups ss (row.take (k + 1)) z):=by
     unfold qa7
     rw [gv]
     show (if k + 1=0 then decide (v∈ss) else decide (v∈mvL ups ss (row.take (k + 1)) ((row.take (k + 1)).getLast?.getD "")))=_
     rw [if_neg (by omega),hz]
     rfl
    walk_at "v"
    refine .inl ⟨r,_,rfl,SqL.of (sJ1 _ _ her),fun d hd=>?_⟩
    rw [qbj,← List.map_take]
    have s12:=qK (Sr J1) (o:=.lst ((row.take (k + 1)).map V.str)) hd
    have ed:upd J1 d (.lst ((row.take (k + 1)).map V.str)) d=some (.lst ((row.take (k + 1)).map V.str)):=qb
    have sJ2:=sJ1.trans s12
    generalize upd J1 d (.lst ((row.take (k + 1)).map V.str))=J2 at sJ2 ed ⊢
    walk_at "v"
    refine ⟨n,l,d,ss,ts,ups,row.take (k + 1),z,rfl,sJ2 _ _ hn,few,hl.same sJ2,ed,hz,fun m J3 s23 hm0 hm=>?_⟩
    have sJ3:=sJ2.trans s23
    refine .inl ⟨m,_,rfl,.inl (SqL.of hm),rfl,jS _,?_⟩
    rw [zO]
    walk_at "v"
    by_cases hmv:v∈mvL ups ss (row.take (k + 1)) z
    ·rw [decide_eq_true hmv] at ho ⊢
     refine qY (fun h=>by cases h) fun _=>?_
     refine ⟨sJ3,fun j h=>?_,_,_,rfl⟩
     by_cases e:j=k + 1
     ·rw [e];exact ho
     ·exact hj j (by omega)
    ·rw [decide_eq_false hmv] at ho ⊢
     refine qbH ?_
     walk_at "v"
     rw [qdU hi ho hj] at q
     exact q J3 sJ3
  ·obtain ⟨sJ,hj,x3,x4,rfl⟩:=hp
   rw [List.length_map] at hj
   have eN:fbN ups ss row=none:=by
    cases e:fbN ups ss row with
    | none=>rfl
    | some k =>
     obtain ⟨g1,g2,_⟩:=qbU e
     rw [hj k g1] at g2
     cases g2
   rw [eN] at q
   walk_at "v"
   exact q J sJ
theorem cut_strs (xs:List Str) (lo hi:Option Int):∃ ys:List Str,qaP (xs.map V.str) lo hi=ys.map V.str∧ys.length≤xs.length∧∀ y∈ys,y∈xs:=by
 refine ⟨(xs.drop (HT.sIx (xs.map V.str).length 0 lo)).take (HT.sIx (xs.map V.str).length (xs.map V.str).length hi - HT.sIx (xs.map V.str).length 0 lo),?_,?_,fun y hy=>List.mem_of_mem_drop (List.mem_of_mem_take hy)⟩
 ·unfold qaP
  rw [List.map_take,List.map_drop]
 ·rw [List.length_take,List.length_drop]
  omega
def Wds (H:Hp) (r:Addr) (row:List Str) (k:Nat):Prop:=H r=some (.lst (row.map V.str))∧row.length≤k∧∀ s∈row,s.length≤100
theorem Wds.same {H H':Hp} {r:Addr} {row:List Str} {k:Nat} (h:Wds H r row k) (s:L2.Same H H'):Wds H' r row k:=⟨s _ _ h.1,h.2⟩
theorem zY {H:Hp} {r:Addr} {row:List Str} {k:Nat} {lo hi:Option Int} {Q:VK} (h:Wds H r row k) (q:∀ d ys H',L2.Same H H'→Wds H' d ys k→Q (.ref d) H'):qf8 K (.ref r) lo hi H Q:=by
 obtain ⟨ys,e,hl,hm⟩:=cut_strs row lo hi
 refine .inl ⟨r,_,rfl,SqL.of h.1,fun d hd=>?_⟩
 rw [e]
 exact q d ys _ (qK (Sr H) hd) ⟨qb,Nat.le_trans hl h.2.1,fun s hs=>h.2.2 s (hm s hs)⟩
theorem zD {H:Hp} {a b:Addr} {xs ys:List Str} {k m:Nat} {Q:VK} (h:Wds H a xs k) (g:Wds H b ys m) (hk:k + m≤1000) (q:∀ d H',L2.Same H H'→Wds H' d (xs++ys) (k + m)→H d=none→Q (.ref d) H'):qdO K (.ref a) (.ref b) H Q:=by
 refine .inl ⟨a,b,_,_,rfl,rfl,h.1,g.1,Nat.le_trans (show _≤1000 by rw [List.length_map,List.length_map];have:=h.2.1;have:=g.2.1;omega) (by decide),fun d hd=>?_⟩
 rw [← List.map_append]
 refine q d _ (qK (Sr H) hd) ⟨qb,by rw [List.length_append];have:=h.2.1;have:=g.2.1;omega,fun s hs=>?_⟩ hd
 rcases List.mem_append.mp hs with h' | h'
 ·exact h.2.2 s h'
 ·exact g.2.2 s h'
theorem qc2 {H:Hp} {r:Addr} {u:Str} {hr:H r=none} (hl:u.length≤100):L2.Same H (upd H r (.lst [.str u]))∧Wds (upd H r (.lst [.str u])) r [u] 1:=⟨qK (Sr H) hr,qb,Nat.le_refl _,fun s hs=>by rw [List.mem_singleton.mp hs];exact hl⟩
theorem sc_l_spoilt:FnScope ["_law_row_here", "_law_names_here", "_law_way", "_law_at", "_law_pick", "_law_some", "_law_word"] ["_law_row_here", "_law_names_here", "_law_way", "_law_at", "_law_pick"] (qd zn):=fS
def qfx:Sp:=fun vs H Q _=>∃ (r n:Addr) (ss row:List Str) (way at_ pick:Int),vs=[.ref r,.ref n,.int way,.int at_,.int pick]∧Wds H r row 20∧row≠[]∧(∀ s∈row,s.length≤6)∧Wds H n ss 14∧∀ (r':Addr) (row':List Str) (H':Hp),L2.Same H H'→Wds H' r' row' 60→Q (.ref r') H'
theorem Wds.up {H:Hp} {r:Addr} {row:List Str} {k m:Nat} (h:Wds H r row k) (hk:k≤m):Wds H r row m:=⟨h.1,Nat.le_trans h.2.1 hk,h.2.2⟩
theorem qfX {K:W.Frag} {H:Hp} {a b:Str} {Q:VK} (h:a.length + b.length≤1000) (q:Q (.str (a++b)) H):qdO K (.str a) (.str b) H Q:=⟨Nat.le_trans h (by decide),q⟩
theorem ok_sp14 (F:Fun K "_law_spoilt" "_law_spoilt" zn f fd) (T:Txt K mg cc cw):FnOk P w K mg base CX0 1 f fd ["_law_row_here", "_law_names_here", "_law_way", "_law_at", "_law_pick"] qfx:=by
 refine F.ok sc_l_spoilt (fun vs H Q E h=>?_) fun cdv A outer s H vs Q E hr h=>?_
 ·obtain ⟨r,n,ss,row,way,at_,pick,rfl,_⟩:=h;rfl
 ·obtain ⟨r,n,ss,row,way,at_,pick,rfl,hr0,hne,h6,hn,q⟩:=h
  have hu:=zH hr
  obtain ⟨u,rs,erow⟩:∃ u rs,row=u::rs:=by
   cases row with
   | nil=>exact absurd rfl hne
   | cons u rs=>exact ⟨u,rs,rfl⟩
  have hu6:u.length≤6:=h6 u (by rw [erow];exact List.mem_cons_self)
  have hu0:atI (row.map V.str) 0=some (.str u):=qJ (j:=0) (by rw [erow];rfl)
  have hpos:0 < row.length:=List.length_pos_iff.mpr hne
  have one:(" ":Str).length=1∧("\n":Str).length=1∧(">":Str).length=1∧("> ":Str).length=2:=⟨rfl,rfl,rfl,rfl⟩
  refine ⟨_,(qf (qw (i:=5) sc_l_spoilt.nd rfl (Or.inl rfl) (qu (jk (K:=K) rfl) (pv 1) (qA (qa qV (qa qV (qa qV (qa qV (qa (qu (jk (K:=K) rfl) (qO (qP (K:=K) rfl hu) (pv 0) qg (fun _ _=>rfl)) qV) (qa (qu (jk (K:=K) rfl) qV (qO (qP (K:=K) rfl hu) (pv 0) qg (fun _ _=>rfl))) (qa (qu (jk (K:=K) rfl) (qO (qP (K:=K) rfl hu) (pv 0) qg (fun _ _=>rfl)) qV) qc))))))))))
 (qf (qC (qcE (K:=K) rfl PySem.F.plainAttrs_list PySem.F.slot_list_extend PySem.F.type_list_extend qbz (pv 5) (qa (qA (qa (qu (jk (K:=K) rfl) qV (qO (qP (K:=K) rfl hu) (pv 0) qg (fun _ _=>rfl))) (qa (qu (jk (K:=K) rfl) (qu (jk (K:=K) rfl) (qO (qP (K:=K) rfl hu) (pv 0) qg (fun _ _=>rfl)) qV) (qO (qP (K:=K) rfl hu) (pv 0) qg (fun _ _=>rfl))) qc))) qc)))
 (qf (qw (i:=6) sc_l_spoilt.nd rfl (Or.inl rfl) (qO (qP (K:=K) rfl hu) (pv 5) (qu ze (pv 4) (qm (jW (K:=K) rfl) rfl T.b_len boot_len (qa (pv 5) qc))) (fun _ _=>rfl)))
 (qf (qw (i:=3) sc_l_spoilt.nd rfl (Or.inl rfl) (qu ze (pv 3) (qm (jW (K:=K) rfl) rfl T.b_len boot_len (qa (pv 0) qc))))
 (qf (qN (qp (zh (K:=K) rfl hu) (pv 2) qg (qx _)) (qe (qh (qu (jk (K:=K) rfl) (qu (jk (K:=K) rfl) (qz (qaR (K:=K) rfl) (pv 0) qS (qD (pv 3))) (qA (qa (pv 6) qc))) (qz (qaR (K:=K) rfl) (pv 0) (qD (qu (jk (K:=K) rfl) (pv 3) qg)) qS)))) qo)
 (qf (qN (qp (zh (K:=K) rfl hu) (pv 2) qg (qx _)) (qe (qh (qu (jk (K:=K) rfl) (qu (jk (K:=K) rfl) (qz (qaR (K:=K) rfl) (pv 0) qS (qD (pv 3))) (qA (qa (pv 6) qc))) (qz (qaR (K:=K) rfl) (pv 0) (qD (pv 3)) qS)))) qo)
 (qf (qN (qp (zh (K:=K) rfl hu) (pv 2) qg (qx _)) (qe (qh (qu (jk (K:=K) rfl) (qz (qaR (K:=K) rfl) (pv 0) qS (qD (pv 3))) (qz (qaR (K:=K) rfl) (pv 0) (qD (qu (jk (K:=K) rfl) (pv 3) qg)) qS)))) qo)
 (qf (qN (qp (zh (K:=K) rfl hu) (pv 2) qg (qx _)) (qe (qh (qu (jk (K:=K) rfl) (qz (qaR (K:=K) rfl) (pv 0) qS (qD (qu (jk (K:=K) rfl) (pv 3) qg))) (qz (qaR (K:=K) rfl) (pv 0) (qD (pv 3)) qS)))) qo)
 (qf (qN (qp (zh (K:=K) rfl hu) (pv 2) qg (qx _)) (qe (qh (qu (jk (K:=K) rfl) (qu (jk (K:=K) rfl) (qz (qaR (K:=K) rfl) (pv 0) qS (qD (pv 3))) (qfh (K:=K) rfl (qz (qaR (K:=K) rfl) (pv 0) (qD (pv 3)) (qD (qu (jk (K:=K) rfl) (pv 3) qg))) (qD (qdJ qbs qg)))) (qz (qaR (K:=K) rfl) (pv 0) (qD (qu (jk (K:=K) rfl) (pv 3) qg)) qS)))) qo)
 (qf (qN (qp (zh (K:=K) rfl hu) (pv 2) qg (qx _)) (qe (qh (qu (jk (K:=K) rfl) (pv 0) (qA (qa (pv 6) qc))))) qo)
 (qe (qh (pv 0))))))))))))),?_⟩
  walk_at "v"
  refine .inl (zT hr0.1 hu0 ?_)
  walk_at "v"
  refine qfX (by omega) ?_
  walk_at "v"
  refine .inl (zT hr0.1 hu0 ?_)
  refine qfX (by omega) ?_
  walk_at "v"
  refine .inl (zT hr0.1 hu0 ?_)
  walk_at "v"
  refine qfX (by omega) ?_
  walk_at "v"
  refine ⟨by show 7≤sizeLine;decide,fun l7 hl7=>?_⟩
  obtain ⟨L7,hL7⟩:∃ L7:List Str,L7=[("":Str),("zz9":Str),("A":Str),(">":Str),u++(" ":Str),(" ":Str)++u,u++("\n":Str)]:=⟨_,rfl⟩
  have hL7':([.str "",.str "zz9",.str "A",.str ">",.str (u++" "),.str (" "++u),.str (u++"\n")]:List V)=L7.map V.str:=by rw [hL7];rfl
  have h7:L7.length=7∧∀ s∈L7,s.length≤100:=by
   rw [hL7]
   refine ⟨rfl,fun s hs=>?_⟩
   simp only [List.mem_cons,List.not_mem_nil,or_false] at hs
   rcases hs with rfl | rfl | rfl | rfl | rfl | rfl | rfl
   ·decide
   ·decide
   ·decide
   ·decide
   ·rw [Str.length_append];omega
   ·rw [Str.length_append];omega
   ·rw [Str.length_append];omega
  rw [hL7']
  clear hL7 hL7'
  have s1:=qK (Sr H) (o:=.lst (L7.map V.str)) hl7
  have w7:Wds (upd H l7 (.lst (L7.map V.str))) l7 L7 7:=⟨qb,by omega,h7.2⟩
  have hr1:=hr0.same s1
  have hn1:=hn.same s1
  generalize upd H l7 (.lst (L7.map V.str))=H1 at s1 w7 hr1 hn1 ⊢
  refine zD hn1 w7 (by decide) fun sm H2 s12 hsm hsm0=>?_
  have s2:=s1.trans s12
  have hr2:=hr1.same s12
  have hsm00:=s1.free hsm0
  clear s12 w7 hn1 hr1
  walk_at "v"
  refine ⟨.inl ⟨rfl,_,SqL.of hsm.1⟩,?_⟩
  walk_at "v"
  refine .inl (zT hr2.1 hu0 ?_)
  refine qfX (by omega) ?_
  walk_at "v"
  refine .inl (zT hr2.1 hu0 ?_)
  walk_at "v"
  refine qfX (by omega) ?_
  walk_at "v"
  refine .inl (zT hr2.1 hu0 ?_)
  refine qfX (by rw [Str.length_append];omega) ?_
  walk_at "v"
  refine ⟨by show 2≤sizeLine;decide,fun l2 hl2=>?_⟩
  have s23:=qK (Sr H2) (o:=.lst [.str ("> "++u),.str (u++">"++u)]) hl2
  have el2:upd H2 l2 (.lst [.str ("> "++u),.str (u++">"++u)]) l2=some (.lst ([("> ":Str)++u,u++">"++u].map V.str)):=qb
  have s3:=s2.trans s23
  replace hr2:=hr2.same s23
  replace hsm:=hsm.same s23
  generalize upd H2 l2 (.lst [.str ("> "++u),.str (u++">"++u)])=H3 at s3 el2 hr2 hsm ⊢
  walk_at "v"
  have hsl:=hsm.2.1
  refine ⟨sm,l2,_,_,rfl,rfl,hsm.1,el2,Nat.le_trans (show _≤1000 by rw [List.length_map,List.length_map];show (ss++L7).length + 2≤1000;omega) (by decide),?_⟩
  obtain ⟨SM,hSM⟩:∃ SM:List Str,SM=ss++L7++[("> ":Str)++u,u++">"++u]:=⟨_,rfl⟩
  rw [← List.map_append,← hSM]
  have hSMl:0 < SM.length∧∀ s∈SM,s.length≤100:=by
   rw [hSM]
   refine ⟨by rw [List.length_append];show 0 < _ + 2;omega,fun s hs=>?_⟩
   rcases List.mem_append.mp hs with h | h
   ·exact hsm.2.2 s h
   ·simp only [List.mem_cons,List.not_mem_nil,or_false] at h
    rcases h with rfl | rfl
    ·rw [Str.length_append];omega
    ·rw [Str.length_append,Str.length_append];omega
  have b4:=(But.refl sm H3).put (o:=.lst (SM.map V.str))
  have e4:upd H3 sm (.lst (SM.map V.str)) sm=some (.lst (SM.map V.str)):=qb
  have s4:=jA s3 b4 hsm00
  generalize upd H3 sm (.lst (SM.map V.str))=H4 at s4 e4 ⊢
  clear b4 hSM s3 s2 s23
  have hr4:=hr0.same s4
  walk_at "v"
  refine qaq e4 ?_
  rw [List.length_map]
  refine vI (show (0:Int) < (SM.length:Int) by omega) ?_
  refine qg3 e4 (Int.emod_nonneg _ (by omega)) (Int.emod_lt_of_pos _ (by omega)) fun wd hwd=>?_
  have hwl:=hSMl.2 wd hwd
  walk_at "v"
  refine qaq hr4.1 ?_
  rw [List.length_map]
  refine vI (show (0:Int) < (row.length:Int) by omega) ?_
  generalize at_ % (row.length:Int)=k
  walk_at "v"
  refine .inl (.inl (.inl ⟨rfl,rfl,?_⟩))
  walk_at "v"
  refine qY (fun _=>?_) fun _=>?_
  ·walk_at "v"
   refine zY hr4 fun d1 ys1 J1 t1 w1=>?_
   walk_at "v"
   refine ⟨by show 1≤sizeLine;decide,fun o1 ho1=>?_⟩
   obtain ⟨t2,w2⟩:=qc2 (hr:=ho1) hwl
   refine zD (w1.same t2) w2 (by decide) fun d2 J2 t3 w3 _=>?_
   walk_at "v"
   refine zY ((hr4.same t1).same (t2.trans t3)) fun d3 ys3 J3 t4 w4=>?_
   refine zD (w3.same t4) w4 (by decide) fun d4 J4 t5 w5 _=>?_
   exact q d4 _ J4 (s4.trans (t1.trans (t2.trans (t3.trans (t4.trans t5))))) (w5.up (by decide))
  walk_at "v"
  refine .inl (.inl (.inl ⟨rfl,rfl,?_⟩))
  walk_at "v"
  refine qY (fun _=>?_) fun _=>?_
  ·walk_at "v"
   refine zY hr4 fun d1 ys1 J1 t1 w1=>?_
   walk_at "v"
   refine ⟨by show 1≤sizeLine;decide,fun o1 ho1=>?_⟩
   obtain ⟨t2,w2⟩:=qc2 (hr:=ho1) hwl
   refine zD (w1.same t2) w2 (by decide) fun d2 J2 t3 w3 _=>?_
   walk_at "v"
   refine zY ((hr4.same t1).same (t2.trans t3)) fun d3 ys3 J3 t4 w4=>?_
   refine zD (w3.same t4) w4 (by decide) fun d4 J4 t5 w5 _=>?_
   exact q d4 _ J4 (s4.trans (t1.trans (t2.trans (t3.trans (t4.trans t5))))) (w5.up (by decide))
  walk_at "v"
  refine .inl (.inl (.inl ⟨rfl,rfl,?_⟩))
  walk_at "v"
  refine qY (fun _=>?_) fun _=>?_
  ·walk_at "v"
   refine zY hr4 fun d1 ys1 J1 t1 w1=>?_
   walk_at "v"
   refine zY (hr4.same t1) fun d2 ys2 J2 t2 w2=>?_
   refine zD (w1.same t2) w2 (by decide) fun d3 J3 t3 w3 _=>?_
   exact q d3 _ J3 (s4.trans (t1.trans (t2.trans t3))) (w3.up (by decide))
  walk_at "v"
  refine .inl (.inl (.inl ⟨rfl,rfl,?_⟩))
  walk_at "v"
  refine qY (fun _=>?_) fun _=>?_
  ·walk_at "v"
   refine zY hr4 fun d1 ys1 J1 t1 w1=>?_
   walk_at "v"
   refine zY (hr4.same t1) fun d2 ys2 J2 t2 w2=>?_
   refine zD (w1.same t2) w2 (by decide) fun d3 J3 t3 w3 _=>?_
   exact q d3 _ J3 (s4.trans (t1.trans (t2.trans t3))) (w3.up (by decide))
  walk_at "v"
  refine .inl (.inl (.inl ⟨rfl,rfl,?_⟩))
  walk_at "v"
  refine qY (fun _=>?_) fun _=>?_
  ·walk_at "v"
   refine zY hr4 fun d1 ys1 J1 t1 w1=>?_
   refine qhn ?_
   walk_at "v"
   refine zY (hr4.same t1) fun d2 ys2 J2 t2 w2=>?_
   walk_at "v"
   refine vU ?_
   refine ⟨_,rfl,rfl,d2,_,rfl,SqL.of w2.1,fun d3 hd3=>?_⟩
   rw [← List.map_reverse]
   have t3:=qK (Sr J2) (o:=.lst (ys2.reverse.map V.str)) hd3
   have w3:Wds (upd J2 d3 (.lst (ys2.reverse.map V.str))) d3 ys2.reverse 20:=⟨qb,by rw [List.length_reverse];exact w2.2.1,fun s hs=>w2.2.2 s (List.mem_reverse.mp hs)⟩
   generalize upd J2 d3 (.lst (ys2.reverse.map V.str))=J3 at t3 w3 ⊢
   refine zD ((w1.same t2).same t3) w3 (by decide) fun d4 J4 t4 w4 _=>?_
   walk_at "v"
   refine zY ((hr4.same t1).same (t2.trans (t3.trans t4))) fun d5 ys5 J5 t5 w5=>?_
   refine zD (w4.same t5) w5 (by decide) fun d6 J6 t6 w6 _=>?_
   exact q d6 _ J6 (s4.trans (t1.trans (t2.trans (t3.trans (t4.trans (t5.trans t6)))))) (w6.up (by decide))
  walk_at "v"
  refine .inl (.inl (.inl ⟨rfl,rfl,?_⟩))
  walk_at "v"
  refine qY (fun _=>?_) fun _=>?_
  ·walk_at "v"
   refine ⟨by show 1≤sizeLine;decide,fun o1 ho1=>?_⟩
   obtain ⟨t2,w2⟩:=qc2 (hr:=ho1) hwl
   refine zD (hr4.same t2) w2 (by decide) fun d2 J2 t3 w3 _=>?_
   exact q d2 _ J2 (s4.trans (t2.trans t3)) (w3.up (by decide))
  walk_at "v"
  exact q r row H4 s4 (hr4.up (by decide))
theorem sc_l_told:FnScope ["_law_names_here", "_law_ties_here", "_law_row_here", "_law_text", "_law_word"] ["_law_names_here", "_law_ties_here", "_law_row_here"] (qd qag):=fS
theorem qc3 (c y:List Nat):∀ {xs:List (List Nat)},xs≠[]→jl c (xs++[y])=jl c xs++c++y
 | [],h=>absurd rfl h
 | [x],_=>rfl
 | x::x'::r,_=>by
  show x++c++jl c (x'::r++[y])=x++c++jl c (x'::r)++c++y
  rw [qc3 c y (xs:=x'::r) (by simp)]
  simp
theorem join_snoc {z y:Str} {xs:List Str} (h:xs≠[]):Txt.join z (xs++[y])=Txt.join z xs++z++y:=by
 apply qcP
 rw [qa5,qa5,qaT,qaT,zV,zV,List.map_append]
 exact qc3 _ _ (by simpa using h)
theorem qc4 {z:Str}:∀ {xs:List Str} {k m:Nat},(∀ s∈xs,s.length≤k)→xs.length≤m→(Txt.join z xs).length≤m * (k + z.length):=by
 intro xs k m h hm
 rw [qaT]
 have h1:=StrLaws.join_length_le z xs
 have h2:(xs.map (·.length)).sum≤xs.length * k:=by
  clear h1 hm
  induction xs with
  | nil=>simp
  | cons x r ih =>
   have:=ih fun s hs=>h s (List.mem_cons_of_mem _ hs)
   have:=h x List.mem_cons_self
   rw [List.map_cons,List.sum_cons,List.length_cons,Nat.add_mul]
   omega
 have h3:xs.length * (k + z.length)≤m * (k + z.length):=Nat.mul_le_mul_right _ hm
 rw [Nat.mul_add] at h3
 omega
structure Tlr (H:Hp) (t g m:Addr) (row ms:List Str):Prop where
 at_:H t=some (.lst [.int 2,.ref g,.ref m,.int (((row.length:Int) - 1) % 2),.str (Txt.join " > " row)])
 g:H g=some (.lst (row.map V.str))
 m:H m=some (.lst (ms.map V.str))
theorem Tlr.same {H H':Hp} {t g m:Addr} {row ms:List Str} (h:Tlr H t g m row ms) (s:L2.Same H H'):Tlr H' t g m row ms:=⟨s _ _ h.at_,s _ _ h.g,s _ _ h.m⟩
theorem jd {K:W.Frag} {H:Hp} {n:Nat} {v:V} (h:zB v=true):EqD K H n v v true:=by
 have e:=EqD.flat (K:=K) (H:=H) (n:=n) h h
 rw [eqV_self h] at e
 exact e
theorem Tlr.eqT {K:W.Frag} {H:Hp} {t g m t' g' m':Addr} {row ms:List Str} (h:Tlr H t g m row ms) (k:Tlr H t' g' m' row ms):EqT K H 2 t t' true:=by
 have e:=EqT.lst (K:=K) (H:=H) (n:=1) (e:=fun _=>true) (SqL.of h.at_) (SqL.of k.at_) rfl fun j x y h1 h2=>by
  match j,h1,h2 with
  | 0,h1,h2=>cases h1;cases h2;exact jd rfl
  | 1,h1,h2=>cases h1;cases h2;exact qcZ (qbm h.g k.g)
  | 2,h1,h2=>cases h1;cases h2;exact qcZ (qbm h.m k.m)
  | 3,h1,h2=>cases h1;cases h2;exact jd rfl
  | 4,h1,h2=>cases h1;cases h2;exact jd rfl
  | j + 5,h1,h2=>cases h1
 rw [qad] at e
 exact e
def qeE:Sp:=fun vs H Q _=>∃ (n l r:Addr) (ss:List Str) (ts:List Addr) (ups:List (Str×Str)) (row:List Str) (z:Str),vs=[.ref n,.ref l,.ref r]∧H n=some (.lst (ss.map V.str))∧ss.length≤14∧PL H l ts ups∧H r=some (.lst (row.map V.str))∧row.getLast?=some z∧row.length≤20000∧(∀ s∈row,s.length≤20000)∧(Txt.join " > " row).length≤100000∧∀ (t m:Addr) (H':Hp),L2.Same H H'→H t=none→Tlr H' t r m row (mvL ups ss row z)→Q (.ref t) H'
theorem qfy (c:List Nat):∀ (ys xs:List (List Nat)),xs≠[]→(jl c xs).length≤(jl c (xs++ys)).length
 | [],xs,_=>by rw [List.append_nil];exact Nat.le_refl _
 | y::ys,xs,h=>by
  have h1:=qfy c ys (xs++[y]) (by simp)
  rw [List.append_assoc] at h1
  rw [qc3 c y h,List.length_append,List.length_append] at h1
  have h1:(jl c xs).length + c.length + y.length≤(jl c (xs++y::ys)).length:=h1
  omega
theorem join_mono {z:Str} {xs:List Str} (k:Nat) (hk:0 < k) (hx:xs≠[]):(Txt.join z (xs.take k)).length≤(Txt.join z xs).length:=by
 have h:=qfy z.cps.toList ((xs.drop k).map (·.cps.toList)) ((xs.take k).map (·.cps.toList)) (fun e=>by
  have h1:=congrArg List.length e
  have hp:=List.length_pos_iff.mpr hx
  rw [List.length_map,List.length_take] at h1
  have h1:min k xs.length=0:=h1
  omega)
 rw [← List.map_append,List.take_append_drop,← zV,← zV,← qaT,← qaT] at h
 simpa [Str.length] using h
theorem ok_to14 (F:Fun K "_law_told" "_law_told" qag f fd) (T:Txt K mg cc cw) (D_l_moves:DefOk P w K mg base CX0 2 "_law_moves" ["_law_names_here", "_law_ties_here", "_law_trail"] qgs):FnOk P w K mg base CX0 3 f fd ["_law_names_here", "_law_ties_here", "_law_row_here"] qeE:=by
 refine F.ok sc_l_told (fun vs H Q E h=>?_) fun cdv A outer s H vs Q E hr h=>?_
 ·obtain ⟨n,l,r,ss,ts,ups,row,z,rfl,_⟩:=h;rfl
 ·obtain ⟨n,l,r,ss,ts,ups,row,z,rfl,hn,few,hl,her,hz,hrl,hsl,hjl,q⟩:=h
  have hu:=zH hr
  obtain ⟨u,rs,rfl⟩:∃ u rs,row=u::rs:=by
   cases row with
   | nil=>cases hz
   | cons u rs=>exact ⟨u,rs,rfl⟩
  refine ⟨_,(qf (qw (i:=3) sc_l_told.nd rfl (Or.inl rfl) (qO (qP (K:=K) rfl hu) (pv 2) qg (fun _ _=>rfl)))
 (qf (j8 PassesOwn.never rfl (j9 (K:=K) rfl (qz (qaR (K:=K) rfl) (pv 2) (qD qg) qS)) (qt (i:=4) sc_l_told.nd rfl (Or.inl rfl))
 (qe (qw (i:=3) sc_l_told.nd rfl (Or.inl rfl) (qu (jk (K:=K) rfl) (qu (jk (K:=K) rfl) (pv 3) qV) (pv 4)))))
 (qe (qh (qA (qa qg (qa (pv 2) (qa (qr D_l_moves (hm hr) qE (qa (pv 0) (qa (pv 1) (qa (pv 2) qc)))) (qa (qu ze (qu qc7 (qm (jW (K:=K) rfl) rfl T.b_len boot_len (qa (pv 2) qc)) qg) qg) (qa (pv 3) qc)))))))))),?_⟩
  walk_at "v"
  refine .inl (zT her (qJ (j:=0) rfl) ?_)
  have ec:qaP ((u::rs).map V.str) (some 1) none=rs.map V.str:=by
   have:=za ((u::rs).map V.str) 1
   rw [← List.map_drop] at this
   exact this
  walk_at "v"
  refine .inl ⟨r,_,rfl,SqL.of her,fun d hd=>?_⟩
  rw [ec]
  have s1:=qK (Sr H) (o:=.lst (rs.map V.str)) hd
  have ed:upd H d (.lst (rs.map V.str)) d=some (.lst (rs.map V.str)):=qb
  generalize upd H d (.lst (rs.map V.str))=H1 at s1 ed ⊢
  walk_at "v"
  refine .inl ⟨⟨_,SqL.of ed⟩,jO (K:=K) (fun i σ H'=>H'=H1∧∃ x4,σ=[some (.ref n),some (.ref l),some (.ref r),some (.str (Txt.join " > " ((u::rs).take (i + 1)))),x4]) ⟨rfl,none,rfl⟩ (fun i σ H' _ hp=>by rw [hp.1];exact SqL.of ed) (fun i y σ J hy hp=>?_) fun σ J hp=>?_⟩
  ·obtain ⟨rfl,x4,rfl⟩:=hp
   obtain ⟨v,gv,rfl⟩:=ji hy
   have gv':(u::rs)[i + 1]?=some v:=by rw [List.getElem?_cons_succ];exact gv
   have hv:=hsl v (List.mem_of_getElem? gv')
   have hj:=join_mono (z:=" > ") (xs:=u::rs) (i + 1) (by omega) (by simp)
   have h3:(" > ":Str).length=3:=rfl
   walk_at "v"
   refine ⟨Nat.le_trans (show _≤1000000 by omega) (by decide),?_⟩
   walk_at "v"
   refine ⟨Nat.le_trans (show _≤1000000 by rw [Str.length_append];omega) (by decide),?_⟩
   refine ⟨rfl,some (.str v),?_⟩
   rw [List.take_add_one (i:=i + 1),gv']
   show _=[_,_,_,some (V.str (Txt.join " > " ((u::rs).take (i + 1)++[v]))),_]
   rw [join_snoc (by simp)]
   rfl
  ·obtain ⟨rfl,x4,rfl⟩:=hp
   rw [List.length_map,show (u::rs).take (rs.length + 1)=u::rs from List.take_of_length_le (by rw [List.length_cons];exact Nat.le_refl _)]
   walk_at "v"
   refine ⟨n,l,r,ss,ts,ups,u::rs,z,rfl,s1 _ _ hn,few,hl.same s1,s1 _ _ her,hz,fun m J1 s2 hm0 hm=>?_⟩
   have sJ1:=s1.trans s2
   walk_at "v"
   refine qaq (sJ1 _ _ her) ?_
   rw [List.length_map]
   walk_at "v"
   refine vI (by decide) ?_
   walk_at "v"
   refine ⟨by show 5≤sizeLine;decide,fun t ht=>?_⟩
   have s3:=qK (Sr J1) (o:=.lst [.int 2,.ref r,.ref m,.int ((((u::rs).length:Int) - 1) % 2),.str (Txt.join " > " (u::rs))]) ht
   exact q t m _ (sJ1.trans s3) (sJ1.free ht) ⟨qb,s3 _ _ (sJ1 _ _ her),s3 _ _ hm⟩
theorem sc_l_made:FnScope ["_law_web", "_law_row_here", "_law_play", "e"] ["_law_web", "_law_row_here"] (qd zP):=fS
theorem sc_l_read:FnScope ["_law_web", "_law_text", "_law_play", "e"] ["_law_web", "_law_text"] (qd qah):=fS
def qeF (cc:Nat→Addr) (cw:Addr):Sp:=fun vs H Q E=>qfs cc vs H Q E∨qft cc cw vs H Q E
def qdV:Sp:=fun vs H Q _=>∃ (b r:Addr) (v:V) (o:Option (List V)),vs=[.ref b,v]∧Arg r H v o∧o.getD []=[]∧∀ (t:Addr) (H':Hp),L2.Same H H'→H t=none→H' t=some (.lst [.int 0,v])→Q (.ref t) H'
def qdW (cw:Addr):Sp:=fun vs H Q _=>∃ (b l:Addr) (ss:List Str) (ns:List Nat) (dps ups:List (Str×Str)) (row:List Str),vs=[.ref b,.ref l]∧WebAt cw H b ss ns∧Duo ss ns dps ups∧SeqH H l (row.map V.str)∧row≠[]∧row.length≤60∧(∀ s∈row,s.length≤1000) ∧
 (∀ u,fbN ups ss row=some 0→row[0]?=some u→∀ (t:Addr) (H':Hp),L2.Same H H'→H t=none→H' t=some (.lst [.int 0,.str u])→Q (.ref t) H')∧(∀ k u,fbN ups ss row=some (k + 1)→row[k + 1]?=some u→∀ (t:Addr) (H':Hp),L2.Same H H'→H t=none→H' t=some (.lst [.int 1,.str u])→Q (.ref t) H') ∧
 (fbN ups ss row=none→∀ (t g m:Addr) (z:Str) (H':Hp),L2.Same H H'→H t=none→row.getLast?=some z→Tlr H' t g m row (mvL ups ss row z)→Q (.ref t) H')
def qeG (cw:Addr):Sp:=fun vs H Q _=>∃ (b r:Addr) (k:Nat) (ss:List Str) (ns:List Nat) (dps ups:List (Str×Str)) (v:V),vs=[.ref b,v]∧WebAt cw H b ss ns∧Duo ss ns dps ups∧Th r H k v∧((∀ z,v≠.str z)→∀ (t:Addr) (H':Hp),L2.Same H H'→H t=none→H' t=some (.lst [.int 0,.int 0])→Q (.ref t) H')∧∀ z,v=.str z→z.length≤10000∧(∀ k:Nat,fbN ups ss (wdS z)=some k→∀ (t:Addr) (H':Hp),L2.Same H H'→H t=none→H' t=some (.lst [.int 0,.int (k:Int)])→Q (.ref t) H') ∧
 (fbN ups ss (wdS z)=none→∀ (t g m:Addr) (y:Str) (H':Hp),L2.Same H H'→H t=none→(wdS z).getLast?=some y→Tlr H' t g m (wdS z) (mvL ups ss (wdS z) y)→Q (.ref t) H')
theorem qdF {ss:List Str} {ns:List Nat} {dps ups:List (Str×Str)} {row:List Str} (hw:WOk ss ns) (hD:Duo ss ns dps ups) (hne:row≠[]) (h:fbN ups ss row=none):RowOk ss ns row:=by
 have:=qcC hw hD (row:=row) (k:=row.length) (List.length_pos_iff.mpr hne) (Nat.le_refl _) (qeC h)
 rwa [List.take_length] at this
theorem ok_mdE (F:Fun K "_law_made" "_law_made" zP f fd) (T:Txt K mg cc cw) (D_played:DefOk P w K mg base (CX1 P w) 10 "played" ["web", "names"] (qeF cc cw)) (D_Walk_gone:MethOk P w K mg base CX0 1 (cc 9) "gone" ["self"] (qfQ cc cw)) (D_Play_moves:MethOk P w K mg base CX0 7 (cc 9) "moves" ["self"] (qeI cc cw)) (D_Walk_hand:MethOk P w K mg base CX0 1 (cc 9) "hand" ["self"] (qgr cc cw)) (D_show_play:DefOk P w K mg base CX0 3 "show_play" ["play"] (qc1 cc cw)):FnOk P w K mg base CX0 11 f fd ["_law_web", "_law_row_here"] qdV:=by
 refine F.ok sc_l_made (fun vs H Q E h=>?_) fun cdv A outer s H vs Q E hr h=>?_
 ·obtain ⟨b,r,v,o,rfl,_⟩:=h;rfl
 ·obtain ⟨b,r,v,o,rfl,hA,ho,q⟩:=h
  have hu:=zH hr
  refine ⟨_,(qe (qdq rfl rfl rfl (qe (qh (qA (qa qg (qa (qB D_Walk_gone (hm hr) (pv 2)) (qa (qB D_Play_moves (hm hr) (pv 2)) (qa (qB D_Walk_hand (hm hr) (pv 2)) (qa (qr D_show_play (hm hr) qE (qa (pv 2) qc)) qc)))))))))),?_⟩
  walk_at "v"
  refine ⟨fun σ c dxo H'=>∃ dy,c=.ref (cc 2)∧dxo=some dy∧L2.Same H H'∧H' dy=some (.xd [(qaj 2,v)])∧σ=[some (.ref b),some v,none,none],_,fun pn xe qH=>(qe (qw (i:=2) sc_l_made.nd rfl (Or.inl rfl) (qar D_played (hm hr) qH (qa (pv 0) (qa (pv 1) qc))))),?_,fun a C dx' σ' H' hE ha'=>?_⟩
  ·walk_at "v"
   exact .inl ⟨b,r,v,o,rfl,hA,ho,fun dy H' s' hy=>⟨dy,rfl,rfl,s',hy,rfl⟩⟩
  ·obtain ⟨dy,hc,rfl,s1,hy,rfl⟩:=hE
   cases hc
   refine ⟨_,(qek (K:=K) rfl sc_l_made.nd (i:=3) rfl rfl rfl T.m_NoPlace (qe (qh (qA (qa qg (qa (qQ (K:=K) rfl (pv 3) rfl) qc))))) (qek (K:=K) rfl sc_l_made.nd (i:=3) rfl rfl rfl T.m_NoMove (qe (qh (qA (qa qg (qa (qQ (K:=K) rfl (pv 3) rfl) qc))))) qdp)),?_⟩
   refine ⟨true,T.mr2,T.xat 2 (by decide),T.xat 2 (by decide),qbH ?_⟩
   walk_at "v"
   refine .inr ⟨a,cc 2,dy,_,v,rfl,.inr ha',T.xat 2 (by decide),T.na 2 (by decide),hy,rfl,?_⟩
   walk_at "v"
   refine ⟨by show 2≤sizeLine;decide,fun t ht=>?_⟩
   have s2:=qK s1 (o:=.lst [.int 0,v]) ht
   exact q t _ s2 (s1.free ht) qb
theorem ok_mdR (F:Fun K "_law_made" "_law_made" zP f fd) (T:Txt K mg cc cw) (D_played:DefOk P w K mg base (CX1 P w) 10 "played" ["web", "names"] (qeF cc cw)) (D_Walk_gone:MethOk P w K mg base CX0 1 (cc 9) "gone" ["self"] (qfQ cc cw)) (D_Play_moves:MethOk P w K mg base CX0 7 (cc 9) "moves" ["self"] (qeI cc cw)) (D_Walk_hand:MethOk P w K mg base CX0 1 (cc 9) "hand" ["self"] (qgr cc cw)) (D_show_play:DefOk P w K mg base CX0 3 "show_play" ["play"] (qc1 cc cw)):FnOk P w K mg base CX0 11 f fd ["_law_web", "_law_row_here"] (qdW cw):=by
 refine F.ok sc_l_made (fun vs H Q E h=>?_) fun cdv A outer s H vs Q E hr h=>?_
 ·obtain ⟨b,l,ss,ns,dps,ups,row,rfl,_⟩:=h;rfl
 ·obtain ⟨b,l,ss,ns,dps,ups,row,rfl,hW,hD,hl,hne,l50,hln,q0,q1,q2⟩:=h
  have hu:=zH hr
  have hw:=hW.ok
  refine ⟨_,(qe (qdq rfl rfl rfl (qe (qh (qA (qa qg (qa (qB D_Walk_gone (hm hr) (pv 2)) (qa (qB D_Play_moves (hm hr) (pv 2)) (qa (qB D_Walk_hand (hm hr) (pv 2)) (qa (qr D_show_play (hm hr) qE (qa (pv 2) qc)) qc)))))))))),?_⟩
  walk_at "v"
  refine ⟨fun σ c dxo H'=>∃ dy u,((c=.ref (cc 2)∧fbN ups ss row=some 0∧row[0]?=some u∧H' dy=some (.xd [(qaj 2,.str u)]))∨(c=.ref (cc 5)∧∃ k,fbN ups ss row=some (k + 1)∧row[k + 1]?=some u∧H' dy=some (.xd [(qaj 5,.str u)])))∧dxo=some dy∧L2.Same H H'∧σ=[some (.ref b),some (.ref l),none,none],_,fun pn xe qH=>(qe (qw (i:=2) sc_l_made.nd rfl (Or.inl rfl) (qar D_played (hm hr) qH (qa (pv 0) (qa (pv 1) qc))))),?_,fun a C dx' σ' H' hE ha'=>?_⟩
  ·walk_at "v"
   refine .inr ⟨b,l,ss,ns,dps,ups,row,rfl,hW,hD,hl,hne,l50,hln,(fun u e gu dy H' s' hy=>⟨dy,u,.inl ⟨rfl,e,gu,hy⟩,rfl,s',rfl⟩),(fun k u e gu dy H' s' hy=>⟨dy,u,.inr ⟨rfl,k,e,gu,hy⟩,rfl,s',rfl⟩),fun eN x p H1 s1 hx0 hp0 hP=>?_⟩
   have hR:=qdF hw hD hne eN
   obtain ⟨z,hz⟩:∃ z,row.getLast?=some z:=⟨_,List.getLast?_eq_some_getLast hne⟩
   have hzs:=hR.ins z (List.mem_of_getLast? hz)
   have emv:mvS ss ns row z=mvL ups ss row z:=qdT hw hD.wg.adj hD.ti hzs
   obtain ⟨dx,hx,hp,_⟩:=id hP
   walk_at "v"
   refine ⟨x,dx,_,rfl,hx,jc,?_⟩
   walk_at "v"
   refine ⟨x,b,p,ss,ns,row,rfl,hP,fun g hg=>?_⟩
   have s12:=qK (Sr H1) (o:=.lst (row.map V.str)) hg
   have eg:upd H1 g (.lst (row.map V.str)) g=some (.lst (row.map V.str)):=qb
   have s2:=s1.trans s12
   replace hP:=hP.same s12
   replace hx:=s12 _ _ hx
   generalize upd H1 g (.lst (row.map V.str))=H2 at s2 eg hP hx ⊢
   walk_at "v"
   refine ⟨x,dx,_,rfl,hx,jc,?_⟩
   walk_at "v"
   refine ⟨x,b,p,ss,ns,row,z,rfl,hP,hz,hzs,fun m H3 s23 hm0 hm=>?_⟩
   rw [emv] at hm
   have s3:=s2.trans s23
   replace hP:=hP.same s23
   replace hx:=s23 _ _ hx
   walk_at "v"
   refine ⟨x,dx,_,rfl,hx,jc,?_⟩
   walk_at "v"
   refine ⟨x,b,p,ss,ns,row,rfl,hP,?_⟩
   walk_at "v"
   refine ⟨x,b,p,ss,ns,row,rfl,hP,hR.few,(fun s hs=>hw.nm _ (hR.ins s hs)),fun H4 s34=>?_⟩
   have s4:=s3.trans s34
   walk_at "v"
   refine ⟨by show 5≤sizeLine;decide,fun t ht=>?_⟩
   have s5:=qK (Sr H4) (o:=.lst [.int 2,.ref g,.ref m,.int (((row.length:Int) - 1) % 2),.str (Txt.join " > " row)]) ht
   exact q2 eN t g m z _ (s4.trans s5) (s4.free ht) hz ⟨qb,s5 _ _ (s34 _ _ (s23 _ _ eg)),s5 _ _ (s34 _ _ hm)⟩
  ·obtain ⟨dy,u,hc,rfl,s1,rfl⟩:=hE
   refine ⟨_,(qek (K:=K) rfl sc_l_made.nd (i:=3) rfl rfl rfl T.m_NoPlace (qe (qh (qA (qa qg (qa (qQ (K:=K) rfl (pv 3) rfl) qc))))) (qek (K:=K) rfl sc_l_made.nd (i:=3) rfl rfl rfl T.m_NoMove (qe (qh (qA (qa qg (qa (qQ (K:=K) rfl (pv 3) rfl) qc))))) qdp)),?_⟩
   rcases hc with ⟨hc,e,gu,hy⟩ | ⟨hc,k,e,gu,hy⟩
   ·cases hc
    refine ⟨true,T.mr2,T.xat 2 (by decide),T.xat 2 (by decide),qbH ?_⟩
    walk_at "v"
    refine .inr ⟨a,cc 2,dy,_,.str u,rfl,.inr ha',T.xat 2 (by decide),T.na 2 (by decide),hy,rfl,?_⟩
    walk_at "v"
    refine ⟨by show 2≤sizeLine;decide,fun t ht=>?_⟩
    exact q0 u e gu t _ (qK s1 ht) (s1.free ht) qb
   ·cases hc
    refine ⟨false,T.mr52,T.xat 2 (by decide),T.xat 5 (by decide),?_⟩
    rw [if_neg Bool.false_ne_true]
    refine ⟨true,T.mr5,T.xat 5 (by decide),T.xat 5 (by decide),qbH ?_⟩
    walk_at "v"
    refine .inr ⟨a,cc 5,dy,_,.str u,rfl,.inr ha',T.xat 5 (by decide),T.na 5 (by decide),hy,rfl,?_⟩
    walk_at "v"
    refine ⟨by show 2≤sizeLine;decide,fun t ht=>?_⟩
    exact q1 k u e gu t _ (qK s1 ht) (s1.free ht) qb
theorem ok_lr14 (F:Fun K "_law_read" "_law_read" qah f fd) (T:Txt K mg cc cw) (D_read_play:DefOk P w K mg base (CX1 P w) 11 "read_play" ["web", "text"] (qfS cc cw)) (D_Walk_gone:MethOk P w K mg base CX0 1 (cc 9) "gone" ["self"] (qfQ cc cw)) (D_Play_moves:MethOk P w K mg base CX0 7 (cc 9) "moves" ["self"] (qeI cc cw)) (D_Walk_hand:MethOk P w K mg base CX0 1 (cc 9) "hand" ["self"] (qgr cc cw)) (D_show_play:DefOk P w K mg base CX0 3 "show_play" ["play"] (qc1 cc cw)):FnOk P w K mg base CX0 12 f fd ["_law_web", "_law_text"] (qeG cw):=by
 refine F.ok sc_l_read (fun vs H Q E h=>?_) fun cdv A outer s H vs Q E hr h=>?_
 ·obtain ⟨b,r,k,ss,ns,dps,ups,v,rfl,_⟩:=h;rfl
 ·obtain ⟨b,r,k,ss,ns,dps,ups,v,rfl,hW,hD,hv,q0,q1⟩:=h
  have hu:=zH hr
  have hw:=hW.ok
  refine ⟨_,(qe (qdq rfl rfl rfl (qe (qh (qA (qa qg (qa (qB D_Walk_gone (hm hr) (pv 2)) (qa (qB D_Play_moves (hm hr) (pv 2)) (qa (qB D_Walk_hand (hm hr) (pv 2)) (qa (qr D_show_play (hm hr) qE (qa (pv 2) qc)) qc)))))))))),?_⟩
  walk_at "v"
  refine ⟨fun σ c dxo H'=>∃ (dy:Addr) (k:Nat),c=.ref (cc 7)∧dxo=some dy∧L2.Same H H'∧H' dy=some (.xd [(qaj 7,.int (k:Int))])∧(((∀ z,v≠.str z)∧k=0)∨∃ z,v=.str z∧fbN ups ss (wdS z)=some k)∧σ=[some (.ref b),some v,none,none],_,fun pn xe qH=>(qe (qw (i:=2) sc_l_read.nd rfl (Or.inl rfl) (qar D_read_play (hm hr) qH (qa (pv 0) (qa (pv 1) qc))))),?_,fun a C dx' σ' H' hE ha'=>?_⟩
  ·walk_at "v"
   refine ⟨b,r,k,ss,ns,dps,ups,v,rfl,hW,hD,hv,(fun h dy H' s' hy=>⟨dy,0,rfl,rfl,s',hy,.inl ⟨h,rfl⟩,rfl⟩),fun z ez=>?_⟩
   obtain ⟨hzl,hq1,hq2⟩:=q1 z ez
   refine ⟨hzl,(fun k e dy H' s' hy=>⟨dy,k,rfl,rfl,s',hy,.inr ⟨z,ez,e⟩,rfl⟩),fun eN x p H1 s1 hx0 hp0 hP=>?_⟩
   have hne:=qeW z
   generalize wdS z=row at *
   have hR:=qdF hw hD hne eN
   obtain ⟨y,hz⟩:∃ y,row.getLast?=some y:=⟨_,List.getLast?_eq_some_getLast hne⟩
   have hzs:=hR.ins y (List.mem_of_getLast? hz)
   have emv:mvS ss ns row y=mvL ups ss row y:=qdT hw hD.wg.adj hD.ti hzs
   obtain ⟨dx,hx,hp,_⟩:=id hP
   walk_at "v"
   refine ⟨x,dx,_,rfl,hx,jc,?_⟩
   walk_at "v"
   refine ⟨x,b,p,ss,ns,row,rfl,hP,fun g hg=>?_⟩
   have s12:=qK (Sr H1) (o:=.lst (row.map V.str)) hg
   have eg:upd H1 g (.lst (row.map V.str)) g=some (.lst (row.map V.str)):=qb
   have s2:=s1.trans s12
   replace hP:=hP.same s12
   replace hx:=s12 _ _ hx
   generalize upd H1 g (.lst (row.map V.str))=H2 at s2 eg hP hx ⊢
   walk_at "v"
   refine ⟨x,dx,_,rfl,hx,jc,?_⟩
   walk_at "v"
   refine ⟨x,b,p,ss,ns,row,y,rfl,hP,hz,hzs,fun m H3 s23 hm0 hm=>?_⟩
   rw [emv] at hm
   have s3:=s2.trans s23
   replace hP:=hP.same s23
   replace hx:=s23 _ _ hx
   walk_at "v"
   refine ⟨x,dx,_,rfl,hx,jc,?_⟩
   walk_at "v"
   refine ⟨x,b,p,ss,ns,row,rfl,hP,?_⟩
   walk_at "v"
   refine ⟨x,b,p,ss,ns,row,rfl,hP,hR.few,(fun s hs=>hw.nm _ (hR.ins s hs)),fun H4 s34=>?_⟩
   have s4:=s3.trans s34
   walk_at "v"
   refine ⟨by show 5≤sizeLine;decide,fun t ht=>?_⟩
   have s5:=qK (Sr H4) (o:=.lst [.int 2,.ref g,.ref m,.int (((row.length:Int) - 1) % 2),.str (Txt.join " > " row)]) ht
   exact hq2 eN t g m y _ (s4.trans s5) (s4.free ht) hz ⟨qb,s5 _ _ (s34 _ _ (s23 _ _ eg)),s5 _ _ (s34 _ _ hm)⟩
  ·obtain ⟨dy,k',hc,rfl,s1,hy,hk,rfl⟩:=hE
   cases hc
   refine ⟨_,(qek (K:=K) rfl sc_l_read.nd (i:=3) rfl rfl rfl T.m_NoText (qe (qh (qA (qa qg (qa (qQ (K:=K) rfl (pv 3) rfl) qc))))) qdp),?_⟩
   refine ⟨true,T.mr7,T.xat 7 (by decide),T.xat 7 (by decide),qbH ?_⟩
   walk_at "v"
   refine .inr ⟨a,cc 7,dy,_,.int (k':Int),rfl,.inr ha',T.xat 7 (by decide),T.na 7 (by decide),hy,rfl,?_⟩
   walk_at "v"
   refine ⟨by show 2≤sizeLine;decide,fun t ht=>?_⟩
   rcases hk with ⟨h1,rfl⟩ | ⟨z,ez,e⟩
   ·exact q0 h1 t _ (qK s1 ht) (s1.free ht) qb
   ·exact (q1 z ez).2.1 k' e t _ (qK s1 ht) (s1.free ht) qb
local macro_rules | `(tactic| walk_at "w")=>`(tactic| with_reducible refine vAnyM ?_)
theorem sg_low {c:Nat} (h:sg c=true):c < 128:=by
 unfold sg at h
 split at h
 ·rw [Bool.not_eq_true',decide_eq_false_iff_not] at h
  refine Nat.lt_of_not_le fun h2=>h ?_
  exact List.Lex.rel (show 122 < c by omega)
 ·cases h
theorem name_ascii {x:Str} (h:jT x=true):x.cps.all (· < 128)=true:=by
 unfold jT at h
 split at h
 ·rw [Array.all_eq_true_iff_forall_mem]
  intro c hc
  exact decide_eq_true (sg_low (List.all_eq_true.mp h c (Array.mem_toList_iff.mpr hc)))
 ·cases h
theorem huM {k:Nat} {A:Around} (hr:RoomM k A):A.units + 100 < cLine:=Nat.lt_of_le_of_lt (by omega) hr.un
def qgy:Sp:=fun vs H Q _=>∃ z:Str,vs=[.str z]∧jT z=true∧∀ H',L2.Same H H'→Q (.bl true) H'
def qgz:Sp:=fun vs H Q _=>∃ (d:Addr) (ss:List Str) (z:Str),vs=[.ref d,.str z]∧H d=some (.dK (qaw ss 0))∧z∈ss∧jT z=true∧∀ H',L2.Same H H'→Q (.bl true) H'
def qgA (cw:Addr):Sp:=fun vs H Q _=>∃ (x:Addr) (ss:List Str) (ns:List Nat) (z:Str),vs=[.ref x,.str z]∧WebAt cw H x ss ns∧z∈ss∧∀ H',L2.Same H H'→Q (.bl true) H'
def qgB (cw:Addr):Sp:=fun vs H Q _=>∃ (x:Addr) (ss:List Str) (ns:List Nat) (z:Str),vs=[.ref x,.str z]∧WebAt cw H x ss ns∧z∈ss∧∀ H',L2.Same H H'→Q (.int (ss.idxOf z:Nat)) H'
def qgC (cw:Addr):Sp:=fun vs H Q _=>∃ (x:Addr) (ss:List Str) (ns:List Nat) (z:Str),vs=[.ref x,.str z]∧WebAt cw H x ss ns∧z∈ss∧∀ H',L2.Same H H'→Q (.int (ns.getD (ss.idxOf z) 0:Nat)) H'
def qgD (cw:Addr):Sp:=fun vs H Q _=>∃ (x:Addr) (ss:List Str) (ns:List Nat) (z:Str),vs=[.ref x,.str z]∧WebAt cw H x ss ns∧z∈ss∧∀ H1 l,L2.Same H H1→H1 l=none→Q (.ref l) (upd H1 l (.lst ((inB ss 0 (ns.getD (ss.idxOf z) 0)).map V.str)))
theorem ok_nameM (F:Fun K "is_name" "is_name" jR f fd) (T:Txt K mg cc cw):FnOkM P w K mg base 1 f fd ["thing"] qgy:=by
 refine F.okM sc_is_name (fun vs H Q E h=>?_) (fun cdv A outer s H vs Q E hr hi h=>?_)
 ·obtain ⟨z,rfl,_⟩:=h;rfl
 ·obtain ⟨x,rfl,hv,q⟩:=h
  refine ⟨_,(qf (qN (PW.pt (qbp (jC (jj (qm (qdr (K:=K) rfl) rfl T.b_isinstance boot_isinstance (qa (pv 0) (qa (jN (v:=.ty "str") rfl T.b_str boot_str rfl) qc))))) (qak (jC (qc9 qe4 qe4 qg (qm (jW (K:=K) rfl) rfl T.b_len boot_len (qa (pv 0) qc)) (qa4 rfl T.g_LONGEST_NAME)))))) (qe (qh zS)) qo)
 (qe (qh (qm (k_allM (K:=K) rfl hi) rfl T.b_all boot_all (qa (qbR (sc:=qd jR) (XN:=["thing"]) ["sign"] 1 [] rfl rfl hi (by decide +kernel) rfl (by decide +kernel)
  (qbQ (K:=K) rfl (pv 0)) (fun _ _ _ _ _=>(qt (i:=0) (show (["sign"]:List Str).Nodup by decide +kernel) rfl (Or.inl rfl))) zC
  (fun _ _ _ _ _=>qaE)
  (fun _ _ _ _ _=>(qc8 qe4 qe4 qV (pv 0) qV))) qc))))),?_⟩
  have hx:=jg hv
  have hin:1≤x.length∧x.length≤6:=by
   unfold jT at hv
   split at hv
   ·assumption
   ·cases hv
  have hall:x.cps.toList.all sg=true:=by
   unfold jT at hv
   rw [if_pos hin] at hv
   exact hv
  have hasc:=name_ascii hv
  walk_at "v"
  refine qeN (.inl (.str x)) rfl (qbK K "str" (by simp) "str" (by simp)) ?_
  walk_at "v"
  refine qY (fun h=>?_) fun h=>?_
  ·cases h
  ·walk_at "v"
   refine qgc (Nat.le_trans hx (by decide)) ?_
   walk_at "v"
   refine qY (fun h1=>?_) fun h1=>?_
   ·walk_at "v"
    refine qY (fun h2=>?_) fun h2=>?_
    ·simp only [Bool.not_eq_true',decide_eq_false_iff_not] at h2
     exact absurd (show (x.length:Int)≤6 by omega) h2
    ·walk_at "v"
     refine ⟨hasc,qdk (fun i ys H'=>H'=H∧ys=((x.cps.toList.take i).map sg).map V.bl) ⟨rfl,by simp⟩ (fun i c ys H' hc hp=>?_) fun ys H' hp=>?_⟩
     ·obtain ⟨rfl,rfl⟩:=hp
      walk_at "v"
      refine qbH ?_
      walk_at "v"
      have hl:(List.map V.bl (List.map sg (List.take i x.cps.toList))).length < sizeLine:=by
       rw [List.length_map,List.length_map,List.length_take]
       exact qq (Nat.le_trans (Nat.min_le_right _ _) (by simpa [Str.length] using (show x.length≤1000 by omega)))
      have key:∀ b,b=sg c→(List.map V.bl (List.map sg (List.take i x.cps.toList)))++[V.bl b]=List.map V.bl (List.map sg (List.take (i + 1) x.cps.toList)):=by
       intro b hb
       have e':x.cps.toList[i]?=some c:=by simpa using hc
       rw [hb,List.take_add_one,e']
       simp
      refine qY (fun h3=>?_) fun h3=>?_
      ·walk_at "v"
       exact ⟨hl,rfl,key _ (by unfold sg;rw [if_pos h3])⟩
      ·exact ⟨hl,rfl,key _ (by unfold sg;rw [if_neg h3])⟩
     ·obtain ⟨rfl,rfl⟩:=hp
      have ht:x.cps.toList.take x.cps.size=x.cps.toList:=by rw [← Array.length_toList,List.take_length]
      rw [ht]
      refine ⟨?_,fun l hl=>?_⟩
      ·rw [List.length_map,List.length_map]
       exact Nat.le_of_lt (qq (by simpa [Str.length] using (show x.length≤1000 by omega)))
      ·walk_at "v"
       refine ⟨l,x.cps.toList.map sg,rfl,SqL.of qb,?_⟩
       have z:=q _ (qK (Sr H') (o:=.lst ((x.cps.toList.map sg).map V.bl)) hl)
       rw [List.all_map]
       have e2:x.cps.toList.all (id ∘ sg)=true:=hall
       rw [e2]
       exact z
   ·exact absurd (decide_eq_true (show (1:Int)≤x.length by omega)) h1
theorem ok_placeM (F:Fun K "is_place" "is_place" jX f fd) (D_is_name:DefOkM P w K mg base 1 "is_name" ["thing"] qgy):FnOkM P w K mg base 2 f fd ["numbers", "thing"] qgz:=by
 refine F.okM sc_is_place (fun vs H Q E h=>?_) (fun cdv A outer s H vs Q E hr hi h=>?_)
 ·obtain ⟨d,ss,z,rfl,_⟩:=h;rfl
 ·obtain ⟨d,ss,x,rfl,hd,hx,hn,q⟩:=h
  have hu:=huM hr
  refine ⟨_,(qe (qh (qbZ (qcR D_is_name (hr.dn (by decide)) hi (qa (pv 1) qc)) (qbr (jP (qem (K:=K) rfl hu) (pv 1) (pv 0) (by with_unfolding_all rfl)))))),?_⟩
  walk_at "v"
  refine ⟨x,rfl,hn,fun H1 s1=>?_⟩
  walk_at "v"
  refine qY (fun hc=>?_) fun hc=>absurd rfl hc
  walk_at "v"
  refine .inr (.inl ⟨d,_,rfl,DGet.k (k:=Sum.inr x) (s1 d _ hd),?_⟩)
  rw [qat,decide_eq_true hx]
  exact q _ s1
theorem ok_hasM (F:Fun K "has_place" "Web.has_place" qZ f fd) (T:Txt K mg cc cw) (D_is_place:DefOkM P w K mg base 2 "is_place" ["numbers", "thing"] qgz):FnOkM P w K mg base 3 f fd ["self", "thing"] (qgA cw):=by
 refine F.okM sc_Web_has_place (fun vs H Q E h=>?_) (fun cdv A outer s H vs Q E hr hi h=>?_)
 ·obtain ⟨x,ss,ns,z,rfl,_⟩:=h;rfl
 ·obtain ⟨x,ss,ns,z,rfl,⟨dx,d,ol,n,hx,hd,ho,hn,hw⟩,hz,q⟩:=h
  refine ⟨_,(qe (qh (qcR D_is_place (hr.dn (by decide)) hi (qa (qQ (K:=K) rfl (pv 0) rfl) (qa (pv 1) qc))))),?_⟩
  walk_at "v"
  refine .inl ⟨x,cw,dx,_,.ref d,rfl,hx,T.wcl,T.wn,zl,?_⟩
  walk_at "v"
  exact ⟨d,ss,z,rfl,hd,hz,hw.nm _ hz,q⟩
theorem ok_numM (F:Fun K "number_of" "Web.number_of" q9 f fd) (T:Txt K mg cc cw) (D_Web_has_place:MethOkM P w K mg base 3 cw "has_place" ["self", "thing"] (qgA cw)):FnOkM P w K mg base 4 f fd ["self", "place"] (qgB cw):=by
 refine F.okM sc_Web_number_of (fun vs H Q E h=>?_) (fun cdv A outer s H vs Q E hr hi h=>?_)
 ·obtain ⟨x,ss,ns,z,rfl,_⟩:=h;rfl
 ·obtain ⟨x,ss,ns,z,rfl,hW,hz,q⟩:=h
  have hu:=huM hr
  obtain ⟨dx,d,ol,n,hx,hd,ho,hn,hw⟩:=id hW
  refine ⟨_,(qf (qN (jC (jj (zx D_Web_has_place (hr.dn (by decide)) hi (pv 0) (qa (pv 1) qc)))) (qe zZ) qo)
 (qe (qh (qO (qP (K:=K) rfl hu) (qQ (K:=K) rfl (pv 0) rfl) (pv 1) (fun _ _=>rfl))))),?_⟩
  walk_at "v"
  refine ⟨x,dx,_,rfl,hx,qaV (by decide +kernel),?_⟩
  walk_at "v"
  refine ⟨x,ss,ns,z,rfl,hW,hz,fun H1 s1=>?_⟩
  walk_at "v"
  refine qY (fun h=>by cases h) fun h=>?_
  walk_at "v"
  refine .inl ⟨x,cw,dx,_,.ref d,rfl,s1 _ _ hx,T.wcl,T.wn,zl,?_⟩
  walk_at "v"
  obtain ⟨j,hj,gj,vj⟩:=zb (i:=0) hz
  rw [Nat.zero_add] at vj
  have hix:ss[ss.idxOf z]?=some z:=by rw [List.getElem?_eq_getElem (List.idxOf_lt_length_of_mem hz)];exact congrArg some (List.getElem_idxOf _)
  have ej:j=ss.idxOf z:=qI hw.nd gj hix
  rw [ej] at vj
  refine .inr ⟨d,.int (ss.idxOf z:Nat),rfl,?_,q H1 s1⟩
  have:=DGet.k (k:=Sum.inr z) (s1 _ _ hd)
  rw [vj] at this
  exact this
theorem ok_bbM (F:Fun K "bits_beside" "Web.bits_beside" qL f fd) (T:Txt K mg cc cw) (D_Web_number_of:MethOkM P w K mg base 4 cw "number_of" ["self", "place"] (qgB cw)):FnOkM P w K mg base 5 f fd ["self", "place"] (qgC cw):=by
 refine F.okM sc_Web_bits_beside (fun vs H Q E h=>?_) (fun cdv A outer s H vs Q E hr hi h=>?_)
 ·obtain ⟨x,ss,ns,z,rfl,_⟩:=h;rfl
 ·obtain ⟨x,ss,ns,z,rfl,hW,hz,q⟩:=h
  have hu:=huM hr
  obtain ⟨dx,d,ol,n,hx,hd,ho,hn,hw⟩:=id hW
  refine ⟨_,(qe (qh (qO (qP (K:=K) rfl hu) (qQ (K:=K) rfl (pv 0) rfl) (zx D_Web_number_of (hr.dn (by decide)) hi (pv 0) (qa (pv 1) qc)) (fun _ _=>rfl)))),?_⟩
  walk_at "v"
  refine .inl ⟨x,cw,dx,_,.ref n,rfl,hx,T.wcl,T.wr,qev,?_⟩
  walk_at "v"
  refine ⟨x,dx,_,rfl,hx,qaV (by decide +kernel),?_⟩
  walk_at "v"
  refine ⟨x,ss,ns,z,rfl,hW,hz,fun H1 s1=>?_⟩
  exact .inl (zT (s1 _ _ hn) (qJ (qaN (by rw [hw.len];exact List.idxOf_lt_length_of_mem hz))) (q H1 s1))
theorem ok_bitM (F:Fun K "has_bit" "has_bit" zq f fd):FnOkM P w K mg base 1 f fd ["bits", "number"] qes:=by
 refine F.okM sc_has_bit (fun vs H Q E h=>?_) (fun cdv A outer s H vs Q E hr hi h=>?_)
 ·obtain ⟨b,n,rfl,_⟩:=h;rfl
 ·obtain ⟨b,n,rfl,hn,q⟩:=h
  have hu:=huM hr
  refine ⟨_,(qe (qh (jP (zh (K:=K) rfl hu) (qu qeZ (qu qeY (pv 0) (pv 1)) qg) qg (qx _)))),?_⟩
  walk_at "v"
  refine vI hn ?_
  walk_at "v"
  refine .inl (.inl (.inl ⟨rfl,rfl,?_⟩))
  exact q
theorem ok_ninM (F:Fun K "names_in" "Web.names_in" qM f fd) (T:Txt K mg cc cw) (D_has_bit:DefOkM P w K mg base 1 "has_bit" ["bits", "number"] qes):FnOkM P w K mg base 2 f fd ["self", "bits"] (qeP cw):=by
 refine F.okM sc_Web_names_in (fun vs H Q E h=>?_) (fun cdv A outer s H vs Q E hr hi h=>?_)
 ·obtain ⟨x,ss,ns,b,rfl,_⟩:=h;rfl
 ·obtain ⟨x,ss,ns,b,rfl,⟨dx,d,ol,n,hx,hd,ho,hn,hw⟩,q⟩:=h
  have hu:=huM hr
  refine ⟨_,(qe (qh (qbR (sc:=qd qM) (XN:=["self", "bits"]) ["name", "bits", "self"] 1 [1,0] rfl rfl hi (by decide +kernel) rfl (by decide +kernel)
  (qbQ (K:=K) rfl (qQ (K:=K) rfl (pv 0) rfl)) (fun _ _ _ _ _=>(qt (i:=0) (show (["name", "bits", "self"]:List Str).Nodup by decide +kernel) rfl (Or.inl rfl))) zC
  (fun _ _ _ _ hc=>(qaF (jj (qcR D_has_bit (hr.dn (by decide)) hc (qa (pv 1) (qa (qO (qP (K:=K) rfl hu) (qQ (K:=K) rfl (pv 2) rfl) (pv 0) (fun _ _=>rfl)) qc))))))
  (fun _ _ _ _ _=>(pv 0))))),?_⟩
  walk_at "v"
  refine .inl ⟨x,cw,dx,_,.ref ol,rfl,hx,T.wcl,T.wo,qdB,?_⟩
  refine .inl ⟨⟨_,SqL.of ho⟩,zG (K:=K) (fun i ys H'=>H'=H∧ys=(inB (ss.take i) 0 b).map V.str) ⟨rfl,by simp [inB]⟩ (fun i ys H' _ hp=>by rw [hp.1];exact SqL.of ho) (fun i y ys H' hy hp=>?_) fun ys H' hp=>?_⟩
  ·obtain ⟨rfl,rfl⟩:=hp
   have hi:i < ss.length:=by simpa using (List.getElem?_eq_some_iff.mp hy).1
   have gi:ss[i]?=some ss[i]:=List.getElem?_eq_getElem hi
   generalize ss[i]=sy at gi
   have ey:y=.str sy:=by rw [List.getElem?_map,gi] at hy;cases hy;rfl
   subst ey
   obtain ⟨j,hj,gj,vj⟩:=zb (i:=0) (List.mem_of_getElem? gi)
   rw [Nat.zero_add] at vj
   have hji:j=i:=qI hw.nd gj gi
   subst hji
   have htk:ss.take (j + 1)=ss.take j++[sy]:=by rw [List.take_add_one,gi];rfl
   have hln:(ss.take j).length=j:=by rw [List.length_take];omega
   walk_at "v"
   refine .inl ⟨x,cw,dx,_,.ref d,rfl,hx,T.wcl,T.wn,zl,?_⟩
   walk_at "v"
   refine .inr ⟨d,.int j,rfl,?_,?_⟩
   ·have:=DGet.k (k:=Sum.inr sy) hd
    rw [vj] at this
    exact this
   walk_at "v"
   refine ⟨_,_,rfl,by omega,?_⟩
   rw [qcU]
   walk_at "v"
   have few:((inB (ss.take j) 0 b).map V.str).length < sizeLine:=by
    rw [List.length_map]
    exact qq (Nat.le_trans (qau _ _ _) (by rw [hln];have:=hw.few;omega))
   refine qY (fun hb=>?_) fun hb=>?_
   ·walk_at "v"
    refine ⟨few,rfl,?_⟩
    rw [htk,qab,hln,Nat.zero_add,if_pos hb]
    simp
   ·refine ⟨rfl,?_⟩
    rw [htk,qab,hln,Nat.zero_add,if_neg hb]
    simp
  ·obtain ⟨rfl,rfl⟩:=hp
   have etk:ss.take (ss.map V.str).length=ss:=by rw [List.length_map,List.take_length]
   rw [etk]
   refine ⟨?_,fun l hl=>q l hl⟩
   rw [List.length_map]
   exact Nat.le_of_lt (qq (Nat.le_trans (qau _ _ _) (by have:=hw.few;omega)))
theorem ok_bsM (F:Fun K "beside" "Web.beside" js f fd) (T:Txt K mg cc cw) (D_Web_bits_beside:MethOkM P w K mg base 5 cw "bits_beside" ["self", "place"] (qgC cw)) (D_Web_names_in:MethOkM P w K mg base 2 cw "names_in" ["self", "bits"] (qeP cw)):FnOkM P w K mg base 6 f fd ["self", "place"] (qgD cw):=by
 refine F.okM sc_Web_beside (fun vs H Q E h=>?_) (fun cdv A outer s H vs Q E hr hi h=>?_)
 ·obtain ⟨x,ss,ns,z,rfl,_⟩:=h;rfl
 ·obtain ⟨x,ss,ns,z,rfl,hW,hz,q⟩:=h
  obtain ⟨dx,d,ol,n,hx,hd,ho,hn,hw⟩:=id hW
  refine ⟨_,(qe (qh (zx D_Web_names_in (hr.dn (by decide)) hi (pv 0) (qa (zx D_Web_bits_beside (hr.dn (by decide)) hi (pv 0) (qa (pv 1) qc)) qc)))),?_⟩
  walk_at "v"
  refine ⟨x,dx,_,rfl,hx,qaV (by decide +kernel),?_⟩
  walk_at "v"
  refine ⟨x,dx,_,rfl,hx,qaV (by decide +kernel),?_⟩
  walk_at "v"
  refine ⟨x,ss,ns,z,rfl,hW,hz,fun H1 s1=>?_⟩
  walk_at "v"
  exact ⟨x,ss,ns,_,rfl,hW.same s1,fun l hl=>q H1 l s1 hl⟩
theorem ok_psM (F:Fun K "stands_at" "Walk.stands_at" qU f fd) (T:Txt K mg cc cw):FnOkM P w K mg base 1 f fd ["self"] (qgL cc cw):=by
 refine F.okM sc_Walk_stands_at (fun vs H Q E h=>?_) (fun cdv A outer s H vs Q E hr hi h=>?_)
 ·obtain ⟨x,b,p,ss,ns,tr,z,rfl,_⟩:=h;rfl
 ·obtain ⟨x,b,p,ss,ns,tr,z,rfl,⟨dx,hx,hp,hW⟩,hz,q⟩:=h
  have hu:=huM hr
  refine ⟨_,(qe (qh (qO (qP (K:=K) rfl hu) (qQ (K:=K) rfl (pv 0) rfl) (qdJ qbs qg) (fun _ _=>rfl)))),?_⟩
  walk_at "v"
  refine .inl ⟨x,cc 9,dx,_,.ref p,rfl,hx,T.pcl,T.pp,zd,?_⟩
  walk_at "v"
  refine vU ?_
  exact .inl (zT hp (qcY hz) q)
theorem ok_ngM (F:Fun K "not_gone" "Play.not_gone" qF f fd) (T:Txt K mg cc cw):FnOkM P w K mg base 1 f fd ["self", "names"] (qgM cc cw):=by
 refine F.okM sc_Play_not_gone (fun vs H Q E h=>?_) (fun cdv A outer s H vs Q E hr hi h=>?_)
 ·obtain ⟨x,b,p,l,ss,ns,tr,xs,rfl,_⟩:=h;rfl
 ·obtain ⟨x,b,p,l,ss,ns,tr,xs,rfl,⟨dx,hx,hp,hW⟩,hl,few,q⟩:=h
  have hu:=huM hr
  refine ⟨_,(qe (qh (qbR (sc:=qd qF) (XN:=["self", "names"]) ["name", "self"] 1 [0] rfl rfl hi (by decide +kernel) rfl (by decide +kernel)
  (qbQ (K:=K) rfl (pv 1)) (fun _ _ _ _ _=>(qt (i:=0) (show (["name", "self"]:List Str).Nodup by decide +kernel) rfl (Or.inl rfl))) zC
  (fun _ _ _ _ hc=>(qaF (qp (zg (K:=K) rfl hu) (pv 0) (qQ (K:=K) rfl (pv 1) rfl) (by with_unfolding_all rfl))))
  (fun _ _ _ _ _=>(pv 0))))),?_⟩
  walk_at "v"
  refine .inl ⟨⟨_,SqL.of hl⟩,zG (K:=K) (fun m ys H'=>H'=H∧ys=(ngS tr (xs.take m)).map V.str) ⟨rfl,rfl⟩ (fun m ys H' _ hp=>by rw [hp.1];exact SqL.of hl) (fun m y ys H' hy hp'=>?_) fun ys H' hp'=>?_⟩
  ·obtain ⟨rfl,rfl⟩:=hp'
   obtain ⟨o,gm,rfl⟩:=ji hy
   have htk:xs.take (m + 1)=xs.take m++[o]:=by rw [List.take_add_one,gm];rfl
   have fewY:((ngS tr (xs.take m)).map V.str).length < sizeLine:=by
    rw [List.length_map]
    exact qq (Nat.le_trans (List.length_filter_le _ _) (by rw [List.length_take];omega))
   have enx:ngS tr (xs.take (m + 1))=ngS tr (xs.take m)++(if (!decide (o∈tr))=true then [o] else []):=by
    unfold ngS
    rw [htk,List.filter_append,List.filter_cons]
    rfl
   rw [enx,List.map_append]
   walk_at "v"
   refine .inl ⟨x,cc 9,dx,_,.ref p,rfl,hx,T.pcl,T.pp,zd,?_⟩
   refine .inl ⟨p,_,rfl,.inl (SqL.of hp),rfl,jS _,?_⟩
   rw [zO]
   walk_at "v"
   refine qY (fun h=>?_) fun h=>?_
   ·walk_at "v"
    refine ⟨fewY,rfl,?_⟩
    have h:(!decide (o∈tr))=true:=h
    rw [if_pos h]
    rfl
   ·refine ⟨rfl,?_⟩
    have h:¬ (!decide (o∈tr))=true:=h
    rw [if_neg h]
    simp
  ·obtain ⟨rfl,rfl⟩:=hp'
   have etl:xs.take (xs.map V.str).length=xs:=by rw [List.length_map,List.take_length]
   rw [etl]
   exact ⟨by rw [List.length_map];exact Nat.le_of_lt (qq (Nat.le_trans (List.length_filter_le _ _) (by omega))),q⟩
theorem ok_pmM (F:Fun K "moves" "Play.moves" jt f fd) (T:Txt K mg cc cw) (QD_Web_beside:MethOkM P w K mg base 6 cw "beside" ["self", "place"] (qgD cw)) (D_Walk_stands_at:MethOkM P w K mg base 1 (cc 9) "stands_at" ["self"] (qgL cc cw)) (D_Play_not_gone:MethOkM P w K mg base 1 (cc 9) "not_gone" ["self", "names"] (qgM cc cw)):FnOkM P w K mg base 7 f fd ["self"] (qeI cc cw):=by
 refine F.okM sc_Play_moves (fun vs H Q E h=>?_) (fun cdv A outer s H vs Q E hr hi h=>?_)
 ·obtain ⟨x,b,p,ss,ns,tr,z,rfl,_⟩:=h;rfl
 ·obtain ⟨x,b,p,ss,ns,tr,z,rfl,hP,hz,hzs,q⟩:=h
  obtain ⟨dx,hx,hp,hW⟩:=id hP
  have hu:=huM hr
  refine ⟨_,(qe (qh (zx D_Play_not_gone (hr.dn (by decide)) hi (pv 0) (qa (zx QD_Web_beside (hr.dn (by decide)) hi (qQ (K:=K) rfl (pv 0) rfl) (qa (qcr D_Walk_stands_at (hr.dn (by decide)) hi (pv 0)) qc)) qc)))),?_⟩
  obtain ⟨wx,d,ol,n,hb,_,_,_,hw⟩:=id hW
  have hnm:=hw.nm _ hzs
  have hix:ss[ss.idxOf z]?=some z:=by rw [List.getElem?_eq_getElem (List.idxOf_lt_length_of_mem hzs)];exact congrArg some (List.getElem_idxOf _)
  walk_at "v"
  refine ⟨x,dx,_,rfl,hx,jc,?_⟩
  walk_at "v"
  refine .inl ⟨x,cc 9,dx,_,.ref b,rfl,hx,T.pcl,T.pb,qbT,?_⟩
  walk_at "v"
  refine ⟨b,wx,_,rfl,hb,qaV (by decide +kernel),?_⟩
  walk_at "v"
  refine ⟨x,dx,_,rfl,hx,jc,?_⟩
  walk_at "v"
  refine ⟨x,b,p,ss,ns,tr,z,rfl,hP,hz,?_⟩
  walk_at "v"
  refine ⟨b,ss,ns,z,rfl,hW,hzs,fun H1 l s1 hl=>?_⟩
  have s12:=qK (Sr H1) (o:=.lst ((inB ss 0 (ns.getD (ss.idxOf z) 0)).map V.str)) hl
  have el:upd H1 l (.lst ((inB ss 0 (ns.getD (ss.idxOf z) 0)).map V.str)) l=some (.lst ((inB ss 0 (ns.getD (ss.idxOf z) 0)).map V.str)):=qb
  have s2:=s1.trans s12
  generalize upd H1 l (.lst ((inB ss 0 (ns.getD (ss.idxOf z) 0)).map V.str))=H2 at s2 el ⊢
  have few:=hw.few
  have hil:(inB ss 0 (ns.getD (ss.idxOf z) 0)).length≤ss.length:=qau _ _ _
  walk_at "v"
  refine ⟨x,b,p,l,ss,ns,tr,_,rfl,hP.same s2,el,by omega,fun r hr0=>?_⟩
  exact q r _ (qK s2 hr0) (s2.free hr0) qb
theorem ok_mvtM (F:Fun K "move_to" "Walk.move_to" qX f fd) (T:Txt K mg cc cw) (D_Play_moves:MethOkM P w K mg base 7 (cc 9) "moves" ["self"] (qeI cc cw)):FnOkM P w K mg base 8 f fd ["self", "thing"] (qbq cc cw):=by
 refine F.okM sc_Walk_move_to (fun vs H Q E h=>?_) (fun cdv A outer s H vs Q E hr hi h=>?_)
 ·obtain ⟨x,b,p,ss,ns,tr,z,v,rfl,_⟩:=h;rfl
 ·obtain ⟨x,b,p,ss,ns,tr,z,v,rfl,hP,l100,hz,hzs,hv,q⟩:=h
  obtain ⟨dx,hx,hp,hW⟩:=id hP
  have hu:=huM hr
  refine ⟨_,(qf (qN (qp (zg (K:=K) rfl hu) (pv 1) (qcr D_Play_moves (hr.dn (by decide)) hi (pv 0)) (by with_unfolding_all rfl)) (qe zZ) qo)
 (qe (qC (qcE (K:=K) rfl PySem.F.plainAttrs_list PySem.F.slot_list_append PySem.F.type_list_append jJ (qQ (K:=K) rfl (pv 0) rfl) (qa (pv 1) qc))))),?_⟩
  walk_at "v"
  refine ⟨x,dx,_,rfl,hx,jc,?_⟩
  walk_at "v"
  refine ⟨x,b,p,ss,ns,tr,z,rfl,hP,hz,hzs,fun r H1 s1 hr0 hr1=>?_⟩
  refine .inl ⟨r,_,rfl,.inl (SqL.of hr1),rfl,jS _,?_⟩
  rw [zO]
  walk_at "v"
  refine qY (fun h=>?_) fun _=>?_
  ·have h:(!decide (v∈mvS ss ns tr z))=true:=h
   rw [decide_eq_true hv] at h
   cases h
  walk_at "v"
  refine .inl ⟨x,cc 9,dx,_,.ref p,rfl,s1 _ _ hx,T.pcl,T.pp,zd,?_⟩
  walk_at "v"
  refine ⟨.inl ⟨rfl,_,SqL.of (s1 _ _ hp)⟩,?_⟩
  walk_at "v"
  refine ⟨p,_,_,rfl,rfl,s1 _ _ hp,by rw [List.length_map];exact qq (by omega),?_⟩
  exact q _ ((But.refl p H).same s1).put (by rw [qb,List.map_append];rfl)
theorem ok_pgoM (F:Fun K "go" "Play.go" zc f fd) (T:Txt K mg cc cw) (D_Walk_move_to:MethOkM P w K mg base 8 (cc 9) "move_to" ["self", "thing"] (qbq cc cw)):FnOkM P w K mg base 9 f fd ["self", "name"] (qbq cc cw):=by
 refine F.okM sc_Play_go (fun vs H Q E h=>?_) (fun cdv A outer s H vs Q E hr hi h=>?_)
 ·obtain ⟨x,b,p,ss,ns,tr,z,v,rfl,_⟩:=h;rfl
 ·obtain ⟨x,b,p,ss,ns,tr,z,v,rfl,hP,l100,hz,hzs,hv,q⟩:=h
  obtain ⟨dx,hx,hp,hW⟩:=id hP
  refine ⟨_,(qe (qC (zx D_Walk_move_to (hr.dn (by decide)) hi (pv 0) (qa (pv 1) qc)))),?_⟩
  walk_at "v"
  refine ⟨x,dx,_,rfl,hx,jc,?_⟩
  walk_at "v"
  exact ⟨x,b,p,ss,ns,tr,z,v,rfl,hP,l100,hz,hzs,hv,q⟩
theorem sc_l_goes_on:FnScope ["_law_play", "_law_names_here", "_law_ties_here", "_law_row_here", "_law_k", "_law_name"] ["_law_play", "_law_names_here", "_law_ties_here", "_law_row_here"] (qd j5):=fS
structure PlayW (cc:Nat→Addr) (cw:Addr) (H:Hp) (x b p:Addr) (ss:List Str) (ns:List Nat) (dps ups:List (Str×Str)) (tr:List Str):Prop where
 play:PlayAt (cc 9) cw H x b p ss ns tr
 duo:Duo ss ns dps ups
 row:RowOk ss ns tr
 ap:∃ H0,L2.Same H0 H∧H0 p=none∧WebAt cw H0 b ss ns
theorem qdG {ss:List Str} {ns:List Nat} {row:List Str} {k:Nat} (hR:RowOk ss ns row) (hk:0 < k):RowOk ss ns (row.take k):=by
 have hp:=List.length_pos_iff.mpr hR.ne
 refine ⟨fun e=>?_,by have:=hR.few;rw [List.length_take];omega,fun s hs=>hR.ins s (List.mem_of_mem_take hs),fun j y u g1 g2=>?_⟩
 ·have h1:=congrArg List.length e
  rw [List.length_take] at h1
  have h1:min k row.length=0:=h1
  omega
 ·rw [List.getElem?_take] at g1 g2
  split at g2
  ·rename_i h2
   rw [if_pos (by omega)] at g1
   have:=hR.mv j y u g1 g2
   rw [List.take_take,show min (j + 1) k=j + 1 by omega]
   exact this
  ·cases g2
def qfz (cc:Nat→Addr) (cw:Addr):Sp:=fun vs H Q _=>∃ (H0:Hp) (x b p n l r:Addr) (ss:List Str) (ns:List Nat) (ts:List Addr) (dps ups:List (Str×Str)) (row:List Str),vs=[.ref x,.ref n,.ref l,.ref r]∧L2.Same H0 H∧H0 p=none∧WebAt cw H0 b ss ns∧H0 n=some (.lst (ss.map V.str))∧PL H0 l ts ups∧H0 r=some (.lst (row.map V.str))∧PlayAt (cc 9) cw H x b p ss ns row∧Duo ss ns dps ups∧RowOk ss ns row∧∀ H',L2.Same H H'→Q (.bl true) H'
theorem qa8 {ss row:List Str} {ns:List Nat} (hw:WOk ss ns) (hR:RowOk ss ns row):(Txt.join " > " row).length≤900:=by
 have:=qc4 (z:=" > ") (xs:=row) (k:=6) (m:=100) (fun s hs=>jg (hw.nm _ (hR.ins s hs))) hR.few
 have h3:(" > ":Str).length=3:=rfl
 omega
theorem ok_go14 (F:Fun K "_law_goes_on" "_law_goes_on" j5 f fd) (T:Txt K mg cc cw) (D_show_play:DefOk P w K mg base CX0 3 "show_play" ["play"] (qc1 cc cw)) (D_l_told:DefOk P w K mg base CX0 3 "_law_told" ["_law_names_here", "_law_ties_here", "_law_row_here"] qeE) (D_Play_twin:MethOk P w K mg base CX0 11 (cc 9) "twin" ["self"] (qhx cc cw)) (DN:MethOk P w K mg base CX0 1 (cc 9) "back" ["self"] (qhw cc cw)) (DX:MethOk P w K mg base (CX1 P w) 4 (cc 9) "back" ["self"] (qgt cc cw)) (DGM:MethOkM P w K mg base 9 (cc 9) "go" ["self", "name"] (qbq cc cw))
  (D_Walk_gone:MethOk P w K mg base CX0 1 (cc 9) "gone" ["self"] (qfQ cc cw)) (D_Play_moves:MethOk P w K mg base CX0 7 (cc 9) "moves" ["self"] (qeI cc cw)) (D_Walk_hand:MethOk P w K mg base CX0 1 (cc 9) "hand" ["self"] (qgr cc cw)):FnOk P w K mg base CX0 12 f fd ["_law_play", "_law_names_here", "_law_ties_here", "_law_row_here"] (qfz cc cw):=by
 refine F.ok sc_l_goes_on (fun vs H Q E h=>?_) fun cdv A outer s H vs Q E hr h=>?_
 ·obtain ⟨H0,x,b,p,n,l,r,ss,ns,ts,dps,ups,row,rfl,_⟩:=h;rfl
 ·obtain ⟨H0,x,b,p,n,l,r,ss,ns,ts,dps,ups,row,rfl,s0,hp0,hW0,hn0,hl0,her0,hP,hD,hR,q⟩:=h
  have hu:=zH hr
  obtain ⟨dx,hx,hp,hW⟩:=id hP
  have nxp:x≠p:=zo hx hp (by intro z;cases z)
  have hw:=hW.ok
  have few:=hw.few
  have h100:=hR.few
  have hnm:∀ s∈row,jT s=true:=fun s hs=>hw.nm _ (hR.ins s hs)
  have hpos:0 < row.length:=List.length_pos_iff.mpr hR.ne
  have D_Walk_back:=DN
  refine ⟨_,(qf (j8 PassesOwn.never rfl (pi_down rfl T.b_range (qa (qm (jW (K:=K) rfl) rfl T.b_len boot_len (qa (pv 3) qc)) (qa qg (qa (qdJ qbs qg) qc)))) (qt (i:=4) sc_l_goes_on.nd rfl (Or.inl rfl))
 (qf (qN (PW.pt (qbp (qp (qas (K:=K) rfl hu) (qr D_show_play (hm hr) qE (qa (pv 0) qc)) (qO (qP (K:=K) rfl hu) (qr D_l_told (hm hr) qE (qa (pv 1) (qa (pv 2) (qa (qz (qaR (K:=K) rfl) (pv 3) qS (qD (pv 4))) qc)))) qg (fun _ _=>rfl)) (qx _)) (qak (qp (qas (K:=K) rfl hu) (qr D_show_play (hm hr) qE (qa (qB D_Play_twin (hm hr) (pv 0)) qc)) (qr D_show_play (hm hr) qE (qa (pv 0) qc)) (qx _))))) (qe (qh zS)) qo)
 (qe (qN (PW.pt (qa9 (qp qdK (pv 4) qg (qx _)) (qan (qp (qas (K:=K) rfl hu) (qB D_Walk_back (hm hr) (pv 0)) (qO (qP (K:=K) rfl hu) (pv 3) (qu qc7 (pv 4) qg) (fun _ _=>rfl)) (qx _))))) (qe (qh zS)) qo))))
 (qf (qdq rfl rfl rfl (qe (qh zS)))
 (qe (qh (jP (zh (K:=K) rfl hu) (qA (qa qg (qa (qB D_Walk_gone (hm hr) (pv 0)) (qa (qB D_Play_moves (hm hr) (pv 0)) (qa (qB D_Walk_hand (hm hr) (pv 0)) (qa (qr D_show_play (hm hr) qE (qa (pv 0) qc)) qc)))))) (qr D_l_told (hm hr) qE (qa (pv 1) (qa (pv 2) (qa (pv 3) qc)))) (qx _)))))),?_⟩
  walk_at "v"
  refine vDown ?_
  walk_at "v"
  refine qaq (s0 _ _ her0) ?_
  rw [List.length_map]
  walk_at "v"
  refine vU ?_
  walk_at "v"
  have inz:∀ s∈row,s.length≤6:=fun s hs=>jg (hnm s hs)
  have sB:∀ {H'},But p H H'→L2.Same H0 H':=fun b=>jA s0 b hp0
  have plB:∀ {H'} {tr:List Str},But p H H'→H' p=some (.lst (tr.map V.str))→PlayAt (cc 9) cw H' x b p ss ns tr:=fun bb e=>⟨dx,bb _ _ nxp hx,e,hW0.same (sB bb)⟩
  refine ⟨row.length,rfl,by omega,for_down (fun i σ H'=>But p H H'∧H' p=some (.lst ((row.take (max 1 (row.length - i))).map V.str))∧∃ x4,σ=[some (.ref x),some (.ref n),some (.ref l),some (.ref r),x4,none]) ⟨But.refl p H,by rw [Nat.sub_zero,show max 1 row.length=row.length by omega,List.take_length];exact hp,none,rfl⟩ (fun i σ J hi hp'=>?_) fun σ J hp'=>?_⟩
  ·obtain ⟨bJ,epJ,x4,rfl⟩:=hp'
   obtain ⟨k,hk⟩:∃ k,row.length - i=k + 1:=⟨row.length - i - 1,by omega⟩
   rw [hk,show max 1 (k + 1)=k + 1 by omega] at epJ
   have hRk:=qdG (k:=k + 1) hR (by omega)
   have ek:(row.length:Int) - (i:Int)=((k + 1:Nat):Int):=by omega
   rw [ek]
   have hPJ:=plB bJ epJ
   have sJ:=sB bJ
   obtain ⟨z,gz⟩:∃ z,row[k]?=some z:=⟨_,List.getElem?_eq_getElem (by omega)⟩
   have hz:=qbn gz
   have hnmk:∀ s∈row.take (k + 1),jT s=true:=fun s hs=>hnm s (List.mem_of_mem_take hs)
   have hjk:=qa8 hw hRk
   walk_at "v"
   refine ⟨x,b,p,ss,ns,row.take (k + 1),rfl,hPJ,hRk.few,hnmk,fun J1 s1=>?_⟩
   walk_at "v"
   refine .inl ⟨r,_,rfl,SqL.of (s1 _ _ (sJ _ _ her0)),fun d hd=>?_⟩
   rw [qbj,← List.map_take]
   have s12:=qK (Sr J1) (o:=.lst ((row.take (k + 1)).map V.str)) hd
   have ed:upd J1 d (.lst ((row.take (k + 1)).map V.str)) d=some (.lst ((row.take (k + 1)).map V.str)):=qb
   have s2:=s1.trans s12
   generalize upd J1 d (.lst ((row.take (k + 1)).map V.str))=J2 at s2 ed ⊢
   have sJ2:=sJ.trans s2
   walk_at "v"
   refine ⟨n,l,d,ss,ts,ups,row.take (k + 1),z,rfl,sJ2 _ _ hn0,few,hl0.same sJ2,ed,hz,by have:=hRk.few;omega,(fun s hs=>by have:=inz s (List.mem_of_mem_take hs);omega),by omega,fun t m J3 s23 ht0 hT=>?_⟩
   walk_at "v"
   refine .inl (zT hT.at_ (qJ (j:=4) rfl) ?_)
   refine .inl ⟨rfl,rfl,?_⟩
   rw [qa6,decide_eq_true rfl]
   walk_at "v"
   refine qY (fun h=>by cases h) fun _=>?_
   have s3:=s2.trans s23
   have hPJ3:=hPJ.same s3
   obtain ⟨dx3,hx3,_⟩:=id hPJ3
   walk_at "v"
   refine ⟨x,dx3,_,rfl,hx3,jc,?_⟩
   walk_at "v"
   refine ⟨x,b,p,ss,ns,row.take (k + 1),rfl,hPJ3,hRk,fun x2 p2 J4 s34 hx20 hp20 hP2=>?_⟩
   walk_at "v"
   refine ⟨x2,b,p2,ss,ns,row.take (k + 1),rfl,hP2,hRk.few,hnmk,fun J5 s45=>?_⟩
   walk_at "v"
   have s5:=s3.trans (s34.trans s45)
   refine ⟨x,b,p,ss,ns,row.take (k + 1),rfl,hPJ.same s5,hRk.few,hnmk,fun J6 s56=>?_⟩
   refine .inl ⟨rfl,rfl,?_⟩
   rw [qa6,decide_eq_true rfl]
   walk_at "v"
   refine qY (fun h=>by cases h) fun _=>?_
   have s6:=s5.trans s56
   have bJ6:=bJ.same s6
   have epJ6:=s6 _ _ epJ
   have hPJ6:=hPJ.same s6
   obtain ⟨dx6,hx6,_⟩:=id hPJ6
   walk_at "v"
   refine qY (fun h1=>?_) fun h1=>qY (fun h=>by first | cases h | contradiction) fun _=>?_
   ·have h1:0 < k:=by have:=of_decide_eq_true h1;omega
    have etk:row.take (k + 1)=row.take k++[z]:=by rw [List.take_add_one,gz];rfl
    rw [etk] at hPJ6
    have hne:row.take k≠[]:=(qdG (k:=k) hR h1).ne
    walk_at "v"
    refine ⟨x,dx6,_,rfl,hx6,jc,?_⟩
    walk_at "v"
    refine ⟨x,b,p,ss,ns,row.take k,z,rfl,hPJ6,hne,by rw [List.length_take];omega,?_⟩
    have b7:=bJ6.put (o:=.lst ((row.take k).map V.str))
    have e7:upd J6 p (.lst ((row.take k).map V.str)) p=some (.lst ((row.take k).map V.str)):=qb
    generalize upd J6 p (.lst ((row.take k).map V.str))=J7 at b7 e7 ⊢
    walk_at "v"
    rw [show (((k + 1:Nat):Int)) - 1=(k:Int) by omega]
    refine .inl (zT (sB b7 _ _ her0) (qJ (j:=k) (by rw [List.getElem?_map,gz];rfl)) ?_)
    refine .inl ⟨rfl,rfl,?_⟩
    rw [qa6,decide_eq_true rfl]
    walk_at "v"
    refine qY (fun h=>by cases h) fun _=>?_
    exact ⟨b7,by rw [show max 1 (row.length - (i + 1))=k by omega];exact e7,_,rfl⟩
   ·have h1:k=0:=Nat.le_zero.mp (Nat.not_lt.mp fun h=>h1 (decide_eq_true (by omega)))
    subst h1
    exact ⟨bJ6,by rw [show max 1 (row.length - (i + 1))=0 + 1 by omega];exact epJ6,_,rfl⟩
  ·obtain ⟨bJ,epJ,x4,rfl⟩:=hp'
   rw [Nat.sub_self,show max 1 0=1 from rfl] at epJ
   obtain ⟨st,rs,erow⟩:∃ st rs,row=st::rs:=by
    cases row with
    | nil=>exact absurd rfl hR.ne
    | cons a rs=>exact ⟨a,rs,rfl⟩
   have e1:row.take 1=[st]:=by rw [erow];rfl
   rw [e1] at epJ
   have hPJ:=plB bJ epJ
   obtain ⟨dxJ,hxJ,_⟩:=id hPJ
   walk_at "v"
   have D_Walk_back:=DX
   refine ⟨fun σ c dxo H'=>c=.ref (cc 6)∧dxo=none∧L2.Same J H'∧σ=[some (.ref x),some (.ref n),some (.ref l),some (.ref r),x4,none],_,fun pn xe qH=>(qe (qC (pe_meth0S D_Walk_back (hm hr) qH (pv 0)))),?_,fun a C dx' σ' H' hE ha'=>?_⟩
   ·walk_at "v"
    refine ⟨x,dxJ,_,rfl,hxJ,jc,?_⟩
    walk_at "v"
    exact ⟨x,b,p,ss,ns,st,rfl,hPJ,fun H' s'=>⟨rfl,rfl,s',rfl⟩⟩
   ·obtain ⟨hc,rfl,s1,rfl⟩:=hE
    cases hc
    have D_Walk_back:=DN
    refine ⟨_,(ph_noM (K:=K) rfl rfl T.m_NoBack (fun o hi=>qe (ps_forM PassesOwn.never hi (qbQ (K:=K) rfl (qz (qaR (K:=K) rfl) (pv 3) (qD qg) qS)) (qt (i:=5) sc_l_goes_on.nd rfl (Or.inl rfl))
     (qe (qC (zx DGM ((hr.mild _).dn (show 9≤11 by decide)) hi (pv 0) (qa (pv 5) qc)))))) qdp),?_⟩
    refine ⟨true,T.mr6,T.xat 6 (by decide),T.xat 6 (by decide),qbH ?_⟩
    have epH0:=s1 _ _ epJ
    have aP:a≠p:=fun z=>by rw [z,epH0] at ha';cases ha'
    have hH':∀ b o,b≠p→H b=some o→H' b=some o:=fun b o n e=>s1 _ _ (bJ b o n e)
    have xa:∀ o,H a=some o→∃ φ,o=.ext φ:=fun o e=>by
     have:=hH' a o aP e
     rw [ha'] at this
     exact ⟨_,(Option.some.inj this).symm⟩
    have xa0:∀ o,H0 a=some o→∃ φ,o=.ext φ:=fun o e=>xa o (s0 _ _ e)
    have s0d:L2.Same (qa1 H0 a) (qa1 H a):=fun b o e=>by
     obtain ⟨n,e⟩:=qcS e
     rw [qaU n]
     exact s0 _ _ e
    have hp0d:qa1 H0 a p=none:=zW hp0
    have hW0d:WebAt cw (qa1 H0 a) b ss ns:=by
     obtain ⟨e1,e2,e3,e4,h1,h2,h3,h4,h5⟩:=hW0
     exact ⟨e1,e2,e3,e4,zj xa0 h1 (fun φ z=>nomatch z),zj xa0 h2 (fun φ z=>nomatch z),zj xa0 h3 (fun φ z=>nomatch z),zj xa0 h4 (fun φ z=>nomatch z),h5⟩
    have hxd:qa1 H a x=_:=zj xa hx (fun φ z=>nomatch z)
    have herd:qa1 H0 a r=_:=zj xa0 her0 (fun φ z=>nomatch z)
    have bH:But p (qa1 H a) (qa1 H' a):=fun b o n e=>by
     obtain ⟨na,e⟩:=qcS e
     rw [qaU na]
     exact hH' b o n e
    have epH:qa1 H' a p=some (.lst ([st].map V.str)):=by rw [qaU (Ne.symm aP)];exact epH0
    have sBd:∀ {H'},But p (qa1 H a) H'→L2.Same (qa1 H0 a) H':=fun b=>jA s0d b hp0d
    have plBd:∀ {H'} {tr:List Str},But p (qa1 H a) H'→H' p=some (.lst (tr.map V.str))→PlayAt (cc 9) cw H' x b p ss ns tr:=fun bb e=>⟨dx,bb _ _ nxp hxd,e,hW0d.same (sBd bb)⟩
    have sH:=sBd bH
    generalize qa1 H' a=HD at bH epH sH ⊢
    have ec:qaP (row.map V.str) (some 1) none=rs.map V.str:=by
     have:=za (row.map V.str) 1
     rw [← List.map_drop,erow] at this
     rw [erow]
     exact this
    walk_at "v"
    refine .inl ⟨r,_,rfl,SqL.of (sH _ _ herd),fun d hd=>?_⟩
    rw [ec]
    have ndp:d≠p:=fun e=>by rw [e,epH] at hd;cases hd
    have s2:=qK (Sr HD) (o:=.lst (rs.map V.str)) hd
    have ed:upd HD d (.lst (rs.map V.str)) d=some (.lst (rs.map V.str)):=qb
    replace bH:=bH.same s2
    replace epH:=s2 _ _ epH
    generalize upd HD d (.lst (rs.map V.str))=H2 at bH epH ed ⊢
    walk_at "v"
    refine .inl ⟨⟨_,SqL.of ed⟩,jO (K:=K) (fun i σ J'=>But p (qa1 H a) J'∧J' d=some (.lst (rs.map V.str))∧J' p=some (.lst ((row.take (i + 1)).map V.str))∧∃ x5,σ=[some (.ref x),some (.ref n),some (.ref l),some (.ref r),x4,x5]) ⟨bH,ed,by rw [Nat.zero_add,e1];exact epH,none,rfl⟩ (fun i σ J' _ hp=>SqL.of hp.2.1) (fun i y σ J' hy hp'=>?_) fun σ J' hp'=>?_⟩
    ·obtain ⟨bJ',edJ',epJ',x5,rfl⟩:=hp'
     obtain ⟨v,gv,rfl⟩:=ji hy
     have hi:i < rs.length:=(List.getElem?_eq_some_iff.mp gv).1
     have gv':row[i + 1]?=some v:=by rw [erow,List.getElem?_cons_succ];exact gv
     obtain ⟨z,gz⟩:∃ z,row[i]?=some z:=⟨_,List.getElem?_eq_getElem (by rw [erow,List.length_cons];omega)⟩
     have hPJ':=plBd bJ' epJ'
     obtain ⟨dx',hx',_⟩:=id hPJ'
     walk_at "v"
     refine ⟨x,dx',_,rfl,hx',jc,?_⟩
     walk_at "v"
     refine ⟨x,b,p,ss,ns,_,z,v,rfl,hPJ',by rw [List.length_take];omega,qbn gz,hR.ins _ (List.mem_of_getElem? gz),hR.mv i z v gz gv',fun H6 b6 e6=>?_⟩
     refine ⟨fun c o n e=>b6 c o n (bJ' c o n e),b6 _ _ ndp edJ',?_,_,rfl⟩
     rw [e6,List.take_add_one (i:=i + 1),gv']
     rfl
    ·obtain ⟨bJ',edJ',epJ',x5,rfl⟩:=hp'
     rw [List.length_map,show row.take (rs.length + 1)=row from List.take_of_length_le (by rw [erow,List.length_cons];exact Nat.le_refl _)] at epJ'
     intro hJa
     have bL:But p H (upd J' a (XO a (cc 6) none)):=fun b o n e=>by
      by_cases hb:b=a
      ·subst hb
       have:=hH' b o n e
       rw [ha'] at this
       cases this
       exact qb
      ·rw [qk hb]
       exact bJ' b o n (by rw [qaU hb];exact e)
     have epL:upd J' a (XO a (cc 6) none) p=some (.lst (row.map V.str)):=by rw [qk (Ne.symm aP)];exact epJ'
     clear hJa edJ' bJ' epJ'
     generalize upd J' a (XO a (cc 6) none)=J' at bL epL ⊢
     have bJ':=bL
     have epJ':=epL
     have hPJ':=plB bJ' epJ'
     have sHJ:L2.Same H J':=fun c o e=>by
      by_cases ec:c=p
      ·rw [ec] at e ⊢;rw [epJ',← e,hp]
      ·exact bJ' c o ec e
     obtain ⟨z,hz⟩:∃ z,row.getLast?=some z:=⟨_,List.getLast?_eq_some_getLast hR.ne⟩
     have hzs:=hR.ins z (List.mem_of_getLast? hz)
     have emv:mvS ss ns row z=mvL ups ss row z:=qdT hw hD.wg.adj hD.ti hzs
     obtain ⟨dx',hx',_⟩:=id hPJ'
     walk_at "v"
     refine ⟨x,dx',_,rfl,hx',jc,?_⟩
     walk_at "v"
     refine ⟨x,b,p,ss,ns,row,rfl,hPJ',fun g hg=>?_⟩
     have u1:=qK (Sr J') (o:=.lst (row.map V.str)) hg
     have eg:upd J' g (.lst (row.map V.str)) g=some (.lst (row.map V.str)):=qb
     generalize upd J' g (.lst (row.map V.str))=L1 at u1 eg ⊢
     walk_at "v"
     refine ⟨x,dx',_,rfl,u1 _ _ hx',jc,?_⟩
     walk_at "v"
     refine ⟨x,b,p,ss,ns,row,z,rfl,hPJ'.same u1,hz,hzs,fun m L2' u2 hm0 hm=>?_⟩
     rw [emv] at hm
     have u12:=u1.trans u2
     walk_at "v"
     refine ⟨x,dx',_,rfl,u12 _ _ hx',jc,?_⟩
     walk_at "v"
     refine ⟨x,b,p,ss,ns,row,rfl,hPJ'.same u12,?_⟩
     walk_at "v"
     refine ⟨x,b,p,ss,ns,row,rfl,hPJ'.same u12,hR.few,hnm,fun L3 u3=>?_⟩
     walk_at "v"
     refine ⟨by show 5≤sizeLine;decide,fun t ht=>?_⟩
     have u4:=qK (Sr L3) (o:=.lst [.int 2,.ref g,.ref m,.int (((row.length:Int) - 1) % 2),.str (Txt.join " > " row)]) ht
     have hT:Tlr (upd L3 t (.lst [.int 2,.ref g,.ref m,.int (((row.length:Int) - 1) % 2),.str (Txt.join " > " row)])) t g m row (mvL ups ss row z):=⟨qb,u4 _ _ (u3 _ _ (u2 _ _ eg)),u4 _ _ (u3 _ _ hm)⟩
     have u14:=u12.trans (u3.trans u4)
     generalize upd L3 t (.lst [.int 2,.ref g,.ref m,.int (((row.length:Int) - 1) % 2),.str (Txt.join " > " row)])=L4 at hT u14 ⊢
     have sL4:=(sB bJ').trans u14
     have hjr:=qa8 hw hR
     walk_at "v"
     refine ⟨n,l,r,ss,ts,ups,row,z,rfl,sL4 _ _ hn0,few,hl0.same sL4,sL4 _ _ her0,hz,by omega,(fun s hs=>by have:=inz s hs;omega),by omega,fun t2 m2 L5 u5 ht20 hT2=>?_⟩
     refine .inl (.inl (.inr (.inl ⟨t,t2,true,2,rfl,rfl,by decide,(hT.same u5).eqT hT2,?_⟩)))
     exact q _ (sHJ.trans (u14.trans u5))
theorem sc_l_both_go_on:FnScope ["_law_web", "_law_names_here", "_law_ties_here", "_law_row_here", "_law_handed", "_law_made_here", "_law_other", "_law_moves_here", "_law_name"] ["_law_web", "_law_names_here", "_law_ties_here", "_law_row_here"] (qd jp):=fS
def qfA (cw:Addr):Sp:=fun vs H Q _=>∃ (b n l r:Addr) (ss:List Str) (ns:List Nat) (ts:List Addr) (dps ups:List (Str×Str)) (row:List Str),vs=[.ref b,.ref n,.ref l,.ref r]∧WebAt cw H b ss ns∧H n=some (.lst (ss.map V.str))∧PL H l ts ups∧H r=some (.lst (row.map V.str))∧Duo ss ns dps ups∧RowOk ss ns row∧fbN ups ss row=none∧∀ H',L2.Same H H'→Q (.bl true) H'
theorem name_gt {s:Str} (h:jT s=true):s.cps.toList≠[]∧32∉s.cps.toList∧62∉s.cps.toList:=by
 unfold jT at h
 split at h
 ·rename_i hl
  refine ⟨fun e=>?_,fun m=>?_,fun m=>?_⟩
  ·have:=hl.1
   have e2:s.length=0:=by unfold Str.length;rw [← Array.length_toList,e];rfl
   omega
  ·have:=List.all_eq_true.mp h _ m;revert this;decide
  ·have:=List.all_eq_true.mp h _ m;revert this;decide
 ·cases h
theorem split_row {ss row:List Str} {ns:List Nat} (hw:WOk ss ns) (hR:RowOk ss ns row):wdS (Txt.join " > " row)=row:=split_gt hR.ne fun l hl=>name_gt (hw.nm _ (hR.ins l hl))
theorem ok_bg14 (F:Fun K "_law_both_go_on" "_law_both_go_on" jp f fd) (T:Txt K mg cc cw) (D_played:DefOk P w K mg base CX0 10 "played" ["web", "names"] (qfR cc cw)) (D_read_play:DefOk P w K mg base CX0 11 "read_play" ["web", "text"] (fun vs H Q _=>qfS cc cw vs H Q E0)) (D_l_goes_on:DefOk P w K mg base CX0 12 "_law_goes_on" ["_law_play", "_law_names_here", "_law_ties_here", "_law_row_here"] (qfz cc cw))
  (D_l_moves:DefOk P w K mg base CX0 2 "_law_moves" ["_law_names_here", "_law_ties_here", "_law_trail"] qgs) (D_Walk_gone:MethOk P w K mg base CX0 1 (cc 9) "gone" ["self"] (qfQ cc cw)) (D_Play_go:MethOk P w K mg base CX0 9 (cc 9) "go" ["self", "name"] (qbq cc cw)):FnOk P w K mg base CX0 13 f fd ["_law_web", "_law_names_here", "_law_ties_here", "_law_row_here"] (qfA cw):=by
 refine F.ok sc_l_both_go_on (fun vs H Q E h=>?_) fun cdv A outer s H vs Q E hr h=>?_
 ·obtain ⟨b,n,l,r,ss,ns,ts,dps,ups,row,rfl,_⟩:=h;rfl
 ·obtain ⟨b,n,l,r,ss,ns,ts,dps,ups,row,rfl,hW,hn,hl,her,hD,hR,hfb,q⟩:=h
  have hu:=zH hr
  have hw:=hW.ok
  have few:=hw.few
  have h100:=hR.few
  refine ⟨_,(qf (qw (i:=4) sc_l_both_go_on.nd rfl (Or.inl rfl) (zF (qbN (K:=K) rfl rfl) rfl T.b_list boot_list (qa (pv 3) qc)))
 (qf (qw (i:=5) sc_l_both_go_on.nd rfl (Or.inl rfl) (qr D_played (hm hr) qE (qa (pv 0) (qa (pv 4) qc))))
 (qf (qC (qfL (K:=K) rfl PySem.F.plainAttrs_list PySem.F.slot_list_reverse PySem.F.type_list_reverse mtR_reverse (pv 4)))
 (qf (qC (qcE (K:=K) rfl PySem.F.plainAttrs_list PySem.F.slot_list_append PySem.F.type_list_append jJ (pv 4) (qa qV qc)))
 (qf (qw (i:=6) sc_l_both_go_on.nd rfl (Or.inl rfl) (qr D_read_play (hm hr) qE (qa (pv 0) (qa (qcE (K:=K) rfl PySem.F.plainAttrs_str PySem.F.slot_str_join PySem.F.type_str_join (qeg (K:=K) rfl) qV (qa (pv 3) qc)) qc))))
 (qf (qN (PW.pt (qbp (qp (qas (K:=K) rfl hu) (qB D_Walk_gone (hm hr) (pv 5)) (pv 3) (qx _)) (qak (jC (jj (qr D_l_goes_on (hm hr) qE (qa (pv 5) (qa (pv 1) (qa (pv 2) (qa (pv 3) qc)))))))))) (qe (qh zS)) qo)
 (qf (qw (i:=7) sc_l_both_go_on.nd rfl (Or.inl rfl) (qr D_l_moves (hm hr) qE (qa (pv 1) (qa (pv 2) (qa (pv 3) qc)))))
 (qf (j8 PassesOwn.never rfl (j9 (K:=K) rfl (qz (qaR (K:=K) rfl) (pv 7) qS (qD qg))) (qt (i:=8) sc_l_both_go_on.nd rfl (Or.inl rfl))
 (qe (qC (j6 D_Play_go (hm hr) (pv 5) (qa (pv 8) qc)))))
 (qf (qN (PW.pt (qbp (qp (qas (K:=K) rfl hu) (qB D_Walk_gone (hm hr) (pv 5)) (qu (jk (K:=K) rfl) (pv 3) (qz (qaR (K:=K) rfl) (pv 7) qS (qD qg))) (qx _)) (qak (qp (qas (K:=K) rfl hu) (pv 4) (qu (jk (K:=K) rfl) (qfh (K:=K) rfl (pv 3) (qD (qdJ qbs qg))) (qA (qa qV qc))) (qx _))))) (qe (qh zS)) qo)
 (qe (qh (qr D_l_goes_on (hm hr) qE (qa (pv 6) (qa (pv 1) (qa (pv 2) (qa (pv 3) qc)))))))))))))))),?_⟩
  walk_at "v"
  refine .inl ⟨r,_,rfl,.inl (SqL.of her),fun hd hhd=>?_⟩
  have s1:=qK (Sr H) (o:=.lst (row.map V.str)) hhd
  have eh:upd H hd (.lst (row.map V.str)) hd=some (.lst (row.map V.str)):=qb
  have hh0:=hhd
  generalize upd H hd (.lst (row.map V.str))=H1 at s1 eh ⊢
  walk_at "v"
  refine ⟨b,hd,ss,ns,row,rfl,hW.same s1,eh,hR,fun x p H2 s2 hx0 hp0 hP=>?_⟩
  have eh2:=s2 _ _ eh
  walk_at "v"
  refine ⟨.inl ⟨rfl,_,SqL.of eh2⟩,?_⟩
  walk_at "v"
  refine ⟨hd,_,rfl,rfl,eh2,?_⟩
  rw [← List.map_reverse]
  have b3:=(But.refl hd H2).put (o:=.lst (row.reverse.map V.str))
  have e3:upd H2 hd (.lst (row.reverse.map V.str)) hd=some (.lst (row.reverse.map V.str)):=qb
  generalize upd H2 hd (.lst (row.reverse.map V.str))=H3 at b3 e3 ⊢
  walk_at "v"
  refine ⟨.inl ⟨rfl,_,SqL.of e3⟩,?_⟩
  walk_at "v"
  refine ⟨hd,_,_,rfl,rfl,e3,by rw [List.length_map,List.length_reverse];exact qq (by omega),?_⟩
  have ez:row.reverse.map V.str++[V.str "zz"]=(row.reverse++[("zz":Str)]).map V.str:=by rw [List.map_append];rfl
  rw [ez]
  have b4:=b3.put (o:=.lst ((row.reverse++[("zz":Str)]).map V.str))
  have e4:upd H3 hd (.lst ((row.reverse++[("zz":Str)]).map V.str)) hd=some (.lst ((row.reverse++[("zz":Str)]).map V.str)):=qb
  generalize upd H3 hd (.lst ((row.reverse++[("zz":Str)]).map V.str))=H4 at b4 e4 ⊢
  have s14:L2.Same H H4:=jA (s1.trans s2) b4 hh0
  have xhd:x≠hd:=fun e=>by rw [e,eh] at hx0;cases hx0
  have phd:p≠hd:=fun e=>by rw [e,eh] at hp0;cases hp0
  have hP4:PlayAt (cc 9) cw H4 x b p ss ns row:=by
   obtain ⟨dx,hx,hp,_⟩:=hP
   exact ⟨dx,b4 _ _ xhd hx,b4 _ _ phd hp,hW.same s14⟩
  have hjr:=qa8 hw hR
  have esp:=split_row hw hR
  walk_at "v"
  refine ⟨rfl,?_⟩
  walk_at "v"
  refine ⟨_,r,row,rfl,rfl,SqL.of (s14 _ _ her),?_,?_⟩
  ·have:=qc0 (fun s hs=>hw.nm _ (hR.ins s hs)) (xs:=row)
   have e3:(" > ":Str).length=3:=rfl
   rw [e3]
   omega
  walk_at "v"
  refine ⟨b,0,0,ss,ns,dps,ups,_,rfl,hW.same s14,hD,Th.flat rfl (fun z e=>by cases e;omega),(fun h=>absurd rfl (h _)),fun z ez=>?_⟩
  cases ez
  rw [esp]
  refine ⟨by omega,(fun k hk=>by rw [hfb] at hk;cases hk),fun _ x2 p2 H5 s5 hx20 hp20 hP2=>?_⟩
  have s15:=s14.trans s5
  have hP5:=hP4.same s5
  obtain ⟨dx5,hx5,_⟩:=id hP5
  walk_at "v"
  refine ⟨x,dx5,_,rfl,hx5,jc,?_⟩
  walk_at "v"
  refine ⟨x,b,p,ss,ns,row,rfl,hP5,fun g hg=>?_⟩
  have u1:=qK (Sr H5) (o:=.lst (row.map V.str)) hg
  have eg:upd H5 g (.lst (row.map V.str)) g=some (.lst (row.map V.str)):=qb
  generalize upd H5 g (.lst (row.map V.str))=H6 at u1 eg ⊢
  have s16:=s15.trans u1
  walk_at "v"
  refine .inr (.inl ⟨g,r,true,1,rfl,rfl,by decide,qbm eg (s16 _ _ her),?_⟩)
  walk_at "v"
  refine qY (fun h=>by cases h) fun _=>?_
  walk_at "v"
  refine ⟨H,x,b,p,n,l,r,ss,ns,ts,dps,ups,row,rfl,s16,s1.free hp0,hW,hn,hl,her,hP5.same u1,hD,hR,fun H7 s67=>?_⟩
  walk_at "v"
  refine qY (fun h=>by cases h) fun _=>?_
  have s17:=s16.trans s67
  obtain ⟨z,hz⟩:∃ z,row.getLast?=some z:=⟨_,List.getLast?_eq_some_getLast hR.ne⟩
  have hzs:=hR.ins z (List.mem_of_getLast? hz)
  have emv:mvS ss ns row z=mvL ups ss row z:=qdT hw hD.wg.adj hD.ti hzs
  walk_at "v"
  refine ⟨n,l,r,ss,ts,ups,row,z,rfl,s17 _ _ hn,few,hl.same s17,s17 _ _ her,hz,fun m H8 s78 hm0 hm=>?_⟩
  have s18:=s17.trans s78
  walk_at "v"
  refine .inl ⟨m,_,rfl,SqL.of hm,fun d hd0=>?_⟩
  generalize hmv:mvL ups ss row z=mv at hm emv
  have hct:qaP (mv.map V.str) none (some 1)=(mv.take 1).map V.str:=by
   have:=qbj (mv.map V.str) 1
   rw [← List.map_take] at this
   exact this
  rw [hct]
  have u9:=qK (Sr H8) (o:=.lst ((mv.take 1).map V.str)) hd0
  have ed:upd H8 d (.lst ((mv.take 1).map V.str)) d=some (.lst ((mv.take 1).map V.str)):=qb
  have s19:=s18.trans u9
  have hP9:=((hP5.same u1).same s67).same (s78.trans u9)
  have hm9:=u9 _ _ hm
  have s59:L2.Same H5 _:=u1.trans (s67.trans (s78.trans u9))
  have npd:d≠p:=fun e=>by
   obtain ⟨_,_,hp,_⟩:=((hP5.same u1).same s67).same s78
   rw [e,hp] at hd0;cases hd0
  have npm:m≠p:=fun e=>by
   obtain ⟨_,_,hp,_⟩:=(hP5.same u1).same s67
   rw [e,hp] at hm0;cases hm0
  generalize upd H8 d (.lst ((mv.take 1).map V.str))=H9 at ed s19 hP9 hm9 s59 ⊢
  obtain ⟨dx,hx9,hp9,hW9⟩:=id hP9
  have hpH:H p=none:=s1.free hp0
  have nxp:x≠p:=zo hx9 hp9 (by intro z;cases z)
  have sB:∀ {H'},But p H9 H'→L2.Same H H':=fun b=>jA s19 b hpH
  have plB:∀ {H'} {tr:List Str},But p H9 H'→H' p=some (.lst (tr.map V.str))→PlayAt (cc 9) cw H' x b p ss ns tr:=fun bb e=>⟨dx,bb _ _ nxp hx9,e,hW.same (sB bb)⟩
  refine .inl ⟨⟨_,SqL.of ed⟩,jO (K:=K) (fun i σ J=>But p H9 J∧J d=some (.lst ((mv.take 1).map V.str))∧J p=some (.lst ((row++(mv.take 1).take i).map V.str))∧∃ x8,σ=[some (.ref b),some (.ref n),some (.ref l),some (.ref r),some (.ref hd),some (.ref x),some (.ref x2),some (.ref m),x8]) ⟨But.refl p H9,ed,by rw [List.take_zero,List.append_nil];exact hp9,none,rfl⟩ (fun i σ J _ hp=>SqL.of hp.2.1) (fun i y σ J hy hp'=>?_) fun σ J hp'=>?_⟩
  ·obtain ⟨bJ,edJ,epJ,x8,rfl⟩:=hp'
   obtain ⟨v,gv,rfl⟩:=ji hy
   have hi:i=0:=by
    have:=(List.getElem?_eq_some_iff.mp gv).1
    rw [List.length_take] at this
    omega
   subst hi
   rw [List.take_zero,List.append_nil] at epJ
   have hvm:v∈mv:=List.mem_of_mem_take (List.mem_of_getElem? gv)
   have hPJ:=plB bJ epJ
   obtain ⟨dxJ,hxJ,_⟩:=id hPJ
   walk_at "v"
   refine ⟨x,dxJ,_,rfl,hxJ,jc,?_⟩
   walk_at "v"
   refine ⟨x,b,p,ss,ns,row,z,v,rfl,hPJ,h100,hz,hzs,by rw [emv];exact hvm,fun H' b' e'=>?_⟩
   refine ⟨fun c o n e=>b' c o n (bJ c o n e),b' _ _ npd edJ,?_,_,rfl⟩
   rw [e',List.take_add_one,List.take_zero,gv]
   rfl
  ·obtain ⟨bJ,edJ,epJ,x8,rfl⟩:=hp'
   rw [List.length_map,List.take_length] at epJ
   have hPJ:=plB bJ epJ
   have sJ:=sB bJ
   obtain ⟨dxJ,hxJ,_⟩:=id hPJ
   have ehJ:J hd=some (.lst ((row.reverse++[("zz":Str)]).map V.str)):=bJ _ _ (Ne.symm phd) (s59 _ _ (s5 _ _ e4))
   have hmJ:=bJ _ _ npm hm9
   walk_at "v"
   refine ⟨x,dxJ,_,rfl,hxJ,jc,?_⟩
   walk_at "v"
   refine ⟨x,b,p,ss,ns,_,rfl,hPJ,fun g2 hg2=>?_⟩
   have v1:=qK (Sr J) (o:=.lst ((row++mv.take 1).map V.str)) hg2
   have eg2:upd J g2 (.lst ((row++mv.take 1).map V.str)) g2=some (.lst ((row++mv.take 1).map V.str)):=qb
   generalize upd J g2 (.lst ((row++mv.take 1).map V.str))=J1 at v1 eg2 ⊢
   walk_at "v"
   refine .inl ⟨m,_,rfl,SqL.of (v1 _ _ hmJ),fun d2 hd2=>?_⟩
   rw [hct]
   have v2:=qK (Sr J1) (o:=.lst ((mv.take 1).map V.str)) hd2
   have ed2:upd J1 d2 (.lst ((mv.take 1).map V.str)) d2=some (.lst ((mv.take 1).map V.str)):=qb
   generalize upd J1 d2 (.lst ((mv.take 1).map V.str))=J2 at v2 ed2 ⊢
   have v12:=v1.trans v2
   have l1:(mv.take 1).length≤1:=by rw [List.length_take];omega
   refine .inl ⟨r,d2,_,_,rfl,rfl,v12 _ _ (sJ _ _ her),ed2,Nat.le_trans (show _≤1000 by rw [List.length_map,List.length_map];omega) (by decide),fun d3 hd3=>?_⟩
   rw [← List.map_append]
   have v3:=qK (Sr J2) (o:=.lst ((row++mv.take 1).map V.str)) hd3
   have ed3:upd J2 d3 (.lst ((row++mv.take 1).map V.str)) d3=some (.lst ((row++mv.take 1).map V.str)):=qb
   generalize upd J2 d3 (.lst ((row++mv.take 1).map V.str))=J3 at v3 ed3 ⊢
   have v13:=v12.trans v3
   refine .inr (.inl ⟨g2,d3,true,1,rfl,rfl,by decide,qbm ((v2.trans v3) _ _ eg2) ed3,?_⟩)
   walk_at "v"
   refine qY (fun h=>by cases h) fun _=>?_
   walk_at "v"
   refine qhn ?_
   walk_at "v"
   refine vU ?_
   refine ⟨_,rfl,rfl,r,_,rfl,SqL.of (v13 _ _ (sJ _ _ her)),fun d4 hd4=>?_⟩
   rw [← List.map_reverse]
   have v4:=qK (Sr J3) (o:=.lst (row.reverse.map V.str)) hd4
   have ed4:upd J3 d4 (.lst (row.reverse.map V.str)) d4=some (.lst (row.reverse.map V.str)):=qb
   generalize upd J3 d4 (.lst (row.reverse.map V.str))=J4 at v4 ed4 ⊢
   walk_at "v"
   refine ⟨by show 1≤sizeLine;decide,fun d5 hd5=>?_⟩
   have v5:=qK (Sr J4) (o:=.lst [.str "zz"]) hd5
   have ed5:upd J4 d5 (.lst [.str "zz"]) d5=some (.lst ([("zz":Str)].map V.str)):=qb
   generalize upd J4 d5 (.lst [.str "zz"])=J5 at v5 ed5 ⊢
   refine .inl ⟨d4,d5,_,_,rfl,rfl,v5 _ _ ed4,ed5,Nat.le_trans (show _≤1000 by rw [List.length_map,List.length_map,List.length_reverse];show _ + 1≤_;omega) (by decide),fun d6 hd6=>?_⟩
   rw [← List.map_append]
   have v6:=qK (Sr J5) (o:=.lst ((row.reverse++[("zz":Str)]).map V.str)) hd6
   have ed6:upd J5 d6 (.lst ((row.reverse++[("zz":Str)]).map V.str)) d6=some (.lst ((row.reverse++[("zz":Str)]).map V.str)):=qb
   generalize upd J5 d6 (.lst ((row.reverse++[("zz":Str)]).map V.str))=J6 at v6 ed6 ⊢
   have v16:=v13.trans (v4.trans (v5.trans v6))
   refine .inr (.inl ⟨hd,d6,true,1,rfl,rfl,by decide,qbm (v16 _ _ ehJ) ed6,?_⟩)
   walk_at "v"
   refine qY (fun h=>by cases h) fun _=>?_
   walk_at "v"
   have sL:=sJ.trans v16
   have hP2':PlayAt (cc 9) cw J6 x2 b p2 ss ns row:=by
    obtain ⟨dx2,hx2,hp2,_⟩:=hP2
    obtain ⟨_,_,hp4,_⟩:=hP4
    have n1:x2≠p:=fun e=>by rw [e,hp4] at hx20;cases hx20
    have n2:p2≠p:=fun e=>by rw [e,hp4] at hp20;cases hp20
    exact ⟨dx2,v16 _ _ (bJ _ _ n1 (s59 _ _ hx2)),v16 _ _ (bJ _ _ n2 (s59 _ _ hp2)),hW.same sL⟩
   exact ⟨H,x2,b,p2,n,l,r,ss,ns,ts,dps,ups,row,rfl,sL,s14.free hp20,hW,hn,hl,her,hP2',hD,hR,fun H7 s7=>q H7 (sL.trans s7)⟩
theorem sc_l_right:FnScope ["_law_web", "_law_names_here", "_law_ties_here", "_law_row_here", "_law_at", "_law_due", "_law_handed", "_law_text", "_law_words", "_law_bad"] ["_law_web", "_law_names_here", "_law_ties_here", "_law_row_here"] (qd zJ):=fS
def DueAt (H:Hp) (d:Addr) (ups:List (Str×Str)) (ss row:List Str):Prop:=
 (row=[]∧∃ e,H d=some (.lst [.int 0,.ref e])∧H e=some (.lst [])) ∨
 (row≠[]∧∃ k u,fbN ups ss row=some k∧row[k]?=some u∧H d=some (.lst [.int (if 0 < k then 1 else 0),.str u])) ∨
 (row≠[]∧fbN ups ss row=none∧∃ g m z,row.getLast?=some z∧Tlr H d g m row (mvL ups ss row z))
theorem DueAt.same {H H':Hp} {d:Addr} {ups:List (Str×Str)} {ss row:List Str} (h:DueAt H d ups ss row) (s:L2.Same H H'):DueAt H' d ups ss row:=by
 rcases h with ⟨h,e,h1,h2⟩ | ⟨h,k,u,h1,h2,h3⟩ | ⟨h,h1,g,m,z,h2,h3⟩
 ·exact .inl ⟨h,e,s _ _ h1,s _ _ h2⟩
 ·exact .inr (.inl ⟨h,k,u,h1,h2,s _ _ h3⟩)
 ·exact .inr (.inr ⟨h,h1,g,m,z,h2,h3.same s⟩)
theorem fb_lt {ups:List (Str×Str)} {ss row:List Str} {k:Nat} (h:fbN ups ss row=some k):k < row.length:=by
 unfold fbN at h
 exact List.mem_range.mp (List.mem_of_find?_eq_some h)
theorem qdH:∀ {xs:List Str} {k:Nat},(∀ s∈xs,s.length≤k)→(xs.map (·.length)).sum≤k * xs.length
 | [],_,_=>Nat.zero_le _
 | s::r,k,h=>by
  have h1:=h s List.mem_cons_self
  have h2:=qdH (xs:=r) (k:=k) fun t ht=>h t (List.mem_cons_of_mem _ ht)
  rw [List.map_cons,List.sum_cons,List.length_cons,Nat.mul_add]
  omega
def qfB (cw:Addr):Sp:=fun vs H Q _=>∃ (b n l r:Addr) (ss:List Str) (ns:List Nat) (ts:List Addr) (dps ups:List (Str×Str)) (row:List Str),vs=[.ref b,.ref n,.ref l,.ref r]∧WebAt cw H b ss ns∧H n=some (.lst (ss.map V.str))∧PL H l ts ups∧Duo ss ns dps ups∧Wds H r row 60∧∀ H',L2.Same H H'→Q (.bl true) H'
theorem zK {K:W.Frag} {H:Hp} {a b:Addr} {i:Int} {v:V} (ha:H a=some (.lst [.int i,v])) (hb:H b=some (.lst [.int i,v])) (hv:zB v=true):EqT K H 1 a b true:=by
 have e:=EqT.lst (K:=K) (H:=H) (n:=0) (e:=fun _=>true) (SqL.of ha) (SqL.of hb) rfl fun j x y h1 h2=>by
  match j,h1,h2 with
  | 0,h1,h2=>cases h1;cases h2;exact jd rfl
  | 1,h1,h2=>cases h1;cases h2;exact jd hv
  | j + 2,h1,h2=>cases h1
 rw [qad] at e
 exact e
theorem eqD_nn {K:W.Frag} {H:Hp} {a e:Addr} (ha:H a=some (.lst [])) (he:H e=some (.lst [])):EqD K H 1 (.ref a) (.ref e) true:=qcZ (qbm (ss:=[]) ha he)
theorem due_hd {H:Hp} {d:Addr} {ups:List (Str×Str)} {ss row:List Str} (h:DueAt H d ups ss row):∃ (i:Int) (xs:List V),H d=some (.lst (.int i::xs))∧(i=2→row≠[]∧fbN ups ss row=none):=by
 rcases h with ⟨h,e,h1,h2⟩ | ⟨h,k,u,h1,h2,h3⟩ | ⟨h,h1,g,m,z,h2,h3⟩
 ·exact ⟨_,_,h1,fun e=>by cases e⟩
 ·refine ⟨_,_,h3,fun e=>?_⟩
  split at e<;>cases e
 ·exact ⟨_,_,h3.at_,fun _=>⟨h,h1⟩⟩
theorem qdI {K:W.Frag} {cw b hd d:Addr} {H:Hp} {ss row:List Str} {ns:List Nat} {dps ups:List (Str×Str)} {Q:VK} {E:XK} (hW:WebAt cw H b ss ns) (hD:Duo ss ns dps ups) (hs:SeqH H hd (row.map V.str)) (h60:row.length≤60) (h100:∀ s∈row,s.length≤100) (hne:row=[]→H hd=some (.lst [])) (hdu:DueAt H d ups ss row)
  (q:∀ (t:Addr) (n:Nat) (H':Hp),L2.Same H H'→n≤60→EqT K H' n t d true→Q (.ref t) H'):qdV [.ref b,.ref hd] H Q E∨qdW cw [.ref b,.ref hd] H Q E:=by
 have big:∀ s∈row,s.length≤1000:=fun s hs=>Nat.le_trans (h100 s hs) (by decide)
 rcases hdu with ⟨h,e,h1,h2⟩ | ⟨h,k,u,h1,h2,h3⟩ | ⟨h,h1,g,m,z,h2,h3⟩
 ·refine .inl ⟨b,hd + 1,.ref hd,some [],rfl,.lst (hne h) (Nat.ne_of_lt (Nat.lt_succ_self _)) (fun x hx=>by cases hx) (Nat.zero_le _),rfl,fun t H' s' ht0 ht=>?_⟩
  refine q t 2 H' s' (by decide) ?_
  have z:=EqT.lst (K:=K) (H:=H') (n:=1) (e:=fun _=>true) (SqL.of ht) (SqL.of (s' _ _ h1)) rfl fun j x y g1 g2=>by
   match j,g1,g2 with
   | 0,g1,g2=>cases g1;cases g2;exact jd rfl
   | 1,g1,g2=>cases g1;cases g2;exact eqD_nn (s' _ _ (hne h)) (s' _ _ h2)
   | j + 2,g1,g2=>cases g1
  rw [qad] at z
  exact z
 ·refine .inr ⟨b,hd,ss,ns,dps,ups,row,rfl,hW,hD,hs,h,h60,big,fun v f0 g0 t H' s' ht0 ht=>?_,fun k' v f0 g0 t H' s' ht0 ht=>?_,fun f0=>by rw [h1] at f0;cases f0⟩
  ·rw [h1] at f0
   cases f0
   rw [h2] at g0
   cases g0
   exact q t 1 H' s' (by decide) (zK ht (s' _ _ h3) rfl)
  ·rw [h1] at f0
   cases f0
   rw [h2] at g0
   cases g0
   exact q t 1 H' s' (by decide) (zK ht (s' _ _ h3) rfl)
 ·refine .inr ⟨b,hd,ss,ns,dps,ups,row,rfl,hW,hD,hs,h,h60,big,(fun v f0=>by rw [h1] at f0;cases f0),(fun k' v f0=>by rw [h1] at f0;cases f0),fun _ t g' m' z' H' s' ht0 hz hT=>?_⟩
  rw [h2] at hz
  cases hz
  exact q t 2 H' s' (by decide) (hT.eqT (h3.same s'))
theorem ok_rt14 (F:Fun K "_law_right" "_law_right" zJ f fd) (T:Txt K mg cc cw) (D_l_first_bad:DefOk P w K mg base CX0 3 "_law_first_bad" ["_law_names_here", "_law_ties_here", "_law_row_here"] qhy) (D_l_told:DefOk P w K mg base CX0 3 "_law_told" ["_law_names_here", "_law_ties_here", "_law_row_here"] qeE) (D_l_made:DefOk P w K mg base CX0 11 "_law_made" ["_law_web", "_law_row_here"] (fun vs H Q E=>qdV vs H Q E∨qdW cw vs H Q E))
  (D_l_both_go_on:DefOk P w K mg base CX0 13 "_law_both_go_on" ["_law_web", "_law_names_here", "_law_ties_here", "_law_row_here"] (qfA cw)) (D_l_read:DefOk P w K mg base CX0 12 "_law_read" ["_law_web", "_law_text"] (qeG cw)):FnOk P w K mg base CX0 14 f fd ["_law_web", "_law_names_here", "_law_ties_here", "_law_row_here"] (qfB cw):=by
 refine F.ok sc_l_right (fun vs H Q E h=>?_) fun cdv A outer s H vs Q E hr h=>?_
 ·obtain ⟨b,n,l,r,ss,ns,ts,dps,ups,row,rfl,_⟩:=h;rfl
 ·obtain ⟨b,n,l,r,ss,ns,ts,dps,ups,row,rfl,hW,hn,hl,hD,hrw,q⟩:=h
  have hu:=zH hr
  have hw:=hW.ok
  have few:=hw.few
  obtain ⟨her,h60,h100⟩:=id hrw
  obtain ⟨TC2,hTC2⟩:∃ t':TS,t'=fun D σ H'=>(∀ u H',Q u H'→D.rt u H')∧∃ (d:Addr) (x4:Option V),L2.Same H H'∧DueAt H' d ups ss row∧σ=[some (.ref b),some (.ref n),some (.ref l),some (.ref r),x4,some (.ref d),none,none,none,none]:=⟨_,rfl⟩
  obtain ⟨TC6,hTC6⟩:∃ t':TS,t'=fun D σ H'=>(∀ u H',Q u H'→D.rt u H')∧∃ (x4 x5 x6:Option V),L2.Same H H'∧σ=[some (.ref b),some (.ref n),some (.ref l),some (.ref r),x4,x5,x6,none,none,none]:=⟨_,rfl⟩
  refine ⟨_,(qf (qw (i:=4) sc_l_right.nd rfl (Or.inl rfl) (qr D_l_first_bad (hm hr) qE (qa (pv 1) (qa (pv 2) (qa (pv 3) qc)))))
 (qf (qN (qp (zh (K:=K) rfl hu) (pv 3) (qA qc) (qx _)) (qe (qw (i:=5) sc_l_right.nd rfl (Or.inl rfl) (qA (qa qg (qa (qA qc) qc))))) (qe (qN (qp qhj (pv 4) qbY (qx _)) (qe (qw (i:=5) sc_l_right.nd rfl (Or.inl rfl) (qr D_l_told (hm hr) qE (qa (pv 1) (qa (pv 2) (qa (pv 3) qc)))))) (qe (qw (i:=5) sc_l_right.nd rfl (Or.inl rfl) (qA (qa (zF call_int1 rfl T.b_int boot_int (qa (jP qdK (pv 4) qg (qx _)) qc)) (qa (qO (qP (K:=K) rfl hu) (pv 3) (pv 4) (fun _ _=>rfl)) qc))))))))
 (qcW TC2 (qf (qw (i:=6) sc_l_right.nd rfl (Or.inl rfl) (zF (qbN (K:=K) rfl rfl) rfl T.b_list boot_list (qa (pv 3) qc)))
 (qf (qN (PW.pt (qbp (qp (qas (K:=K) rfl hu) (qr D_l_made (hm hr) qE (qa (pv 0) (qa (pv 6) qc))) (pv 5) (qx _)) (qak (qp (qas (K:=K) rfl hu) (pv 6) (pv 3) (qx _))))) (qe (qh zS)) qo)
 (qf (qN (PW.pt (qa9 (qp (zh (K:=K) rfl hu) (qO (qP (K:=K) rfl hu) (pv 5) qg (fun _ _=>rfl)) qg (qx _)) (qan (jC (jj (qr D_l_both_go_on (hm hr) qE (qa (pv 0) (qa (pv 1) (qa (pv 2) (qa (pv 3) qc)))))))))) (qe (qh zS)) qo)
 (qf (qN (PW.pt (qa9 (qp (qas (K:=K) rfl hu) (pv 3) (qA qc) (qx _)) (qan (qp (qas (K:=K) rfl hu) (qr D_l_made (hm hr) qE (qa (pv 0) (qa (zF (k_tupleU (K:=K) rfl) rfl T.b_tuple boot_tuple (qa (pv 3) qc)) qc))) (pv 5) (qx _))))) (qe (qh zS)) qo)
 (qcW TC6 (qf (qw (i:=7) sc_l_right.nd rfl (Or.inl rfl) (qcE (K:=K) rfl PySem.F.plainAttrs_str PySem.F.slot_str_join PySem.F.type_str_join (qeg (K:=K) rfl) qV (qa (pv 3) qc)))
 (qf (qw (i:=8) sc_l_right.nd rfl (Or.inl rfl) (qcE (K:=K) rfl PySem.F.plainAttrs_str PySem.F.slot_str_split PySem.F.type_str_split qdt (pv 7) (qa qV qc)))
 (qf (qw (i:=9) sc_l_right.nd rfl (Or.inl rfl) (qr D_l_first_bad (hm hr) qE (qa (pv 1) (qa (pv 2) (qa (pv 8) qc)))))
 (qf (qN (qp qhj (pv 9) qbY (qx _)) (qe (qh (jP (zh (K:=K) rfl hu) (qr D_l_read (hm hr) qE (qa (pv 0) (qa (pv 7) qc))) (qr D_l_told (hm hr) qE (qa (pv 1) (qa (pv 2) (qa (pv 8) qc)))) (qx _)))) qo)
 (qe (qh (jP (zh (K:=K) rfl hu) (qr D_l_read (hm hr) qE (qa (pv 0) (qa (pv 7) qc))) (qA (qa qg (qa (pv 9) qc))) (qx _)))))))) ?cut6))))) ?cut2))),?_⟩
  case cut2 =>
   intro D σ H1 h
   rw [hTC2] at h
   obtain ⟨hD',d,x4,s1,hdu,rfl⟩:=h
   walk_at "v"
   refine .inl ⟨r,_,rfl,.inl (SqL.of (s1 _ _ her)),fun hd hhd=>?_⟩
   have u2:=qK (Sr H1) (o:=.lst (row.map V.str)) hhd
   have eh:upd H1 hd (.lst (row.map V.str)) hd=some (.lst (row.map V.str)):=qb
   generalize upd H1 hd (.lst (row.map V.str))=H2 at u2 eh ⊢
   have s2:=s1.trans u2
   walk_at "v"
   refine qdI (K:=K) (row:=row) (hW.same s2) hD (.inl eh) h60 h100 (fun e=>by rw [eh,e];rfl) (hdu.same u2) fun t k H3 u3 hk ht=>?_
   walk_at "v"
   refine .inr (.inl ⟨t,d,true,k,rfl,rfl,hk,ht,?_⟩)
   walk_at "v"
   refine qY (fun h=>by cases h) fun _=>?_
   have s3:=s2.trans u3
   walk_at "v"
   refine .inr (.inl ⟨hd,r,true,1,rfl,rfl,by decide,qbm (u3 _ _ eh) (s3 _ _ her),?_⟩)
   walk_at "v"
   refine qY (fun h=>by cases h) fun _=>?_
   have hdu3:=hdu.same (u2.trans u3)
   obtain ⟨i,xs,hdd,h2⟩:=due_hd hdu3
   have tail:∀ J,L2.Same H3 J→qgF (qgQ (qgO (qd3 (tOp (qgg K true) (qfD 3) (qgW qdX))) (qd3 (tOp (qgg K true) (qcG (fun vs H Q E=>qdV vs H Q E∨qdW cw vs H Q E) [] E0 (qdL (qfD 0) (qdL (tCB (qep K) (qdL (qfD 3) qdX)) qdX))) (qfD 5)))) (qgP (tC (V.bl false))) qfE) TC6 D [some (.ref b),some (.ref n),some (.ref l),some (.ref r),x4,some (.ref d),some (.ref hd),none,none,none] J:=fun J sj=>by
    have s4:=s3.trans sj
    have fin:∀ J',L2.Same J J'→TC6 D [some (.ref b),some (.ref n),some (.ref l),some (.ref r),x4,some (.ref d),some (.ref hd),none,none,none] J':=fun J' sj'=>by
     rw [hTC6]
     exact ⟨hD',_,_,_,s4.trans sj',rfl⟩
    walk_at "v"
    refine ⟨by show 0≤sizeLine;decide,fun e he=>?_⟩
    have u4:=qK (Sr J) (o:=.lst []) he
    have ee:upd J e (.lst []) e=some (.lst []):=qb
    generalize upd J e (.lst [])=J1 at u4 ee ⊢
    refine .inr (.inl ⟨r,e,_,1,rfl,rfl,by decide,qdE ((s4.trans u4) _ _ her) ee,?_⟩)
    walk_at "v"
    refine qY (fun h=>?_) fun h=>?_
    ·have hne:row≠[]:=of_decide_eq_false (by simpa using h)
     walk_at "v"
     refine ⟨r,_,rfl,.inl ⟨SqL.of ((s4.trans u4) _ _ her),fun tp htp=>?_⟩⟩
     have u5:=qK (Sr J1) (o:=.tup (row.map V.str)) htp
     have et:upd J1 tp (.tup (row.map V.str)) tp=some (.tup (row.map V.str)):=qb
     generalize upd J1 tp (.tup (row.map V.str))=J2 at u5 et ⊢
     have s5:=(s4.trans u4).trans u5
     walk_at "v"
     refine qdI (K:=K) (row:=row) (hW.same s5) hD (.inr et) h60 h100 (fun e=>absurd e hne) (hdu3.same (sj.trans (u4.trans u5))) fun t k J3 u6 hk ht=>?_
     walk_at "v"
     refine .inr (.inl ⟨t,d,true,k,rfl,rfl,hk,ht,?_⟩)
     walk_at "v"
     refine qY (fun h=>by cases h) fun _=>?_
     exact fin J3 (u4.trans (u5.trans u6))
    ·exact fin J1 u4
   walk_at "v"
   refine .inl (zT hdd (qJ (j:=0) rfl) ?_)
   refine .inl (.inl (.inl ⟨rfl,rfl,?_⟩))
   walk_at "v"
   refine qY (fun h=>?_) fun h=>?_
   ·obtain ⟨hne,hfb⟩:=h2 (by simpa [eqV] using h)
    walk_at "v"
    refine ⟨b,n,l,r,ss,ns,ts,dps,ups,row,rfl,hW.same s3,s3 _ _ hn,hl.same s3,s3 _ _ her,hD,qdF hw hD hne hfb,hfb,fun J sj=>?_⟩
    walk_at "v"
    refine qY (fun h=>by cases h) fun _=>?_
    exact tail J sj
   ·exact tail H3 (Sr H3)
  case cut6 =>
   intro D σ H1 h
   rw [hTC6] at h
   obtain ⟨hD',x4,x5,x6,s1,rfl⟩:=h
   walk_at "v"
   refine ⟨rfl,?_⟩
   walk_at "v"
   have hj:=qc4 (z:=" > ") (xs:=row) (k:=100) (m:=60) h100 h60
   have e3:(" > ":Str).length=3:=rfl
   rw [e3] at hj
   refine ⟨_,r,row,rfl,rfl,SqL.of (s1 _ _ her),?_,?_⟩
   ·have:=qdH (xs:=row) (k:=100) h100
    rw [e3]
    omega
   generalize Txt.join " > " row=tx at hj ⊢
   walk_at "v"
   refine ⟨rfl,?_⟩
   walk_at "v"
   refine ⟨tx, " > ",rfl,rfl,by decide,Nat.le_trans (show _≤10000 by omega) (by decide),fun wd hwd=>?_⟩
   have u2:=qK (Sr H1) (o:=.lst ((wdS tx).map V.str)) hwd
   have ew:upd H1 wd (.lst ((wdS tx).map V.str)) wd=some (.lst ((wdS tx).map V.str)):=qb
   have ewd:Txt.split tx " > "=wdS tx:=rfl
   rw [ewd]
   generalize upd H1 wd (.lst ((wdS tx).map V.str))=H2 at u2 ew ⊢
   have s2:=s1.trans u2
   walk_at "v"
   refine ⟨n,l,wd,ss,ts,ups,wdS tx,rfl,s2 _ _ hn,few,hl.same s2,ew,fun H3 u3=>?_⟩
   have s3:=s2.trans u3
   cases hf:fbN ups ss (wdS tx) with
   | none =>
    walk_at "v"
    refine ⟨true,congrArg V.bl (decide_eq_true rfl),qbH ?_⟩
    walk_at "v"
    refine ⟨b,0,0,ss,ns,dps,ups,.str tx,rfl,hW.same s3,hD,Th.flat rfl (fun z e=>by cases e;omega),(fun h=>absurd rfl (h _)),fun z ez=>?_⟩
    cases ez
    refine ⟨by omega,(fun k hk=>by rw [hf] at hk;cases hk),fun _ t g m y H4 u4 ht0 hy hT=>?_⟩
    have hne:wdS tx≠[]:=fun e=>by rw [e] at hy;cases hy
    have hR:=qdF hw hD hne hf
    have hjr:=qa8 hw hR
    have:=hR.few
    have s4:=s3.trans u4
    walk_at "v"
    refine ⟨n,l,wd,ss,ts,ups,wdS tx,y,rfl,s4 _ _ hn,few,hl.same s4,u4 _ _ (u3 _ _ ew),hy,by omega,(fun s hs=>by have:=jg (hw.nm _ (hR.ins s hs));omega),by omega,fun t2 m2 H5 u5 _ hT2=>?_⟩
    refine .inl (.inl (.inr (.inl ⟨t,t2,true,2,rfl,rfl,by decide,(hT.same u5).eqT hT2,?_⟩)))
    exact hD' _ _ (q _ (s4.trans u5))
   | some k =>
    walk_at "v"
    refine ⟨false,congrArg V.bl (decide_eq_false (fun h=>by cases h)),qY (fun h=>by cases h) fun _=>?_⟩
    walk_at "v"
    refine ⟨b,0,0,ss,ns,dps,ups,.str tx,rfl,hW.same s3,hD,Th.flat rfl (fun z e=>by cases e;omega),(fun h=>absurd rfl (h _)),fun z ez=>?_⟩
    cases ez
    refine ⟨by omega,(fun k' hk t H4 u4 ht0 ht=>?_),fun h0=>by rw [hf] at h0;cases h0⟩
    rw [hf] at hk
    cases hk
    walk_at "v"
    refine ⟨by show 2≤sizeLine;decide,fun t2 ht2=>?_⟩
    have u5:=qK (Sr H4) (o:=.lst [.int 0,.int (k:Int)]) ht2
    refine .inl (.inl (.inr (.inl ⟨t,t2,true,1,rfl,rfl,by decide,zK (u5 _ _ ht) qb rfl,?_⟩)))
    exact hD' _ _ (q _ (s3.trans (u4.trans u5)))
  walk_at "v"
  refine ⟨n,l,r,ss,ts,ups,row,rfl,hn,few,hl,her,fun H1 s1=>?_⟩
  walk_at "v"
  refine ⟨by show 0≤sizeLine;decide,fun e he=>?_⟩
  have u1:=qK (Sr H1) (o:=.lst []) he
  have ee:upd H1 e (.lst []) e=some (.lst []):=qb
  generalize upd H1 e (.lst [])=H2 at u1 ee ⊢
  have s2:=s1.trans u1
  refine .inl (.inl (.inr (.inl ⟨r,e,_,1,rfl,rfl,by decide,qdE (s2 _ _ her) ee,?_⟩)))
  walk_at "v"
  refine qY (fun h=>?_) fun h=>?_
  ·walk_at "v"
   refine ⟨by show 0≤sizeLine;decide,fun e2 he2=>?_⟩
   have u2:=qK (Sr H2) (o:=.lst []) he2
   have ee2:upd H2 e2 (.lst []) e2=some (.lst []):=qb
   generalize upd H2 e2 (.lst [])=H3 at u2 ee2 ⊢
   walk_at "v"
   refine ⟨by show 2≤sizeLine;decide,fun d hd=>?_⟩
   have u3:=qK (Sr H3) (o:=.lst [.int 0,.ref e2]) hd
   show TC2 _ _ _
   rw [hTC2]
   exact ⟨fun u H' h=>h,d,_,s2.trans (u2.trans u3),.inl ⟨of_decide_eq_true h,e2,qb,u3 _ _ ee2⟩,rfl⟩
  ·have hne:row≠[]:=fun e=>h (decide_eq_true e)
   cases hf:fbN ups ss row with
   | none =>
    walk_at "v"
    refine ⟨true,congrArg V.bl (decide_eq_true rfl),qbH ?_⟩
    obtain ⟨z,hz⟩:∃ z,row.getLast?=some z:=⟨_,List.getLast?_eq_some_getLast hne⟩
    have hj:=qc4 (z:=" > ") (xs:=row) (k:=100) (m:=60) h100 h60
    have e3:(" > ":Str).length=3:=rfl
    rw [e3] at hj
    walk_at "v"
    refine ⟨n,l,r,ss,ts,ups,row,z,rfl,s2 _ _ hn,few,hl.same s2,s2 _ _ her,hz,by omega,(fun s hs=>by have:=h100 s hs;omega),by omega,fun t m H3 u3 ht0 hT=>?_⟩
    show TC2 _ _ _
    rw [hTC2]
    exact ⟨fun u H' h=>h,t,_,s2.trans u3,.inr (.inr ⟨hne,hf,r,m,z,hz,hT⟩),rfl⟩
   | some k =>
    walk_at "v"
    refine ⟨false,congrArg V.bl (decide_eq_false (fun h=>by cases h)),qY (fun h=>by cases h) fun _=>?_⟩
    have hk:=fb_lt hf
    have gk:row[k]?=some row[k]:=List.getElem?_eq_getElem hk
    generalize row[k]=u at gk
    have efb:fbV (some k)=.int (k:Int):=rfl
    rw [efb]
    walk_at "v"
    refine .inr ⟨_,rfl,?_⟩
    walk_at "v"
    refine .inl (zT (s2 _ _ her) (qJ (j:=k) (by rw [List.getElem?_map,gk];rfl)) ?_)
    walk_at "v"
    refine ⟨by show 2≤sizeLine;decide,fun d hd=>?_⟩
    have u3:=qK (Sr H2) (o:=.lst [.int (if decide ((0:Int) < (k:Int))=true then 1 else 0),.str u]) hd
    have ei:(if decide ((0:Int) < (k:Int))=true then (1:Int) else 0)=if 0 < k then 1 else 0:=by
     by_cases h0:0 < k
     ·rw [if_pos h0,if_pos (decide_eq_true (by omega))]
     ·rw [if_neg h0,if_neg (by rw [decide_eq_true_eq];omega)]
    show TC2 _ _ _
    rw [hTC2]
    exact ⟨fun u H' h=>h,d,_,s2.trans u3,.inr (.inl ⟨hne,k,u,hf,gk,by rw [← ei];exact qb⟩),rfl⟩
theorem sc_law:FnScope ["_law_script", "_law_names_here", "_law_ties_here", "_law_web", "_law_k", "_law_numbers_here", "_law_row_here", "_law_thing"] ["_law_script"] (qd qbV):=fS
theorem vPair1 {tk tv:TE} {σ:L2.St} {H:Hp} {Q:List (V×V)→Hp→Prop} (h:tk σ H fun x H1=>tv σ H1 fun y H2=>Q [(x,y)] H2):qdh [(tk,tv)] σ H Q:=h
theorem qgE (a b c:Nat):a≠a + b + c + 1∧b≠a + b + c + 1∧c≠a + b + c + 1:=by omega
theorem ok_law14 (F:Fun K "law" "law" qbV f fd) (T:Txt K mg cc cw) (D_l_cell:DefOk P w K mg base CX0 1 "_law_cell" ["_law_script", "_law_k"] (qhs K)) (D_l_names:DefOk P w K mg base CX0 2 "_law_names" ["_law_cell_here"] qht) (D_l_ties:DefOk P w K mg base CX0 2 "_law_ties" ["_law_names_here", "_law_cell_here"] qhu) (QD_Web:MakeOk P w K mg base CX0 5 cw "Web" ["self", "names", "ties"] (fun vs H Q _=>qeO cc cw vs H Q E0))
  (D_l_read:DefOk P w K mg base CX0 12 "_law_read" ["_law_web", "_law_text"] (qeG cw)) (D_l_made:DefOk P w K mg base CX0 11 "_law_made" ["_law_web", "_law_row_here"] (fun vs H Q E=>qdV vs H Q E∨qdW cw vs H Q E)) (D_l_numbers:DefOk P w K mg base CX0 1 "_law_numbers" ["_law_cell_here", "_law_bases", "_law_prime"] qgK) (D_l_row:DefOk P w K mg base CX0 3 "_law_row" ["_law_names_here", "_law_ties_here", "_law_numbers_here"] qfw)
  (D_l_right:DefOk P w K mg base CX0 14 "_law_right" ["_law_web", "_law_names_here", "_law_ties_here", "_law_row_here"] (qfB cw)) (D_l_spoilt:DefOk P w K mg base CX0 1 "_law_spoilt" ["_law_row_here", "_law_names_here", "_law_way", "_law_at", "_law_pick"] qfx):FnOk P w K mg base CX0 15 f fd ["_law_script"] (qeQ K):=by
 refine F.ok sc_law (fun vs H Q E h=>?_) fun cdv A outer s H vs Q E hr h=>?_
 ·obtain ⟨a,ns,rfl,_⟩:=h;rfl
 ·obtain ⟨a,nz,rfl,hS,hlen,q⟩:=h
  have hu:=zH hr
  refine ⟨_,(qf (qw (i:=1) sc_law.nd rfl (Or.inl rfl) (qr D_l_names (hm hr) qE (qa (qr D_l_cell (hm hr) qE (qa (pv 0) (qa qg qc))) qc)))
 (qf (qw (i:=2) sc_law.nd rfl (Or.inl rfl) (qr D_l_ties (hm hr) qE (qa (pv 1) (qa (qr D_l_cell (hm hr) qE (qa (pv 0) (qa qg qc))) qc))))
 (qf (qw (i:=3) sc_law.nd rfl (Or.inl rfl) (qds QD_Web (hm hr) (qa (pv 1) (qa (pv 2) qc))))
 (qf (qN (qp (zh (K:=K) rfl hu) (pv 1) (qA qc) (qx _)) (qe (qh (qbZ (jP (zh (K:=K) rfl hu) (qr D_l_read (hm hr) qE (qa (pv 3) (qa qV qc))) (qA (qa qg (qa qg qc))) (qx _)) (qbr (jP (zh (K:=K) rfl hu) (qr D_l_made (hm hr) qE (qa (pv 3) (qa (qA (qa qV qc)) qc))) (qA (qa qg (qa qV qc))) (qx _)))))) qo)
 (qf (j8 PassesOwn.never rfl (qax rfl T.b_range (qa (qm (qb2 rfl) rfl T.b_min boot_min (qa qg (qa (qm (call_max2 rfl) rfl T.b_max boot_max (qa qg (qa (qm (jW (K:=K) rfl) rfl T.b_len boot_len (qa (pv 0) qc)) qc))) qc))) qc)) (qt (i:=4) sc_law.nd rfl (Or.inl rfl))
 (qf (qw (i:=5) sc_law.nd rfl (Or.inl rfl) (qr D_l_numbers (hm hr) qE (qa (qu (jk (K:=K) rfl) (qr D_l_cell (hm hr) qE (qa (pv 0) (qa (pv 4) qc))) (pv 4)) (qa (qu (jk (K:=K) rfl) (qA (qa qg (qa qg (qa qg qc)))) (qu qci (qA (qa qg qc)) qg)) (qa qg qc)))))
 (qf (qw (i:=6) sc_law.nd rfl (Or.inl rfl) (qr D_l_row (hm hr) qE (qa (pv 1) (qa (pv 2) (qa (qz (qaR (K:=K) rfl) (pv 5) (qD qg) qS) qc)))))
 (qf (qN (jC (jj (qr D_l_right (hm hr) qE (qa (pv 3) (qa (pv 1) (qa (pv 2) (qa (pv 6) qc))))))) (qe (qh zS)) qo)
 (qe (qN (jC (jj (qr D_l_right (hm hr) qE (qa (pv 3) (qa (pv 1) (qa (pv 2) (qa (qr D_l_spoilt (hm hr) qE (qa (pv 6) (qa (pv 1) (qa (qO (qP (K:=K) rfl hu) (pv 5) qg (fun _ _=>rfl)) (qa (qO (qP (K:=K) rfl hu) (pv 5) qg (fun _ _=>rfl)) (qa (qO (qP (K:=K) rfl hu) (pv 5) qg (fun _ _=>rfl)) qc)))))) qc))))))) (qe (qh zS)) qo))))))
 (qf (j8 PassesOwn.never rfl (j9 (K:=K) rfl (qA (qa qbY (qa qg (qa (qA (qa (qO (qP (K:=K) rfl hu) (pv 1) qg (fun _ _=>rfl)) qc)) (qa (zQ (qa (qO (qP (K:=K) rfl hu) (pv 1) qg (fun _ _=>rfl)) qc)) (qa zS (qa qdg qc)))))))) (qt (i:=7) sc_law.nd rfl (Or.inl rfl))
 (qe (qN (qp (qas (K:=K) rfl hu) (qr D_l_read (hm hr) qE (qa (pv 3) (qa (pv 7) qc))) (qA (qa qg (qa qg qc))) (qx _)) (qe (qh zS)) qo)))
 (qf (j8 PassesOwn.never rfl (j9 (K:=K) rfl (qA (qa qbY (qa qg (qa (qO (qP (K:=K) rfl hu) (pv 1) qg (fun _ _=>rfl)) (qa (zQ qc) (qa zS (qa (pe_disp (pps_cons (qO (qP (K:=K) rfl hu) (pv 1) qg (fun _ _=>rfl)) qg pps_nil) rfl rfl (fun h=>nomatch h) (by show 1≤15;decide)) qc)))))))) (qt (i:=7) sc_law.nd rfl (Or.inl rfl))
 (qe (qN (qp (qas (K:=K) rfl hu) (qr D_l_made (hm hr) qE (qa (pv 3) (qa (pv 7) qc))) (qA (qa qg (qa (pv 7) qc))) (qx _)) (qe (qh zS)) qo)))
 (qe (qh zS))))))))),?_⟩
  walk_at "v"
  refine ⟨a,nz,_,rfl,hS,by decide,by decide,fun c=>?_⟩
  walk_at "v"
  refine ⟨c,rfl,fun n ss H1 s1 hn0 hn hO=>?_⟩
  walk_at "v"
  refine ⟨a,nz,_,rfl,s1.seq hS,by decide,by decide,fun c'=>?_⟩
  walk_at "v"
  refine ⟨n,c',ss,rfl,hn,hO,fun l ts tps ups H2 s12 hl0 hl hT sh=>?_⟩
  have s2:=s1.trans s12
  replace hn:=s12 _ _ hn
  walk_at "v"
  intro b dxb hb0 hdxb neb
  refine web_made hn hl.1 hl.2 hO hT sh hb0 hdxb neb.symm fun ns H3 s23 hWN hbits=>⟨rfl,?_⟩
  have hW:=hWN.web
  have hw:=hW.ok
  have hG:WG ss ns (qav ss tps ss):=WG.ofR hw hT sh hbits
  have hD:Duo ss ns (qav ss tps ss) ups:=⟨hG,duo_ti hT sh⟩
  generalize qav ss tps ss=dps at hG hD
  have s3:=s2.trans s23
  replace hn:=s23 _ _ hn
  replace hl:=hl.same s23
  clear hWN hbits
  have few:=hw.few
  walk_at "v"
  refine ⟨by decide,fun z hz=>?_⟩
  have s34:=qK (Sr H3) (o:=.lst []) hz
  have ez:upd H3 z (.lst []) z=some (.lst []):=qb
  have s4:=s3.trans s34
  replace hn:=s34 _ _ hn
  replace hl:=hl.same s34
  replace hW:=hW.same s34
  generalize upd H3 z (.lst [])=H4 at s4 ez hn hl hW ⊢
  clear s34 s3 s2 s12 s23
  refine .inl (.inl (.inr (.inl ⟨n,z,_,1,rfl,rfl,by decide,qdE hn ez,?_⟩)))
  walk_at "v"
  refine qY (fun h0=>?_) fun h0=>?_
  ·have h0:ss=[]:=by simpa using h0
   subst h0
   walk_at "v"
   refine ⟨b,0,0,[],ns,dps,ups,.str "",rfl,hW,hD,Th.flat rfl (fun z e=>by cases e;decide),(fun h=>absurd rfl (h _)),fun z ez=>?_⟩
   cases ez
   have hwd:wdS ""=[("":Str)]:=by decide
   have hfb:fbN ups [] [("":Str)]=some 0:=rfl
   rw [hwd,hfb]
   refine ⟨by decide,(fun k hk t H5 s5 ht0 ht=>?_),fun h0=>by cases h0⟩
   cases hk
   walk_at "v"
   refine ⟨by show 2≤sizeLine;decide,fun t2 ht2=>?_⟩
   have s6:=qK (Sr H5) (o:=.lst [.int 0,.int 0]) ht2
   refine .inl (.inl (.inr (.inl ⟨t,t2,true,1,rfl,rfl,by decide,zK (s6 _ _ ht) qb rfl,?_⟩)))
   generalize upd H5 t2 (.lst [.int 0,.int 0])=H6 at s6 ⊢
   walk_at "v"
   refine qY (fun _=>?_) fun h=>absurd rfl h
   walk_at "v"
   refine ⟨by show 1≤sizeLine;decide,fun l1 hl1=>?_⟩
   have s7:=qK (Sr H6) (o:=.lst [.str "a"]) hl1
   have el1:upd H6 l1 (.lst [.str "a"]) l1=some (.lst ([("a":Str)].map V.str)):=qb
   generalize upd H6 l1 (.lst [.str "a"])=H7 at s7 el1 ⊢
   have s57:=s5.trans (s6.trans s7)
   walk_at "v"
   refine .inr ⟨b,l1,[],ns,dps,ups,[("a":Str)],rfl,hW.same s57,hD,.inl el1,by simp,by decide,(fun s hs=>by rw [List.mem_singleton.mp hs];decide),fun u f0 g0 t H' s' ht0 ht=>?_,(fun k u f0=>by cases f0),fun f0=>by cases f0⟩
   cases g0
   walk_at "v"
   refine ⟨by show 2≤sizeLine;decide,fun t3 ht3=>?_⟩
   have s8:=qK (Sr H') (o:=.lst [.int 0,.str "a"]) ht3
   refine .inl (.inl (.inr (.inl ⟨t,t3,true,1,rfl,rfl,by decide,zK (s8 _ _ ht) qb rfl,?_⟩)))
   exact q _
  have hss:ss≠[]:=by simpa using h0
  have hpos:0 < ss.length:=List.length_pos_iff.mpr hss
  walk_at "v"
  refine qef (s4.seq hS) ?_
  walk_at "v"
  refine ⟨_,_,rfl,?_⟩
  walk_at "v"
  refine ⟨_,_,rfl,?_⟩
  walk_at "v"
  rw [List.length_map]
  refine ⟨_,rfl,by split<;>split<;>omega,by split<;>split<;>omega,?_⟩
  generalize hN:(Int.toNat _)=M
  have hN':M≤20:=by rw [← hN];split<;>split<;>omega
  clear hN
  refine qb1 (fun k σ G=>L2.Same H4 G∧∃ x4 x5 x6,σ=[some (.ref a),some (.ref n),some (.ref l),some (.ref b),x4,x5,x6,none]) ⟨L2.Same.refl H4,none,none,none,rfl⟩ (fun k σ J hk hp=>?_) fun σ J hp=>?_
  ·obtain ⟨sJ,x4,x5,x6,rfl⟩:=hp
   walk_at "v"
   refine ⟨a,nz,_,rfl,(s4.trans sJ).seq hS,by omega,by omega,fun c2=>?_⟩
   walk_at "v"
   refine ⟨by show 3≤sizeLine;decide,fun b1 hb1=>?_⟩
   have u1:=qK (Sr J) (o:=.lst [.int 9,.int 14,.int 1009]) hb1
   have eb1:upd J b1 (.lst [.int 9,.int 14,.int 1009]) b1=some (.lst (([9,14,1009]:List Int).map V.int)):=qb
   generalize upd J b1 (.lst [.int 9,.int 14,.int 1009])=J1 at u1 eb1 ⊢
   walk_at "v"
   refine ⟨by show 1≤sizeLine;decide,fun b2 hb2=>?_⟩
   have u2:=qK (Sr J1) (o:=.lst [.int 28]) hb2
   have eb2:upd J1 b2 (.lst [.int 28]) b2=some (.lst [.int 28]):=qb
   generalize upd J1 b2 (.lst [.int 28])=J2 at u2 eb2 ⊢
   walk_at "v"
   refine ⟨b2,13,[.int 28],rfl,rfl,eb2,by decide,by decide,by decide,fun b3 hb3=>?_⟩
   have erp:(List.replicate (13:Int).toNat [V.int 28]).flatten=(List.replicate 13 (28:Int)).map V.int:=rfl
   rw [erp]
   have u3:=qK (Sr J2) (o:=.lst ((List.replicate 13 (28:Int)).map V.int)) hb3
   have eb3:upd J2 b3 (.lst ((List.replicate 13 (28:Int)).map V.int)) b3=some (.lst ((List.replicate 13 (28:Int)).map V.int)):=qb
   generalize upd J2 b3 (.lst ((List.replicate 13 (28:Int)).map V.int))=J3 at u3 eb3 ⊢
   walk_at "v"
   refine .inl ⟨b1,b3,_,_,rfl,rfl,(u2.trans u3) _ _ eb1,eb3,Nat.le_trans (show 16≤1000 by decide) (by decide),fun b4 hb4=>?_⟩
   rw [← List.map_append]
   have hbs:∀ x∈([9,14,1009]:List Int)++List.replicate 13 28,0 < x∧x < 1073741824:=by decide
   have hbl:(([9,14,1009]:List Int)++List.replicate 13 28).length=16:=rfl
   generalize ([9,14,1009]:List Int)++List.replicate 13 28=bs at hbs hbl ⊢
   have u4:=qK (Sr J3) (o:=.lst (bs.map V.int)) hb4
   have eb4:upd J3 b4 (.lst (bs.map V.int)) b4=some (.lst (bs.map V.int)):=qb
   generalize upd J3 b4 (.lst (bs.map V.int))=J4 at u4 eb4 ⊢
   have u14:=u1.trans (u2.trans (u3.trans u4))
   walk_at "v"
   refine ⟨b4,_,_,bs,rfl,eb4,by decide,by decide,by omega,hbs,fun nu nms J5 u5 hnu0 hnu hnl hnb=>?_⟩
   rw [hbl] at hnl
   obtain ⟨a0,a1,a2,rest,rfl⟩:∃ a0 a1 a2 rest,nms=a0::a1::a2::rest:=by
    match nms,hnl with
    | a0::a1::a2::rest,_=>exact ⟨a0,a1,a2,rest,rfl⟩
   have hrl:rest.length=13:=by simpa using hnl
   have sJ5:=sJ.trans (u14.trans u5)
   walk_at "v"
   refine .inl ⟨nu,_,rfl,SqL.of hnu,fun d hd=>?_⟩
   have ec:qaP ((a0::a1::a2::rest).map V.int) (some 3) none=rest.map V.int:=by
    have:=za ((a0::a1::a2::rest).map V.int) 3
    exact this
   rw [ec]
   have u6:=qK (Sr J5) (o:=.lst (rest.map V.int)) hd
   have ed:upd J5 d (.lst (rest.map V.int)) d=some (.lst (rest.map V.int)):=qb
   generalize upd J5 d (.lst (rest.map V.int))=J6 at u6 ed ⊢
   have sJ6:=sJ5.trans u6
   walk_at "v"
   refine ⟨n,l,d,ss,ts,ups,rest,rfl,sJ6 _ _ hn,few,hss,hl.same sJ6,ed,(fun e=>by rw [e] at hrl;cases hrl),by omega,fun r row J7 u7 hr0 her hRG hr20=>?_⟩
   have hR:RowOk ss ns row:=by
    have:=qcC hw hD (row:=row) (k:=row.length) (List.length_pos_iff.mpr hRG.1) (Nat.le_refl _) hRG.2
    rwa [List.take_length] at this
   have h6:∀ s∈row,s.length≤6:=fun s hs=>jg (hw.nm _ (hR.ins s hs))
   have sJ7:=sJ6.trans u7
   walk_at "v"
   refine ⟨b,n,l,r,ss,ns,ts,dps,ups,row,rfl,hW.same sJ7,sJ7 _ _ hn,hl.same sJ7,hD,⟨her,by omega,fun s hs=>by have:=h6 s hs;omega⟩,fun J8 u8=>?_⟩
   walk_at "v"
   refine qY (fun h=>by cases h) fun _=>?_
   have sJ8:=sJ7.trans u8
   have hnu8:J8 nu=some (.lst (V.int a0::V.int a1::V.int a2::rest.map V.int)):=u8 _ _ (u7 _ _ (u6 _ _ hnu))
   have at0:atI (V.int a0::V.int a1::V.int a2::rest.map V.int) 0=some (.int a0):=qJ (j:=0) rfl
   have at1:atI (V.int a0::V.int a1::V.int a2::rest.map V.int) 1=some (.int a1):=qJ (j:=1) rfl
   have at2:atI (V.int a0::V.int a1::V.int a2::rest.map V.int) 2=some (.int a2):=qJ (j:=2) rfl
   walk_at "v"
   refine .inl (zT hnu8 at0 ?_)
   walk_at "v"
   refine .inl (zT hnu8 at1 ?_)
   walk_at "v"
   refine .inl (zT hnu8 at2 ?_)
   walk_at "v"
   refine ⟨r,n,ss,row,a0,a1,a2,rfl,⟨u8 _ _ her,hr20,fun s hs=>by have:=h6 s hs;omega⟩,hRG.1,h6,⟨sJ8 _ _ hn,few,fun s hs=>by have:=jg (hw.nm _ hs);omega⟩,fun r' row' J9 u9 hw'=>?_⟩
   have sJ9:=sJ8.trans u9
   walk_at "v"
   refine ⟨b,n,l,r',ss,ns,ts,dps,ups,row',rfl,hW.same sJ9,sJ9 _ _ hn,hl.same sJ9,hD,hw',fun JA uA=>?_⟩
   walk_at "v"
   refine qY (fun h=>by cases h) fun _=>?_
   exact ⟨sJ9.trans uA,_,_,_,rfl⟩
  ·obtain ⟨sJ,x4,x5,x6,rfl⟩:=hp
   obtain ⟨y0,gy⟩:∃ y0,ss[0]?=some y0:=⟨_,List.getElem?_eq_getElem hpos⟩
   have hy6:=jg (hw.nm _ (List.mem_of_getElem? gy))
   have at0:atI (ss.map V.str) 0=some (.str y0):=qJ (j:=0) (by rw [List.getElem?_map,gy];rfl)
   walk_at "v"
   refine .inl (zT (sJ _ _ hn) at0 ?_)
   walk_at "v"
   refine ⟨by show 1≤sizeLine;decide,fun e1 he1=>?_⟩
   have u1:=qK (Sr J) (o:=.lst [.str y0]) he1
   have ee1:upd J e1 (.lst [.str y0]) e1=some (.lst [.str y0]):=qb
   generalize upd J e1 (.lst [.str y0])=J1 at u1 ee1 ⊢
   walk_at "v"
   refine .inl (zT (u1 _ _ (sJ _ _ hn)) at0 ?_)
   walk_at "v"
   refine ⟨by show 1≤sizeLine;decide,fun e2 he2=>?_⟩
   have u2:=qK (Sr J1) (o:=.tup [.str y0]) he2
   have ee2:upd J1 e2 (.tup [.str y0]) e2=some (.tup [.str y0]):=qb
   generalize upd J1 e2 (.tup [.str y0])=J2 at u2 ee2 ⊢
   walk_at "v"
   intro e3 he3
   have u3:=qK (Sr J2) (o:=.dK []) he3
   have ee3:upd J2 e3 (.dK []) e3=some (.dK []):=qb
   generalize upd J2 e3 (.dK [])=J3 at u3 ee3 ⊢
   walk_at "v"
   refine ⟨by show 6≤sizeLine;decide,fun tl htl=>?_⟩
   have u4:=qK (Sr J3) (o:=.lst [.non,.int 5,.ref e1,.ref e2,.bl true,.ref e3]) htl
   have etl:upd J3 tl (.lst [.non,.int 5,.ref e1,.ref e2,.bl true,.ref e3]) tl=some (.lst [.non,.int 5,.ref e1,.ref e2,.bl true,.ref e3]):=qb
   generalize upd J3 tl (.lst [.non,.int 5,.ref e1,.ref e2,.bl true,.ref e3])=J4 at u4 etl ⊢
   have f1:=(u2.trans (u3.trans u4)) _ _ ee1
   have f2:=(u3.trans u4) _ _ ee2
   have f3:=u4 _ _ ee3
   have sJ4:=sJ.trans (u1.trans (u2.trans (u3.trans u4)))
   refine .inl ⟨⟨_,SqL.of etl⟩,jO (K:=K) (fun i σ G=>L2.Same J4 G∧∃ x7,σ=[some (.ref a),some (.ref n),some (.ref l),some (.ref b),x4,x5,x6,x7]) ⟨L2.Same.refl J4,none,rfl⟩ (fun i σ G _ hp=>SqL.of (hp.1 _ _ etl)) (fun i y σ G hy hp=>?_) fun σ G hp=>?_⟩
   ·obtain ⟨sG,x7,rfl⟩:=hp
    have hth:Th (e1 + e2 + e3 + 1) G 1 y∧∀ z,y≠.str z:=by
     match i,hy with
     | 0,hy=>cases hy;exact ⟨.flat rfl (fun z e=>by cases e),fun z e=>by cases e⟩
     | 1,hy=>cases hy;exact ⟨.flat rfl (fun z e=>by cases e),fun z e=>by cases e⟩
     | 2,hy=>cases hy;exact ⟨.lst (sG _ _ f1) (qgE e1 e2 e3).1 (fun x hx=>by rw [List.mem_singleton.mp hx];exact .flat rfl (fun z e=>by cases e;omega)) (show 1≤1000 by decide),fun z e=>by cases e⟩
     | 3,hy=>cases hy;exact ⟨.tup (sG _ _ f2) (qgE e1 e2 e3).2.1 (fun x hx=>by rw [List.mem_singleton.mp hx];exact .flat rfl (fun z e=>by cases e;omega)) (show 1≤1000 by decide),fun z e=>by cases e⟩
     | 4,hy=>cases hy;exact ⟨.flat rfl (fun z e=>by cases e),fun z e=>by cases e⟩
     | 5,hy=>cases hy;exact ⟨.dct (sG _ _ f3) (qgE e1 e2 e3).2.2,fun z e=>by cases e⟩
     | j + 6,hy=>cases hy
    have sJG:=sJ4.trans sG
    walk_at "v"
    refine ⟨b,_,1,ss,ns,dps,ups,y,rfl,hW.same sJG,hD,hth.1,(fun _ t G1 v1 ht0 ht=>?_),fun z e=>absurd e (hth.2 z)⟩
    walk_at "v"
    refine ⟨by show 2≤sizeLine;decide,fun t2 ht2=>?_⟩
    have v2:=qK (Sr G1) (o:=.lst [.int 0,.int 0]) ht2
    refine .inr (.inl ⟨t,t2,true,1,rfl,rfl,by decide,zK (v2 _ _ ht) qb rfl,?_⟩)
    walk_at "v"
    refine qY (fun h=>by cases h) fun _=>?_
    exact ⟨sG.trans (v1.trans v2),_,rfl⟩
   ·obtain ⟨sG,x7,rfl⟩:=hp
    have sJG:=sJ4.trans sG
    walk_at "v"
    refine .inl (zT (sJG _ _ hn) at0 ?_)
    walk_at "v"
    refine ⟨by show 0≤sizeLine;decide,fun g1 hg1=>?_⟩
    have v1:=qK (Sr G) (o:=.tup []) hg1
    have eg1:upd G g1 (.tup []) g1=some (.tup []):=qb
    generalize upd G g1 (.tup [])=G1 at v1 eg1 ⊢
    walk_at "v"
    intro g2 hg2
    have v2:=qK (Sr G1) (o:=.dK []) hg2
    have eg2:upd G1 g2 (.dK []) g2=some (.dK []):=qb
    generalize upd G1 g2 (.dK [])=G2 at v2 eg2 ⊢
    refine vPair1 ?_
    walk_at "v"
    refine .inl (zT (K:=K) (v2 _ _ (v1 _ _ (sJG _ _ hn))) at0 ?_)
    walk_at "v"
    refine ⟨eg2,[(.inr y0,.int 1)],rfl,(show 1≤15 by decide),?_⟩
    have b3:=(But.refl g2 G2).put (o:=.dK (qaA [] [((.inr y0:Key),V.int 1)]))
    have eg3:upd G2 g2 (.dK (qaA [] [((.inr y0:Key),V.int 1)])) g2=some (.dK (qaA [] [((.inr y0:Key),V.int 1)])):=qb
    generalize upd G2 g2 (.dK (qaA [] [((.inr y0:Key),V.int 1)]))=G3 at b3 eg3 ⊢
    have v13:L2.Same G1 G3:=jA v2 b3 hg2
    walk_at "v"
    refine ⟨by show 6≤sizeLine;decide,fun tl2 htl2=>?_⟩
    have v4:=qK (Sr G3) (o:=.lst [.non,.int 5,.str y0,.ref g1,.bl true,.ref g2]) htl2
    have etl2:upd G3 tl2 (.lst [.non,.int 5,.str y0,.ref g1,.bl true,.ref g2]) tl2=some (.lst [.non,.int 5,.str y0,.ref g1,.bl true,.ref g2]):=qb
    generalize upd G3 tl2 (.lst [.non,.int 5,.str y0,.ref g1,.bl true,.ref g2])=G4 at v4 etl2 ⊢
    have k1:=(v13.trans v4) _ _ eg1
    have k2:=v4 _ _ eg3
    refine .inl ⟨⟨_,SqL.of etl2⟩,jO (K:=K) (fun i σ L=>L2.Same G4 L∧∃ x7,σ=[some (.ref a),some (.ref n),some (.ref l),some (.ref b),x4,x5,x6,x7]) ⟨L2.Same.refl G4,x7,rfl⟩ (fun i σ L _ hp=>SqL.of (hp.1 _ _ etl2)) (fun i y σ L hy hp=>?_) fun σ L hp=>?_⟩
    ·obtain ⟨sL,x7,rfl⟩:=hp
     have hth:∃ o,Arg (g1 + g2 + 0 + 1) L y o∧o.getD []=[]∧EqD K L 1 y y true∧∀ L',L2.Same L L'→EqD K L' 1 y y true:=by
      match i,hy with
      | 0,hy=>cases hy;exact ⟨_,.flat rfl (fun z e=>by cases e),rfl,jd rfl,fun _ _=>jd rfl⟩
      | 1,hy=>cases hy;exact ⟨_,.flat rfl (fun z e=>by cases e),rfl,jd rfl,fun _ _=>jd rfl⟩
      | 2,hy=>cases hy;exact ⟨_,.flat rfl (fun z e=>by cases e;omega),rfl,jd rfl,fun _ _=>jd rfl⟩
      | 3,hy=>cases hy;exact ⟨_,.tup (sL _ _ k1) (qgE g1 g2 0).1 (fun x hx=>by cases hx) (Nat.zero_le _),rfl,.self,fun _ _=>.self⟩
      | 4,hy=>cases hy;exact ⟨_,.flat rfl (fun z e=>by cases e),rfl,jd rfl,fun _ _=>jd rfl⟩
      | 5,hy=>cases hy;exact ⟨_,.dct (sL _ _ k2) (qgE g1 g2 0).2.1,rfl,.self,fun _ _=>.self⟩
      | j + 6,hy=>cases hy
     obtain ⟨o,hA,ho,_,hq⟩:=hth
     walk_at "v"
     refine .inl ⟨b,_,y,o,rfl,hA,ho,fun t L1 w1 ht0 ht=>?_⟩
     walk_at "v"
     refine ⟨by show 2≤sizeLine;decide,fun t2 ht2=>?_⟩
     have w2:=qK (Sr L1) (o:=.lst [.int 0,y]) ht2
     have et2:upd L1 t2 (.lst [.int 0,y]) t2=some (.lst [.int 0,y]):=qb
     generalize upd L1 t2 (.lst [.int 0,y])=L2' at w2 et2 ⊢
     have hE:EqT K L2' 2 t t2 true:=by
      have z:=EqT.lst (K:=K) (H:=L2') (n:=1) (e:=fun _=>true) (SqL.of (w2 _ _ ht)) (SqL.of et2) rfl fun j x y' g1 g2=>by
       match j,g1,g2 with
       | 0,g1,g2=>cases g1;cases g2;exact jd rfl
       | 1,g1,g2=>cases g1;cases g2;exact hq _ (w1.trans w2)
       | j + 2,g1,g2=>cases g1
      rw [qad] at z
      exact z
     refine .inr (.inl ⟨t,t2,true,2,rfl,rfl,by decide,hE,?_⟩)
     walk_at "v"
     refine qY (fun h=>by cases h) fun _=>?_
     exact ⟨sL.trans (w1.trans w2),_,rfl⟩
    ·obtain ⟨sL,x7,rfl⟩:=hp
     walk_at "v"
     exact q _
end
theorem fg_mkM {P:Program} {w:World} {K:W.Frag} {mg:Str→Option Value} {base h:Heap} {k:Nat} {sp:Sp} {st:Stmt} {f:Addr} {fd:FuncData} {ps:List Str} {nm:Str} (X:K.In h) (G:h.Ns mainGlobals mg) (a:W.nsIn K mainGlobals nm=some (some (.ref f))) (F:Fun K nm nm st f fd) (o:FnOkM P w K mg base k f fd ps sp)
  (hb:BA nm nm st ps:=by first | (exact fun _ _ _ _ _ _ us hl=>(match us,hl with | [_],_=>rfl)) | (exact fun _ _ _ _ _ _ us hl=>(match us,hl with | [_,_],_=>rfl))):DefOkM P w K mg base k nm ps sp:=⟨_,_,o,W.mg_of X G a,F.kp,F.binds hb⟩
theorem fm_mkM {P:Program} {w:World} {K:W.Frag} {mg:Str→Option Value} {base:Heap} {k:Nat} {sp:Sp} {st:Stmt} {f:Addr} {fd:FuncData} {ps:List Str} {m ql:Str} {C:Addr} (wcl:Cls K C) (a:W.findIn K (.ref C) m=some (some (.ref f))) (n:W.isFn K (.ref f)=true) (F:Fun K m ql st f fd) (o:FnOkM P w K mg base k f fd ps sp)
  (hb:BA m ql st ps:=by first | (exact fun _ _ _ _ _ _ us hl=>(match us,hl with | [_],_=>rfl)) | (exact fun _ _ _ _ _ _ us hl=>(match us,hl with | [_,_],_=>rfl))):MethOkM P w K mg base k C m ps sp:=⟨⟨_,_,o,⟨a,n,F.kp⟩,F.binds hb⟩,wcl⟩
theorem all_mk {l:W.OpenLaw} {w:World} {K:W.Frag} {h:Heap} {mg:Str→Option Value} {fa Cw Cp C0 C1 C2 C3 C4 C5 C6 C7 C8:Addr} {ty0 ty1 ty2:Tok} (X:K.In h) (G:h.Ns mainGlobals mg) (hfa:mg "law"=some (.ref fa))
  (C0_:W.nsIn K mainGlobals "NoName"=some (some (.ref C0)))
  (C1_:W.nsIn K mainGlobals "Twice"=some (some (.ref C1)))
  (C2_:W.nsIn K mainGlobals "NoPlace"=some (some (.ref C2)))
  (C3_:W.nsIn K mainGlobals "NoTie"=some (some (.ref C3)))
  (C4_:W.nsIn K mainGlobals "TooMany"=some (some (.ref C4)))
  (C5_:W.nsIn K mainGlobals "NoMove"=some (some (.ref C5)))
  (C6_:W.nsIn K mainGlobals "NoBack"=some (some (.ref C6)))
  (C7_:W.nsIn K mainGlobals "NoText"=some (some (.ref C7)))
  (C8_:W.nsIn K mainGlobals "OnceError"=some (some (.ref C8)))
  (Cw_:W.nsIn K mainGlobals "Web"=some (some (.ref Cw)))
  (Cp_:W.nsIn K mainGlobals "Play"=some (some (.ref Cp)))
  (h_is_name:FG K "is_name" jR)
  (h_played:FG K "played" zA)
  (h_show_walk:FG K "show_walk" j2)
  (h_words_from_start:FG K "words_from_start" qR)
  (h_go_along:FG K "go_along" zm)
  (h_show_play:FG K "show_play" j3)
  (h_read_play:FG K "read_play" j4)
  (h_has_bit:FG K "has_bit" zq)
  (h_is_place:FG K "is_place" jX)
  (h_are_two_places:FG K "are_two_places" jf)
  (h_numbers_of:FG K "numbers_of" jM)
  (h_near_of:FG K "near_of" zI)
  (h_l_cell:FG K "_law_cell" qae)
  (h_l_numbers:FG K "_law_numbers" jY)
  (h_l_names:FG K "_law_names" zt)
  (h_l_ties:FG K "_law_ties" zy)
  (h_l_tied:FG K "_law_tied" qaf)
  (h_l_moves:FG K "_law_moves" zu)
  (h_l_row:FG K "_law_row" qaX)
  (h_l_spoilt:FG K "_law_spoilt" zn)
  (h_l_first_bad:FG K "_law_first_bad" jB)
  (h_l_made:FG K "_law_made" zP)
  (h_l_read:FG K "_law_read" qah)
  (h_l_told:FG K "_law_told" qag)
  (h_l_goes_on:FG K "_law_goes_on" j5)
  (h_l_both_go_on:FG K "_law_both_go_on" jp)
  (h_l_right:FG K "_law_right" zJ)
  (h_law:FG K "law" qbV)
  (h_i0:FM K C0 "__init__" "NoName.__init__" jw)
  (h_i1:FM K C1 "__init__" "Twice.__init__" jK)
  (h_i2:FM K C2 "__init__" "NoPlace.__init__" jn)
  (h_i3:FM K C3 "__init__" "NoTie.__init__" jL)
  (h_i4:FM K C4 "__init__" "TooMany.__init__" jo)
  (h_i5:FM K C5 "__init__" "NoMove.__init__" jy)
  (h_i6:FM K C6 "__init__" "NoBack.__init__" jz)
  (h_i7:FM K C7 "__init__" "NoText.__init__" jx)
  (h_i8:FC K C8 "__init__" "OnceError.__init__" je)
  (h_iw:FM K Cw "__init__" "Web.__init__" zk)
  (h_m_has_place:FM K Cw "has_place" "Web.has_place" qZ)
  (h_m_number_of:FM K Cw "number_of" "Web.number_of" q9)
  (h_m_beside:FM K Cw "beside" "Web.beside" js)
  (h_m_bits_beside:FM K Cw "bits_beside" "Web.bits_beside" qL)
  (h_m_names_in:FM K Cw "names_in" "Web.names_in" qM)
  (h_Cp___init__:FM K Cp "__init__" "Walk.__init__" jG)
  (h_Cp_stands_at:FM K Cp "stands_at" "Walk.stands_at" qU)
  (h_Cp_gone:FM K Cp "gone" "Walk.gone" jZ)
  (h_Cp_hand:FM K Cp "hand" "Walk.hand" j0)
  (h_Cp_move_to:FM K Cp "move_to" "Walk.move_to" qX)
  (h_Cp_back:FM K Cp "back" "Walk.back" jH)
  (h_Cp_moves:FM K Cp "moves" "Play.moves" jt)
  (h_Cp_not_gone:FM K Cp "not_gone" "Play.not_gone" qF)
  (h_Cp_go:FM K Cp "go" "Play.go" zc)
  (h_Cp_twin:FM K Cp "twin" "Play.twin" j1)
  (X0:XL K C0 (.ref C8::qaI))
  (q0:XQ K C0)
  (X1:XL K C1 (.ref C8::qaI))
  (q1:XQ K C1)
  (X2:XL K C2 (.ref C8::qaI))
  (q2:XQ K C2)
  (X3:XL K C3 (.ref C8::qaI))
  (q3:XQ K C3)
  (X4:XL K C4 (.ref C8::qaI))
  (q4:XQ K C4)
  (X5:XL K C5 (.ref C8::qaI))
  (q5:XQ K C5)
  (X6:XL K C6 (.ref C8::qaI))
  (q6:XQ K C6)
  (X7:XL K C7 (.ref C8::qaI))
  (q7:XQ K C7)
  (X8:XL K C8 qaI)
  (q8:XQ K C8)
  (y0:W.findIn K (.ref C0) "found"=some none)
  (y1:W.findIn K (.ref C1) "name"=some none)
  (y2:W.findIn K (.ref C2) "found"=some none)
  (y3:W.findIn K (.ref C3) "found"=some none)
  (y4:W.findIn K (.ref C4) "many"=some none)
  (y5:W.findIn K (.ref C5) "found"=some none)
  (y6:W.findIn K (.ref C6) "found"=some none)
  (y7:W.findIn K (.ref C7) "at"=some none)
  (mo0:W.mroIn K C0 (.ref C8)=some true)
  (mo1:W.mroIn K C1 (.ref C8)=some true)
  (mo2:W.mroIn K C2 (.ref C8)=some true)
  (mo3:W.mroIn K C3 (.ref C8)=some true)
  (mo4:W.mroIn K C4 (.ref C8)=some true)
  (mo5:W.mroIn K C5 (.ref C8)=some true)
  (mo6:W.mroIn K C6 (.ref C8)=some true)
  (mo7:W.mroIn K C7 (.ref C8)=some true)
  (nd:([C0,C1,C2,C3,C4,C5,C6,C7]++[C8]).Nodup)
  (r1:W.readsIn K C8 (.type "type")=true)
  (r3:W.specialIn K (.ref C8) "__getattribute__"=some (some (.builtin "type.__getattribute__")))
  (v1:W.findIn K (.type "type") "__getattribute__"=some (some (.builtin "type.__getattribute__")))
  (v3:W.subIn K (.type "type") (.type "type")=some true)
  (v4:W.findCls K (.type "ValueError") (.type "type") "__init__"=some (.val (.builtin "ValueError.__init__")))
  (w1:W.plainGet K Cw Str.empty=true)
  (w2:W.hasDictIn K Cw=true)
  (w3:W.plainOver K Cw=true)
  (w4:W.findIn K (.ref Cw) "__setattr__"=some (some (.builtin "object.__setattr__")))
  (w5:W.makesIn K Cw=true)
  (w6:W.keepIn K (.ref Cw)=true)
  (w7:W.findIn K (.ref Cw) "numbers"=some none)
  (w8:W.findIn K (.ref Cw) "order"=some none)
  (w9:W.findIn K (.ref Cw) "near"=some none)
  (w16:W.specialIn K (.builtin "object.__class__") "__get__"=some (some (.builtin "getset_descriptor.__get__")))
  (w17:W.takesIn K (.builtin "object.__class__")=some true)
  (pw1:W.plainGet K Cp Str.empty=true)
  (pw2:W.hasDictIn K Cp=true)
  (pw3:W.plainOver K Cp=true)
  (pw4:W.findIn K (.ref Cp) "__setattr__"=some (some (.builtin "object.__setattr__")))
  (pw5:W.makesIn K Cp=true)
  (pw6:W.keepIn K (.ref Cp)=true)
  (pw7:W.findIn K (.ref Cp) "board"=some none)
  (pw8:W.findIn K (.ref Cp) "path"=some none)
  (mr2:W.mroIn K C2 (.ref C2)=some true)
  (mr5:W.mroIn K C5 (.ref C5)=some true)
  (mr6:W.mroIn K C6 (.ref C6)=some true)
  (mr7:W.mroIn K C7 (.ref C7)=some true)
  (mr52:W.mroIn K C5 (.ref C2)=some false)
  (z0:W.nsIn K mainGlobals "len"=some none)
  (z1:W.nsIn K mainGlobals "int"=some none)
  (z2:W.nsIn K mainGlobals "enumerate"=some none)
  (z3:W.nsIn K mainGlobals "all"=some none)
  (z4:W.nsIn K mainGlobals "max"=some none)
  (z5:W.nsIn K mainGlobals "min"=some none)
  (z6:W.nsIn K mainGlobals "isinstance"=some none)
  (z7:W.nsIn K mainGlobals "bool"=some none)
  (z8:W.nsIn K mainGlobals "str"=some none)
  (z9:W.nsIn K mainGlobals "range"=some none)
  (z10:W.nsIn K mainGlobals "list"=some none)
  (z11:W.nsIn K mainGlobals "tuple"=some none)
  (z12:W.nsIn K mainGlobals "ValueError"=some none)
  (u0:W.nsIn K mainGlobals "LONGEST_NAME"=some (some (.int 6 ty0)))
  (u1:W.nsIn K mainGlobals "MOST_PLACES"=some (some (.int 14 ty1)))
  (u2:W.nsIn K mainGlobals "MOST_TIES"=some (some (.int 30 ty2))) :
  ∃ fd:FuncData,(∀ (s:Shared) (v:Value),BindsTo s fd ⟨[v],[]⟩ [("_law_script",v)])∧∀ base:Heap,K.In base→base.Ns mainGlobals mg→FnOk l.prog w K mg base CX0 15 fa fd ["_law_script"] (qeQ K):=by
 obtain ⟨f_is_name,e_is_name,a_is_name,F_Qad⟩:=h_is_name
 obtain ⟨f_played,e_played,a_played,F_Qax⟩:=h_played
 obtain ⟨f_show_walk,e_show_walk,a_show_walk,F_Qba⟩:=h_show_walk
 obtain ⟨f_words_from_start,e_words_from_start,a_words_from_start,F_Qbb⟩:=h_words_from_start
 obtain ⟨f_go_along,e_go_along,a_go_along,F_Qab⟩:=h_go_along
 obtain ⟨f_show_play,e_show_play,a_show_play,F_Qaz⟩:=h_show_play
 obtain ⟨f_read_play,e_read_play,a_read_play,F_Qay⟩:=h_read_play
 obtain ⟨f_has_bit,e_has_bit,a_has_bit,F_Qac⟩:=h_has_bit
 obtain ⟨f_is_place,e_is_place,a_is_place,F_Qae⟩:=h_is_place
 obtain ⟨f_are_two_places,e_are_two_places,a_are_two_places,F_Qaa⟩:=h_are_two_places
 obtain ⟨f_numbers_of,e_numbers_of,a_numbers_of,F_Qaw⟩:=h_numbers_of
 obtain ⟨f_near_of,e_near_of,a_near_of,F_Qav⟩:=h_near_of
 obtain ⟨f_l_cell,e_l_cell,a_l_cell,F_Qag⟩:=h_l_cell
 obtain ⟨f_l_numbers,e_l_numbers,a_l_numbers,F_Qam⟩:=h_l_numbers
 obtain ⟨f_l_names,e_l_names,a_l_names,F_Qal⟩:=h_l_names
 obtain ⟨f_l_ties,e_l_ties,a_l_ties,F_Qas⟩:=h_l_ties
 obtain ⟨f_l_tied,e_l_tied,a_l_tied,F_Qar⟩:=h_l_tied
 obtain ⟨f_l_moves,e_l_moves,a_l_moves,F_Qak⟩:=h_l_moves
 obtain ⟨f_l_row,e_l_row,a_l_row,F_Qap⟩:=h_l_row
 obtain ⟨f_l_spoilt,e_l_spoilt,a_l_spoilt,F_Qaq⟩:=h_l_spoilt
 obtain ⟨f_l_first_bad,e_l_first_bad,a_l_first_bad,F_Qah⟩:=h_l_first_bad
 obtain ⟨f_l_made,e_l_made,a_l_made,F_Qaj⟩:=h_l_made
 obtain ⟨f_l_read,e_l_read,a_l_read,F_Qan⟩:=h_l_read
 obtain ⟨f_l_told,e_l_told,a_l_told,F_Qat⟩:=h_l_told
 obtain ⟨f_l_goes_on,e_l_goes_on,a_l_goes_on,F_Qai⟩:=h_l_goes_on
 obtain ⟨f_l_both_go_on,e_l_both_go_on,a_l_both_go_on,F_Qaf⟩:=h_l_both_go_on
 obtain ⟨f_l_right,e_l_right,a_l_right,F_Qao⟩:=h_l_right
 obtain ⟨f_law,e_law,a_law,F_Qau⟩:=h_law
 obtain ⟨f_i0,e_i0,a_i0,n_i0,F_i0⟩:=h_i0
 obtain ⟨f_i1,e_i1,a_i1,n_i1,F_i1⟩:=h_i1
 obtain ⟨f_i2,e_i2,a_i2,n_i2,F_i2⟩:=h_i2
 obtain ⟨f_i3,e_i3,a_i3,n_i3,F_i3⟩:=h_i3
 obtain ⟨f_i4,e_i4,a_i4,n_i4,F_i4⟩:=h_i4
 obtain ⟨f_i5,e_i5,a_i5,n_i5,F_i5⟩:=h_i5
 obtain ⟨f_i6,e_i6,a_i6,n_i6,F_i6⟩:=h_i6
 obtain ⟨f_i7,e_i7,a_i7,n_i7,F_i7⟩:=h_i7
 obtain ⟨f_i8,e_i8,a_i8,F_i8⟩:=h_i8
 obtain ⟨f_iw,e_iw,a_iw,n_iw,F_iw⟩:=h_iw
 obtain ⟨f_m_has_place,e_m_has_place,a_Qbe,n_Qbe,F_Qbe⟩:=h_m_has_place
 obtain ⟨f_m_number_of,e_m_number_of,a_Qbg,n_Qbg,F_Qbg⟩:=h_m_number_of
 obtain ⟨f_m_beside,e_m_beside,a_Qbc,n_Qbc,F_Qbc⟩:=h_m_beside
 obtain ⟨f_m_bits_beside,e_m_bits_beside,a_Qbd,n_Qbd,F_Qbd⟩:=h_m_bits_beside
 obtain ⟨f_m_names_in,e_m_names_in,a_Qbf,n_Qbf,F_Qbf⟩:=h_m_names_in
 obtain ⟨f_Cp___init__,e_Cp___init__,a_Cp___init__,n_Cp___init__,F_Cp___init__⟩:=h_Cp___init__
 obtain ⟨f_Cp_stands_at,e_Cp_stands_at,a_Cp_stands_at,n_Cp_stands_at,F_Cp_stands_at⟩:=h_Cp_stands_at
 obtain ⟨f_Cp_gone,e_Cp_gone,a_Cp_gone,n_Cp_gone,F_Cp_gone⟩:=h_Cp_gone
 obtain ⟨f_Cp_hand,e_Cp_hand,a_Cp_hand,n_Cp_hand,F_Cp_hand⟩:=h_Cp_hand
 obtain ⟨f_Cp_move_to,e_Cp_move_to,a_Cp_move_to,n_Cp_move_to,F_Cp_move_to⟩:=h_Cp_move_to
 obtain ⟨f_Cp_back,e_Cp_back,a_Cp_back,n_Cp_back,F_Cp_back⟩:=h_Cp_back
 obtain ⟨f_Cp_moves,e_Cp_moves,a_Cp_moves,n_Cp_moves,F_Cp_moves⟩:=h_Cp_moves
 obtain ⟨f_Cp_not_gone,e_Cp_not_gone,a_Cp_not_gone,n_Cp_not_gone,F_Cp_not_gone⟩:=h_Cp_not_gone
 obtain ⟨f_Cp_go,e_Cp_go,a_Cp_go,n_Cp_go,F_Cp_go⟩:=h_Cp_go
 obtain ⟨f_Cp_twin,e_Cp_twin,a_Cp_twin,n_Cp_twin,F_Cp_twin⟩:=h_Cp_twin
 have e:=hfa.symm.trans (W.mg_of X G a_law)
 cases e
 have Y0:XAt K C0:=qbO X0 zU q0 w16 w17
 have Y1:XAt K C1:=qbO X1 zU q1 w16 w17
 have Y2:XAt K C2:=qbO X2 zU q2 w16 w17
 have Y3:XAt K C3:=qbO X3 zU q3 w16 w17
 have Y4:XAt K C4:=qbO X4 zU q4 w16 w17
 have Y5:XAt K C5:=qbO X5 zU q5 w16 w17
 have Y6:XAt K C6:=qbO X6 zU q6 w16 w17
 have Y7:XAt K C7:=qbO X7 zU q7 w16 w17
 have Y8:XAt K C8:=qbO X8 qeo q8 w16 w17
 obtain ⟨kt1,kt2,kt3,kt4⟩:=kits nd (fun i hi=>match i,hi with | 0,_=>X0 | 1,_=>X1 | 2,_=>X2 | 3,_=>X3 | 4,_=>X4 | 5,_=>X5 | 6,_=>X6 | 7,_=>X7 | n + 8,h=>absurd h (by simp only [List.length_cons,List.length_nil];omega)) X8
 have wcl:Cls K Cw:=⟨w1,w2,w3,w4⟩
 have pcl:Cls K Cp:=⟨pw1,pw2,pw3,pw4⟩
 have cce:∀ i,i < 9→([C0,C1,C2,C3,C4,C5,C6,C7,C8]:List Addr).getD i Cp=([C0,C1,C2,C3,C4,C5,C6,C7]:List Addr).getD i C8:=fun i hi=>match i,hi with | 0,_=>rfl | 1,_=>rfl | 2,_=>rfl | 3,_=>rfl | 4,_=>rfl | 5,_=>rfl | 6,_=>rfl | 7,_=>rfl | 8,_=>rfl | n + 9,h=>absurd h (by omega)
 have T:Txt K mg (fun i=>([C0,C1,C2,C3,C4,C5,C6,C7,C8]:List Addr).getD i Cp) Cw:=⟨W.mg_none_of X G z0,
  W.mg_none_of X G z1,
  W.mg_none_of X G z2,
  W.mg_none_of X G z3,
  W.mg_none_of X G z4,
  W.mg_none_of X G z5,
  W.mg_none_of X G z6,
  W.mg_none_of X G z7,
  W.mg_none_of X G z8,
  W.mg_none_of X G z9,
  W.mg_none_of X G z10,
  W.mg_none_of X G z11,
  W.mg_none_of X G z12,
  ⟨ty0,W.mg_of X G u0⟩,
  ⟨ty1,W.mg_of X G u1⟩,
  ⟨ty2,W.mg_of X G u2⟩,
  W.mg_of X G C0_,
  W.mg_of X G C1_,
  W.mg_of X G C2_,
  W.mg_of X G C3_,
  W.mg_of X G C4_,
  W.mg_of X G C5_,
  W.mg_of X G C6_,
  W.mg_of X G C7_,
  W.mg_of X G C8_,
  ⟨v1,v3,v4⟩,
  fun i hi=>match i,hi with | 0,_=>Y0 | 1,_=>Y1 | 2,_=>Y2 | 3,_=>Y3 | 4,_=>Y4 | 5,_=>Y5 | 6,_=>Y6 | 7,_=>Y7 | 8,_=>Y8 | n + 9,h=>absurd h (by omega),
  fun i hi=>match i,hi with | 0,_=>y0 | 1,_=>y1 | 2,_=>y2 | 3,_=>y3 | 4,_=>y4 | 5,_=>y5 | 6,_=>y6 | 7,_=>y7 | n + 8,h=>absurd h (by omega),
  (fun i j hi hj=>by rw [cce i (by omega),cce j (by omega)];exact kt1 i j hi hj),
  (fun i hi=>by rw [cce i (by omega)];exact kt3 i hi),
  fun i hi=>match i,hi with | 0,_=>mo0 | 1,_=>mo1 | 2,_=>mo2 | 3,_=>mo3 | 4,_=>mo4 | 5,_=>mo5 | 6,_=>mo6 | 7,_=>mo7 | n + 8,h=>absurd h (by omega),
  wcl,
  w7,
  w8,
  w9,
  W.mg_of X G Cw_,
  W.mg_of X G Cp_,
  pcl,
  pw7,
  pw8,
  mr2,
  mr5,
  mr6,
  mr7,
  mr52⟩
 obtain ⟨oc,od,kV,doc,pm,an,cd,ct,sl,rfl,lk,hc⟩:=F_Qau.ex
 refine ⟨W.fnOf "law" "law" (qj qbV) (qi qbV) (qd qbV) .none kV doc pm an cd ct,fun s v=>.of_eq rfl,fun base _ _=>?_⟩
 have d_once:CMethOk l.prog w K mg base CX0 1 C8 "OnceError" "__init__" ["self", "text"] (qam K):=fc_mk X G C8_ r1 a_i8 r3 F_i8 (ok_once F_i8 T)
 have d0:XMakeOk l.prog w K mg base 2 C0 "NoName" ["self", "found"] (spX C0 (qaj 0)):=qcp X G C0_ Y0 q0 a_i0 n_i0 F_i0 (ok_NoName F_i0 T d_once)
 have d1:XMakeOk l.prog w K mg base 2 C1 "Twice" ["self", "name"] (spX C1 (qaj 1)):=qcp X G C1_ Y1 q1 a_i1 n_i1 F_i1 (ok_Twice F_i1 T d_once)
 have d2:XMakeOk l.prog w K mg base 2 C2 "NoPlace" ["self", "found"] (spX C2 (qaj 2)):=qcp X G C2_ Y2 q2 a_i2 n_i2 F_i2 (ok_NoPlace F_i2 T d_once)
 have d3:XMakeOk l.prog w K mg base 2 C3 "NoTie" ["self", "found"] (spX C3 (qaj 3)):=qcp X G C3_ Y3 q3 a_i3 n_i3 F_i3 (ok_NoTie F_i3 T d_once)
 have d4:XMakeOk l.prog w K mg base 2 C4 "TooMany" ["self", "many"] (spX C4 (qaj 4)):=qcp X G C4_ Y4 q4 a_i4 n_i4 F_i4 (ok_TooMany F_i4 T d_once)
 have d5:XMakeOk l.prog w K mg base 2 C5 "NoMove" ["self", "found"] (spX C5 (qaj 5)):=qcp X G C5_ Y5 q5 a_i5 n_i5 F_i5 (ok_NoMove F_i5 T d_once)
 have d6:XMakeOk l.prog w K mg base 2 C6 "NoBack" ["self"] (qg2 C6):=qcp X G C6_ Y6 q6 a_i6 n_i6 F_i6 (ok_NoBack F_i6 T d_once)
 have d7:XMakeOk l.prog w K mg base 2 C7 "NoText" ["self", "at"] (spX C7 (qaj 7)):=qcp X G C7_ Y7 q7 a_i7 n_i7 F_i7 (ok_NoText F_i7 T d_once)
 have fg:=@fg_mk l.prog w K mg base h
 have fm:=@fm_mk l.prog w K mg base
 have fw:=@fw_mk l.prog w K mg base h
 have fgM:=@fg_mkM l.prog w K mg base h
 have fmM:=@fm_mkM l.prog w K mg base
 have d_name:=fg X G a_is_name F_Qad (ok_name F_Qad T)
 have d_place:=fg X G a_is_place F_Qae (ok_place F_Qae d_name)
 have d_two:=fg X G a_are_two_places F_Qaa (ok_two F_Qaa T d_place)
 have d_bit:=fg X G a_has_bit F_Qac (ok_bit F_Qac)
 have d_nums:=fg X G a_numbers_of F_Qaw (ok_nums F_Qaw T d_name d0 d1 d4)
 have d_near:=fg X G a_near_of F_Qav (ok_near F_Qav T d_two d_bit d3 d4)
 have o_web:=ok_web F_iw T d_nums d_near
 have q_web:MakeOk l.prog w K mg base CX0 5 Cw "Web" ["self", "names", "ties"] (fun vs H Q _=>qeO (fun i=>([C0,C1,C2,C3,C4,C5,C6,C7,C8]:List Addr).getD i Cp) Cw vs H Q E0):=fw X G Cw_ w5 w6 a_iw n_iw F_iw o_web.quiet
 have m_has:=fm wcl a_Qbe n_Qbe F_Qbe (ok_has F_Qbe T d_place)
 have o_num:=ok_num F_Qbg T m_has d2
 have m_num:=fm wcl a_Qbg n_Qbg F_Qbg o_num
 have o_bb:=ok_bb F_Qbd T m_num
 have m_bb:=fm wcl a_Qbd n_Qbd F_Qbd o_bb
 have m_nin:=fm wcl a_Qbf n_Qbf F_Qbf (ok_nin F_Qbf T d_bit)
 have o_bs:=ok_bs F_Qbc T m_bb m_nin
 have q_bs:=fm wcl a_Qbc n_Qbc F_Qbc o_bs.quiet
 have o_wkI:=ok_wkI (P:=l.prog) (w:=w) (base:=base) F_Cp___init__ T m_has
 have m_play:MakeOk l.prog w K mg base CX0 5 Cp "Play" ["self", "web", "start"] (qeS (fun i=>([C0,C1,C2,C3,C4,C5,C6,C7,C8]:List Addr).getD i Cp) Cw):=fw X G Cp_ pw5 pw6 a_Cp___init__ n_Cp___init__ F_Cp___init__ o_wkI
 have m_playB:MakeOk l.prog w K mg base (CX1 l.prog w) 5 Cp "Play" ["self", "web", "start"] (qeU (fun i=>([C0,C1,C2,C3,C4,C5,C6,C7,C8]:List Addr).getD i Cp) Cw):=fw X G Cp_ pw5 pw6 a_Cp___init__ n_Cp___init__ F_Cp___init__ (FnOk.or o_wkI.any (ok_wkX F_Cp___init__ T d2 m_has))
 have p_std:=fm pcl a_Cp_stands_at n_Cp_stands_at F_Cp_stands_at (ok_ps F_Cp_stands_at T)
 have p_gone:=fm pcl a_Cp_gone n_Cp_gone F_Cp_gone (ok_pgn F_Cp_gone T)
 have p_hand:=fm pcl a_Cp_hand n_Cp_hand F_Cp_hand (ok_ph F_Cp_hand T)
 have p_ng:=fm pcl a_Cp_not_gone n_Cp_not_gone F_Cp_not_gone (ok_ng F_Cp_not_gone T)
 have p_mv:=fm pcl a_Cp_moves n_Cp_moves F_Cp_moves (ok_pm F_Cp_moves T q_bs p_std p_ng)
 have p_mvt:=fm pcl a_Cp_move_to n_Cp_move_to F_Cp_move_to (ok_mvt F_Cp_move_to T p_mv)
 have o_go:=ok_pgo F_Cp_go T p_mvt
 have p_go:=fm pcl a_Cp_go n_Cp_go F_Cp_go o_go
 have p_mvtX:=fm pcl a_Cp_move_to n_Cp_move_to F_Cp_move_to (ok_mvtX F_Cp_move_to T d5 p_mv)
 have p_goB:MethOk l.prog w K mg base (CX1 l.prog w) 9 Cp "go" ["self", "name"] (qeV (fun i=>([C0,C1,C2,C3,C4,C5,C6,C7,C8]:List Addr).getD i Cp) Cw):=fm pcl a_Cp_go n_Cp_go F_Cp_go (FnOk.or o_go.any (ok_pgoX F_Cp_go T p_mvtX))
 have p_bkN:=fm pcl a_Cp_back n_Cp_back F_Cp_back (ok_pbk F_Cp_back T)
 have p_bkX:=fm pcl a_Cp_back n_Cp_back F_Cp_back (ok_bkX F_Cp_back T d6)
 have d_pld:=fg X G a_played F_Qax (ok_pld F_Qax T m_play p_go)
 have d_pldB:DefOk l.prog w K mg base (CX1 l.prog w) 10 "played" ["web", "names"] (qeF (fun i=>([C0,C1,C2,C3,C4,C5,C6,C7,C8]:List Addr).getD i Cp) Cw):=fg X G a_played F_Qax (FnOk.or (ok_pldE F_Qax T d2 m_playB p_goB) (ok_pldR F_Qax T d2 m_playB p_goB))
 have p_tw:=fm pcl a_Cp_twin n_Cp_twin F_Cp_twin (ok_tw F_Cp_twin T d_pld)
 have d_shw:=fg X G a_show_walk F_Qba (ok_shw F_Qba T p_gone)
 have d_shp:=fg X G a_show_play F_Qaz (ok_shp F_Qaz d_shw)
 have d_wfs:=fg X G a_words_from_start F_Qbb (ok_wfs F_Qbb T d7 m_has)
 have d_gal:=fg X G a_go_along F_Qab (ok_gal F_Qab T d7 p_mv p_goB)
 have o_rdp:=ok_rdp F_Qay T d_wfs m_playB d_gal
 have d_rdp:=fg X G a_read_play F_Qay o_rdp
 have q_rdp:=fg X G a_read_play F_Qay o_rdp.quiet
 have d_ns:=fg X G a_l_numbers F_Qam (ok_ns F_Qam T)
 have d_nm:=fg X G a_l_names F_Qal (ok_nm F_Qal T d_ns)
 have d_ts:=fg X G a_l_ties F_Qas (ok_ts2 F_Qas T d_ns)
 have d_td:=fg X G a_l_tied F_Qar (ok_tdB F_Qar)
 have d_mv:=fg X G a_l_moves F_Qak (ok_mvL F_Qak d_td)
 have d_rw:=fg X G a_l_row F_Qap (ok_rw14 F_Qap T d_mv)
 have d_fb:=fg X G a_l_first_bad F_Qah (ok_fb F_Qah T d_mv)
 have d_sp:=fg X G a_l_spoilt F_Qaq (ok_sp14 F_Qaq T) (fun _ _ _ _ _ _ us hl=>(match us,hl with | [_,_,_,_,_],_=>rfl))
 have d_to:=fg X G a_l_told F_Qat (ok_to14 F_Qat T d_mv)
 have d_md:DefOk l.prog w K mg base CX0 11 "_law_made" ["_law_web", "_law_row_here"] (fun vs H Q E=>qdV vs H Q E∨qdW Cw vs H Q E):=fg X G a_l_made F_Qaj (FnOk.or (ok_mdE F_Qaj T d_pldB p_gone p_mv p_hand d_shp) (ok_mdR F_Qaj T d_pldB p_gone p_mv p_hand d_shp))
 have d_lr:=fg X G a_l_read F_Qan (ok_lr14 F_Qan T d_rdp p_gone p_mv p_hand d_shp)
 have x_name:=fgM X G a_is_name F_Qad (ok_nameM F_Qad T)
 have x_place:=fgM X G a_is_place F_Qae (ok_placeM F_Qae x_name)
 have x_has:=fmM wcl a_Qbe n_Qbe F_Qbe (ok_hasM F_Qbe T x_place)
 have x_num:=fmM wcl a_Qbg n_Qbg F_Qbg (ok_numM F_Qbg T x_has)
 have x_bb:=fmM wcl a_Qbd n_Qbd F_Qbd (ok_bbM F_Qbd T x_num)
 have x_bit:=fgM X G a_has_bit F_Qac (ok_bitM F_Qac)
 have x_nin:=fmM wcl a_Qbf n_Qbf F_Qbf (ok_ninM F_Qbf T x_bit)
 have x_bs:=fmM wcl a_Qbc n_Qbc F_Qbc (ok_bsM F_Qbc T x_bb x_nin)
 have x_std:=fmM pcl a_Cp_stands_at n_Cp_stands_at F_Cp_stands_at (ok_psM F_Cp_stands_at T)
 have x_ng:=fmM pcl a_Cp_not_gone n_Cp_not_gone F_Cp_not_gone (ok_ngM F_Cp_not_gone T)
 have x_mv:=fmM pcl a_Cp_moves n_Cp_moves F_Cp_moves (ok_pmM F_Cp_moves T x_bs x_std x_ng)
 have x_mvt:=fmM pcl a_Cp_move_to n_Cp_move_to F_Cp_move_to (ok_mvtM F_Cp_move_to T x_mv)
 have x_go:=fmM pcl a_Cp_go n_Cp_go F_Cp_go (ok_pgoM F_Cp_go T x_mvt)
 have d_go:=fg X G a_l_goes_on F_Qai (ok_go14 F_Qai T d_shp d_to p_tw p_bkN p_bkX x_go p_gone p_mv p_hand)
 have d_bg:=fg X G a_l_both_go_on F_Qaf (ok_bg14 F_Qaf T d_pld q_rdp d_go d_mv p_gone p_go)
 have d_rt:=fg X G a_l_right F_Qao (ok_rt14 F_Qao T d_fb d_to d_md d_bg d_lr)
 exact ok_law14 F_Qau T (fg X G a_l_cell F_Qag (ok_cl F_Qag T)) d_nm d_ts q_web d_lr d_md d_ns d_rw d_rt d_sp
theorem walk {l:PySem.W.OpenLaw} {q:Program} {loose:List Str} {XP:(Str→Option Value)→Heap→Prop} {YP:World→Heap→Prop} {d:DefRec} {K:Params→PySem.W.Frag} (hn:l.most=some 63) (hdf:d.params.defaults=[])
  (hY:∀ (w:World) (h:Heap),YP w h→(K w.params).In h)
  (F:∀ (w:World) (mg:Str→Option Value) (fa:Addr) (h:Heap),(K w.params).In h→h.Ns mainGlobals mg→mg d.name=some (.ref fa) →
   ∃ fd:FuncData,(∀ (s:Shared) (u:Value),BindsTo s fd ⟨[u],[]⟩ [("_law_script",u)])∧∀ base:Heap,(K w.params).In base→base.Ns mainGlobals mg→FnOk l.prog w (K w.params) mg base CX0 15 fa fd ["_law_script"] (qeQ (K w.params))) :
  PySem.W.WalkO q loose XP YP l.row.toRowW d [] (fun f vs=>PySem.call f vs):=
 L2.walk_of (n:=63) (k:=15) (x:="_law_script") (CX:=fun _=>CX0) (sp:=fun w=>qeQ (K w.params)) hn (by decide) hdf ⟨rfl,by decide,by decide⟩ hY F (fun _ _ a ns hl _ hS=>⟨a,ns,rfl,hS,hl,fun _=>rfl⟩) fun _ _ _ _ _ z=>z
end K14
set_option maxRecDepth 100000 in
set_option maxHeartbeats 0 in
theorem PySem.Challenge.cw_onceroad_k14_plays_written_and_read_holds : PySem.Challenge.rw_onceroad_k14_plays_written_and_read.Holds := by
  w_on; o_law
  refine PySem.W.holds_open (q := K14.Q) (loose := []) (Xt := K14.Xt) (XP := PySem.W.XL K14.Q []) (Yf := PySem.W.Hook.obs K14.Hk) (Ya := PySem.W.Hook.val K14.Hk) (YP := PySem.W.Hook.says (PySem.W.kHook K14.Kf K14.ks K14.ks_eq)) (N := K14.NN) K14.hl (PySem.W.Hook.of K14.Hk) (PySem.W.Hook.keeps K14.Hk) (fun s e => PySem.W.xl_of s (Bool.and_eq_true_iff.mp e).1) PySem.W.XL.keeps (by rfl) (by rfl) (by rfl) (fun s e => PySem.W.recFacts_of (Bool.and_eq_true_iff.mp e).2) (by rfl) (by first | assumption | decide +kernel) (by decide +kernel) ⟨rfl, rfl, rfl, rfl, rfl, by decide +kernel⟩ ?hw ?hc
  (case hw => w_witness2)
  k_fill
  refine K14.walk (l := PySem.Challenge.rw_onceroad_k14_plays_written_and_read) rfl rfl (fun w h Y => PySem.W.kIn_of Y) ?F
  case F =>
    intro w mg fa h KX G hmg
    refine' K14.all_mk KX G hmg ?_ ?_ ?_ ?_ ?_ ?_ ?_ ?_ ?_ ?_ ?_ ?_ ?_ ?_ ?_ ?_ ?_ ?_ ?_ ?_ ?_ ?_ ?_ ?_ ?_ ?_ ?_ ?_ ?_ ?_ ?_ ?_ ?_ ?_ ?_ ?_ ?_ ?_ ?_ ?_ ?_ ?_ ?_ ?_ ?_ ?_ ?_ ?_ ?_ ?_ ?_ ?_ ?_ ?_ ?_ ?_ ?_ ?_ ?_ ?_ ?_ ?_ ?_ ?_ ?_ ?_ ?_ ?_ ?_ ?_ ?_ ?_ ?_ ?_ ?_ ?_ ?_ ?_ ?_ ?_ ?_ ?_ ?_ ?_ ?_ ?_ ?_ ?_ ?_ ?_ ?_ ?_ ?_ ?_ ?_ ?_ ?_ ?_ ?_ ?_ ?_ ?_ ?_ ?_ ?_ ?_ ?_ ?_ ?_ ?_ ?_ ?_ ?_ ?_ ?_ ?_ ?_ ?_ ?_ ?_ ?_ ?_ ?_ ?_ ?_ ?_ ?_ ?_ ?_ ?_ ?_ ?_ ?_ ?_ ?_ ?_ ?_ ?_ ?_ ?_ ?_ ?_ ?_ ?_
    any_goals first | k_is | decide
    any_goals first | k_is | decide | exact ⟨_, _, by k_is, L2.fun_mk (by k_is) (by k_is) (by k_is)⟩ | exact ⟨_, _, by k_is, by k_is, L2.fun_mk (by k_is) (by k_is) (by k_is)⟩ | exact ⟨_, _, _, _, _, _, _, _, _, _, _, _, _, _, _, by k_is⟩ | exact ⟨by k_is, by k_is, by k_is, by k_is, by k_is, by k_is, by k_is, by k_is⟩ | fail
