import PyProof.Rows.All
import Wide.All
import OpenK.AllK
import Wide.FinOn
import PyProof.EqAt
import PyProof.EqKinds
import PyProof.TupleCall
import Lean
import PySem.Challenge.RW_onceroad_k13_rows_of_moves
set_option Elab.async false
set_option linter.all false
set_option maxRecDepth 100000
namespace L2
open PySem PySem.Spec PyProof.Rows
abbrev Key := Sum Int Str
def keyIs : Key → Value → Bool
  | .inl k, v => Value.isInt k v
  | .inr x, v => Value.isStrOf x v
def keyH (w : World) : Key → Int
  | .inl k => hashInt k
  | .inr x => hashStr w x
theorem keyIs_shape : ∀ {k : Key} {v : Value}, keyIs k v = true → (∃ i t, k = Sum.inl i ∧ v = Value.int i t) ∨ (∃ x t, k = Sum.inr x ∧ v = Value.str x t)
  | .inl i, v, h => by
    obtain ⟨t, e⟩ := Value.isInt_shape (k := i) (v := v) h
    exact .inl ⟨i, t, rfl, e⟩
  | .inr x, v, h => by
    obtain ⟨t, e⟩ := Value.isStrOf_shape (x := x) (v := v) h
    exact .inr ⟨x, t, rfl, e⟩
theorem keyIs_int (i : Int) (t : Tok) : keyIs (.inl i) (.int i t) = true := by simp [keyIs, Value.isInt]
theorem keyIs_str (x : Str) (t : Tok) : keyIs (.inr x) (.str x t) = true := by simp [keyIs, Value.isStrOf]
theorem key_ll (a b : Int) : decide ((Sum.inl a : Key) = Sum.inl b) = (a == b) := by
  by_cases e : a = b
  · subst e; simp
  · have h : ¬ (Sum.inl a : Key) = Sum.inl b := fun q => e (Sum.inl.inj q)
    rw [decide_eq_false h]
    exact (beq_eq_false_iff_ne.mpr e).symm
theorem key_rr (a b : Str) : decide ((Sum.inr a : Key) = Sum.inr b) = decide (a = b) := by
  by_cases e : a = b
  · subst e; simp
  · have h : ¬ (Sum.inr a : Key) = Sum.inr b := fun q => e (Sum.inr.inj q)
    rw [decide_eq_false h, decide_eq_false e]
theorem key_lr (a : Int) (b : Str) : decide ((Sum.inl a : Key) = Sum.inr b) = false := decide_eq_false (fun q => nomatch q)
theorem key_rl (a : Str) (b : Int) : decide ((Sum.inr a : Key) = Sum.inl b) = false := decide_eq_false (fun q => nomatch q)
def mixKind (prog : Program) (w : World) : PySem.KeyKind prog w Key where
  is := keyIs
  hash := keyH w
  inj := fun v a b ha hb => by
    rcases keyIs_shape ha with ⟨i, t, rfl, rfl⟩ | ⟨x, t, rfl, rfl⟩
    · rcases keyIs_shape hb with ⟨j, u, rfl, e⟩ | ⟨y, u, rfl, e⟩
      · injection e with e1 _; rw [e1]
      · exact nomatch e
    · rcases keyIs_shape hb with ⟨j, u, rfl, e⟩ | ⟨y, u, rfl, e⟩
      · exact nomatch e
      · injection e with e1 _; rw [e1]
  byValue := fun k v h => by
    rcases keyIs_shape h with ⟨i, t, rfl, rfl⟩ | ⟨x, t, rfl, rfl⟩ <;> rfl
  pyHash := fun hv h => by
    rcases keyIs_shape hv with ⟨i, t, rfl, rfl⟩ | ⟨x, t, rfl, rfl⟩
    · exact wpAny_pyHash_int h
    · exact wpAny_pyHash_str h
  eqBool := fun hu hv h => by
    rcases keyIs_shape hu with ⟨i, t, rfl, rfl⟩ | ⟨x, t, rfl, rfl⟩
    · rcases keyIs_shape hv with ⟨j, u, rfl, rfl⟩ | ⟨y, u, rfl, rfl⟩
      · rw [key_ll] at h; exact wpAny_eqBool_int h
      · rw [key_lr] at h; exact SeqAt.EqAt.int_str i t y u _ _ _ _ h
    · rcases keyIs_shape hv with ⟨j, u, rfl, rfl⟩ | ⟨y, u, rfl, rfl⟩
      · rw [key_rl] at h; exact SeqAt.EqAt.str_int x t j u _ _ _ _ h
      · rw [key_rr] at h; exact wpAny_eqBool_str h
  «strs» := fun k x t v h => by
    rcases keyIs_shape h with ⟨i, u, rfl, e⟩ | ⟨y, u, rfl, e⟩
    · exact nomatch e
    · injection e with e1 _
      subst e1
      cases v <;> rfl
theorem mixKind_int (prog : Program) (w : World) (i : Int) (t : Tok) : (mixKind prog w).is (.inl i) (.int i t) = true := keyIs_int i t
theorem mixKind_str (prog : Program) (w : World) (x : Str) (t : Tok) : (mixKind prog w).is (.inr x) (.str x t) = true := keyIs_str x t
end L2
namespace L2
open PySem PySem.Spec PyProof.Rows
inductive V where
  | non | bl (b : Bool) | int (i : Int) | str (x : Str) | byt (b : Array UInt8) | flt (b : UInt64) | ref (a : Addr) | ty (n : String)
  deriving DecidableEq
def RelV : V → Value → Prop
  | .non, u => u = Value.none
  | .bl b, u => u = Value.bool b
  | .int i, u => ∃ t, u = Value.int i t
  | .str x, u => ∃ t, u = Value.str x t
  | .byt b, u => ∃ t, u = Value.bytes b t
  | .flt b, u => ∃ t, u = Value.float b t
  | .ref a, u => u = Value.ref a
  | .ty n, u => u = Value.type n
abbrev Vals : List V → List Value → Prop := Paired RelV
theorem Vals.length {xs : List V} {us : List Value} (r : Vals xs us) : xs.length = us.length := Paired.length r
theorem Vals.get : ∀ {xs : List V} {us : List Value} {i : Nat} {x : V}, Vals xs us → xs[i]? = some x → ∃ u, us[i]? = some u ∧ RelV x u
  | _, _, _, _, .nil, e => by simp at e
  | _, _, 0, _, .cons r _, e => by simp at e; subst e; exact ⟨_, rfl, r⟩
  | _, _, i + 1, x, .cons _ t, e => by
    obtain ⟨u, h1, h2⟩ := Vals.get (i := i) (x := x) t (by simpa using e)
    exact ⟨u, by simpa using h1, h2⟩
theorem Vals.set {x : V} {u : Value} (r : RelV x u) : ∀ {xs : List V} {us : List Value} (i : Nat), Vals xs us → Vals (xs.set i x) (us.set i u)
  | _, _, _, .nil => .nil
  | _, _, 0, .cons _ t => .cons r t
  | _, _, i + 1, .cons q t => .cons q (Vals.set r i t)
theorem Vals.append : ∀ {xs ys : List V} {us ws : List Value}, Vals xs us → Vals ys ws → Vals (xs ++ ys) (us ++ ws)
  | _, _, _, _, .nil, s => s
  | _, _, _, _, .cons r t, s => .cons r (Vals.append t s)
theorem Vals.take : ∀ {xs : List V} {us : List Value} (n : Nat), Vals xs us → Vals (xs.take n) (us.take n)
  | _, _, 0, _ => .nil
  | _, _, _ + 1, .nil => .nil
  | _, _, n + 1, .cons r t => .cons r (Vals.take n t)
theorem Vals.drop : ∀ {xs : List V} {us : List Value} (n : Nat), Vals xs us → Vals (xs.drop n) (us.drop n)
  | _, _, 0, r => r
  | _, _, _ + 1, .nil => .nil
  | _, _, n + 1, .cons _ t => Vals.drop n t
def RelO : Option V → Option Value → Prop
  | some v, some u => RelV v u
  | none, none => True
  | _, _ => False
def KV {κ : Type} : List (κ × V) → List (κ × Value) → Prop := Paired fun (p : κ × V) (q : κ × Value) => p.1 = q.1 ∧ RelV p.2 q.2
def kV : Key → V
  | .inl i => .int i
  | .inr x => .str x
inductive HO where
  /-- a list -/
  | lst (xs : List V)
  /-- a tuple (never changes) -/
  | tup (xs : List V)
  /-- a dict whose keys are ints and texts; one whose keys are tuples of ints and texts (the empty one is both) -/
  | dK (kvs : List (Key × V)) | dT (kvs : List (List Key × V))
  /-- a set of ints: its members, its size -/
  | set (S : Int → Bool) (n : Nat)
  /-- an instance of the class at C, its dict at dx, its attributes -/
  | ins (C dx : Addr) (fs : List (Str × V))
  /-- the dict of the instance at x -/
  | own (x : Addr)
  /-- the dict of an exception -/
  | xd (fs : List (Str × V))
  /-- a bound method, f of x -/
  | met (f x : Addr)
  /-- a range object lo, lo + 1, .. below hi -/
  | rng (lo hi : Int)
  /-- a thing that is known to the object (the script; a dict while a loop walks it): read, never written while it is so -/
  | frz (o : Obj) (u : HO)
  /-- a code object's table -/
  | tbl (ps : Array Value)
  /-- any other thing, by what is true of its one object (a def of one's own: SetO a S n := HO.ext fun h => ..) -/
  | ext (φ : Heap → Prop)
abbrev Hp := Addr → Option HO
def upd (H : Hp) (a : Addr) (o : HO) : Hp := fun b => if b = a then some o else H b
theorem upd_same {H : Hp} {a : Addr} {o : HO} : upd H a o a = some o := by unfold upd; rw [if_pos rfl]
theorem upd_ne {H : Hp} {a b : Addr} {o : HO} (h : b ≠ a) : upd H a o b = H b := by unfold upd; rw [if_neg h]
theorem ne_of {H : Hp} {a b : Addr} {o u : HO} (h : H a = some o) (h' : H b = some u) (d : o ≠ u) : a ≠ b := by
  intro e; subst e; rw [h] at h'; exact d (Option.some.inj h')
theorem ne_of_none {H : Hp} {a b : Addr} {o : HO} (h : H a = some o) (h' : H b = none) : a ≠ b := by
  intro e; subst e; rw [h] at h'; cases h'
section
variable (P : Program) (w : World)
def ObjOk (H : Hp) (h : Heap) (a : Addr) : HO → Prop
  | .lst xs => xs.length ≤ sizeLine ∧ ∃ (its : List Value) (n : Nat), Vals xs its ∧ h.get? a = some { cls := .type "list", data := .seq its.toArray n }
  | .tup xs => xs.length ≤ sizeLine ∧ ∃ its : List Value, Vals xs its ∧ IsTup h a its.toArray
  | .dK kvs => kvs.length ≤ sizeLine ∧ (a == sysModules) = false ∧ ∃ vs, KV kvs vs ∧ h.DictOf (mixKind P w) a vs
  | .dT kvs => kvs.length ≤ sizeLine ∧ (a == sysModules) = false ∧ ∃ xs : List (List Key × Addr × Value),
      Paired (fun (p : List Key × V) (q : List Key × Addr × Value) => p.1 = q.1 ∧ H q.2.1 = some (.tup (p.1.map kV)) ∧ RelV p.2 q.2.2) kvs xs ∧
      ∃ o es ep, h.get? a = some o ∧ o.ExactDict ∧ o.data = .dict es ep ∧ es.toList = xs.map (entryOfKey (tupleKind (mixKind P w))) ∧ (xs.map (·.1)).Nodup
  | .set S n => h.SetOf (intKind P w) a S n
  | .ins C dx fs => H dx = some (.own a) ∧ fs.length ≤ 1000 ∧ dx ≠ a ∧ h.get? a = some (PySem.W.instObj C dx) ∧
      ∃ mA, h.Ns1 dx mA ∧ (∀ f, RelO (fs.lookup f) (mA f)) ∧ PySem.Within mA (fs.map (·.1))
  | .own _ => ∃ o, h.get? a = some o
  | .xd fs => ∃ mA, h.Ns1 a mA ∧ ∀ f, RelO (fs.lookup f) (mA f)
  | .rng lo hi => ∃ t u v, h.get? a = some { cls := .type "range", data := .fields #[.int lo t, .int hi u, .int 1 v] }
  | .frz o u => h.get? a = some o ∧ ObjOk H h a u
  | .tbl ps => h.get? a = some { cls := .none, data := .fields ps }
  | .met f x => h.get? a = some (PySem.W.methodObj (.ref f) (.ref x))
  | .ext φ => φ h ∧ (∃ o, h.get? a = some o) ∧ ∀ h1 h2 : Heap, φ h1 → (∀ o, h1.get? a = some o → h2.get? a = some o) → φ h2
def HOk (H : Hp) (h : Heap) : Prop := ∀ a o, H a = some o → ObjOk P w H h a o
end
section
variable {P : Program} {w : World} {H H' : Hp} {h h' : Heap} {a : Addr} {o : HO}
theorem ObjOk.lt (x : ObjOk P w H h a o) : a < h.objs.size := by
  cases o with
  | lst xs => obtain ⟨_, _, _, _, e⟩ := x; exact Heap.lt_size e
  | tup xs => obtain ⟨_, _, _, p⟩ := x; exact p.lt
  | dK kvs => obtain ⟨_, _, _, _, o, _, _, e, _⟩ := x; exact Heap.lt_size e
  | dT kvs => obtain ⟨_, _, _, _, o, _, _, e, _⟩ := x; exact Heap.lt_size e
  | set S n => obtain ⟨o, _, _, _, e, _⟩ := x; exact Heap.lt_size e
  | ins C dx fs => obtain ⟨_, _, _, e, _⟩ := x; exact Heap.lt_size e
  | own y => obtain ⟨_, e⟩ := x; exact Heap.lt_size e
  | xd fs => obtain ⟨_, ⟨_, _, _, e, _⟩, _⟩ := x; exact Heap.lt_size e
  | rng lo hi => obtain ⟨_, _, _, e⟩ := x; exact Heap.lt_size e
  | frz ob u => obtain ⟨e, _⟩ := x; exact Heap.lt_size e
  | tbl ps => exact Heap.lt_size (show h.get? a = some _ from x)
  | met f y => exact Heap.lt_size (show h.get? a = some _ from x)
  | ext φ => obtain ⟨_, ⟨_, e⟩, _⟩ := x; exact Heap.lt_size e
theorem Paired.mapP {α β : Type} {F G : α → β → Prop} : ∀ {l₁ : List α} {l₂ : List β}, Paired F l₁ l₂ → (∀ a b, F a b → G a b) → Paired G l₁ l₂
  | _, _, .nil, _ => .nil
  | _, _, .cons r t, f => .cons (f _ _ r) (Paired.mapP t f)
theorem ObjOk.stay (x : ObjOk P w H h a o) (k : ∀ b u, (b = a ∨ H b = some (.own a)) → h.get? b = some u → h'.get? b = some u)
    (ho : ∀ b, H b = some (.own a) → H' b = some (.own a)) (ht : ∀ b xs, H b = some (.tup xs) → H' b = some (.tup xs)) : ObjOk P w H' h' a o := by
  induction o with
  | lst xs => obtain ⟨z, its, n, r, e⟩ := x; exact ⟨z, its, n, r, k _ _ (.inl rfl) e⟩
  | tup xs => obtain ⟨z, its, r, ob, e, c⟩ := x; exact ⟨z, its, r, ob, k _ _ (.inl rfl) e, c⟩
  | dK kvs => obtain ⟨z, y, vs, r, ob, es, ep, e, c⟩ := x; exact ⟨z, y, vs, r, ob, es, ep, k _ _ (.inl rfl) e, c⟩
  | dT kvs =>
    obtain ⟨z, y, xs, r, ob, es, ep, e, c⟩ := x
    exact ⟨z, y, xs, Paired.mapP r fun p q z => ⟨z.1, ht _ _ z.2.1, z.2.2⟩, ob, es, ep, k _ _ (.inl rfl) e, c⟩
  | set S n => obtain ⟨ob, es, ep, t, e, c⟩ := x; exact ⟨ob, es, ep, t, k _ _ (.inl rfl) e, c⟩
  | ins C dx fs =>
    obtain ⟨d, z, ne, e, mA, ⟨od, es, ep, e2, c⟩, r⟩ := x
    exact ⟨ho _ d, z, ne, k _ _ (.inl rfl) e, mA, ⟨od, es, ep, k _ _ (.inr d) e2, c⟩, r⟩
  | own y => obtain ⟨ob, e⟩ := x; exact ⟨ob, k _ _ (.inl rfl) e⟩
  | xd fs => obtain ⟨mA, ⟨od, es, ep, e, c⟩, r⟩ := x; exact ⟨mA, ⟨od, es, ep, k _ _ (.inl rfl) e, c⟩, r⟩
  | rng lo hi => obtain ⟨t, u, v, e⟩ := x; exact ⟨t, u, v, k _ _ (.inl rfl) e⟩
  | frz ob u ih => obtain ⟨e, q⟩ := x; exact ⟨k _ _ (.inl rfl) e, ih q⟩
  | tbl ps =>
    have e : h.get? a = some { cls := .none, data := .fields ps } := x
    show h'.get? a = some { cls := .none, data := .fields ps }
    exact k a _ (.inl rfl) e
  | met f y =>
    have e : h.get? a = some (PySem.W.methodObj (.ref f) (.ref y)) := x
    show h'.get? a = some (PySem.W.methodObj (.ref f) (.ref y))
    exact k a _ (.inl rfl) e
  | ext φ => obtain ⟨p, ⟨o, e⟩, st⟩ := x; exact ⟨st _ _ p fun o q => k _ _ (.inl rfl) q, ⟨o, k _ _ (.inl rfl) e⟩, st⟩
theorem HOk.lt (x : HOk P w H h) (e : H a = some o) : a < h.objs.size := (x a o e).lt
theorem HOk.fresh (x : HOk P w H h) (e : h.objs.size ≤ a) : H a = none := by
  cases q : H a with
  | none => rfl
  | some u => exact absurd (Nat.lt_of_lt_of_le (x.lt q) e) (Nat.lt_irrefl _)
theorem HOk.kept (x : HOk P w H h) (k : ∀ b u, h.get? b = some u → h'.get? b = some u) : HOk P w H h' := fun a o e =>
  (x a o e).stay (fun b u _ q => k b u q) (fun _ q => q) fun _ _ q => q
theorem HOk.laid (x : HOk P w H h) (k : ∀ b u, h.get? b = some u → h'.get? b = some u) (hp : h.objs.size ≤ a) (new : ObjOk P w (upd H a o) h' a o) : HOk P w (upd H a o) h' := fun b u e => by
  have hn := x.fresh hp
  by_cases hb : b = a
  · subst hb; rw [upd_same] at e; cases e; exact new
  · rw [upd_ne hb] at e
    exact (x b u e).stay (fun c v _ q => k c v q) (fun c q => by rw [upd_ne (ne_of_none q hn)]; exact q) fun c xs q => by rw [upd_ne (ne_of_none q hn)]; exact q
end
def Rd (H : Hp) (a : Addr) (u : HO) : Prop := H a = some u ∨ ∃ o, H a = some (.frz o u)
theorem Rd.ok {P : Program} {w : World} {H : Hp} {h : Heap} {a : Addr} {u : HO} (r : Rd H a u) (x : HOk P w H h) : ObjOk P w H h a u := by
  rcases r with r | ⟨o, r⟩
  · exact x a u r
  · obtain ⟨_, q⟩ := x a _ r
    exact q
def Mut : Option HO → Prop
  | some (.lst _) => True
  | some (.dK _) => True
  | some (.dT _) => True
  | some (.set _ _) => True
  | some (.ins _ _ _) => True
  | some (.ext _) => True
  | _ => False
section
variable {P : Program} {w : World} {H : Hp} {h h' : Heap} {x e : Addr} {o' : HO}
theorem HOk.write (ok : HOk P w H h) (mu : Mut (H x)) (he : e = x ∨ H e = some (.own x)) (k : ∀ b u, b ≠ e → h.get? b = some u → h'.get? b = some u) (heo : ∃ u, h'.get? e = some u)
    (new : ObjOk P w (upd H x o') h' x o') : HOk P w (upd H x o') h' := fun b u q => by
  have nown : ∀ c y, H c = some (.own y) → c ≠ x := fun c y r z => by subst z; rw [r] at mu; exact mu
  have ntup : ∀ c xs, H c = some (.tup xs) → c ≠ x := fun c xs r z => by subst z; rw [r] at mu; exact mu
  by_cases hb : b = x
  · subst hb; rw [upd_same] at q; cases q; exact new
  · rw [upd_ne hb] at q
    by_cases hbe : b = e
    · have q' : H b = some (.own x) := by
        rcases he with z | z
        · exact absurd (hbe.trans z) hb
        · rw [hbe]; exact z
      rw [q] at q'; cases q'
      obtain ⟨v, hv⟩ := heo
      exact ⟨v, by rw [hbe]; exact hv⟩
    · refine (ok b u q).stay (fun c v hc r => k c v ?_ r) (fun c r => by rw [upd_ne (nown c b r)]; exact r) fun c xs r => by rw [upd_ne (ntup c xs r)]; exact r
      rcases hc with rfl | hc
      · exact hbe
      · rintro rfl
        rcases he with z | z
        · exact nown c b hc z
        · rw [hc] at z; cases z; exact hb rfl
end
structure Un (fs ex : List Addr) (H H' : Hp) (h h' : Heap) : Prop where
  keep : ∀ b o, h.get? b = some o → H b = none → b ∉ fs → b ∉ ex → h'.get? b = some o
  slot : ∀ b o, h.get? b = some o → H b = none → b ∈ fs → b ∉ ex → ∃ sl, h'.get? b = some { o with slots := sl }
  free : ∀ b o, h.get? b = some o → H b = none → b ∉ ex → H' b = none
  there : ∀ b o, h.get? b = some o → b ∉ ex → ∃ o', h'.get? b = some o'
  tups : ∀ b xs, H b = some (.tup xs) → H' b = some (.tup xs)
  frzs : ∀ b o u, H b = some (.frz o u) → H' b = some (.frz o u)
  tbls : ∀ b ps, H b = some (.tbl ps) → ∃ more, H' b = some (.tbl (ps ++ more))
section
variable {fs fs' ex ex' : List Addr} {H H1 H2 : Hp} {h h1 h2 h' : Heap} {a x e : Addr} {o : HO}
theorem Un.any (u : Un fs ex H H1 h h1) {b : Addr} {ob : Obj} (q : h.get? b = some ob) (n : H b = none) (hx : b ∉ ex) : ∃ sl, h1.get? b = some { ob with slots := sl } := by
  by_cases hb : b ∈ fs
  · exact u.slot b ob q n hb hx
  · exact ⟨ob.slots, u.keep b ob q n hb hx⟩
theorem Un.kept (k : ∀ b u, h.get? b = some u → h'.get? b = some u) : Un fs ex H H h h' :=
  ⟨fun b ob q _ _ _ => k b ob q, fun b ob q _ _ _ => ⟨ob.slots, k b ob q⟩, fun _ _ _ n _ => n, fun b ob q _ => ⟨ob, k b ob q⟩, fun _ _ q => q, fun _ _ _ q => q, fun _ ps q => ⟨#[], by rw [q]; simp⟩⟩
theorem Un.refl : Un fs ex H H h h := Un.kept fun _ _ q => q
theorem Un.laid (k : ∀ b u, h.get? b = some u → h'.get? b = some u) (hp : h.objs.size ≤ a) (hn : H a = none) : Un fs ex H (upd H a o) h h' where
  keep := fun b u q _ _ _ => k b u q
  slot := fun b u q _ _ _ => ⟨u.slots, k b u q⟩
  free := fun b u q n _ => by rw [upd_ne (Nat.ne_of_lt (Nat.lt_of_lt_of_le (Heap.lt_size q) hp))]; exact n
  there := fun b u q _ => ⟨u, k b u q⟩
  tups := fun b xs q => by rw [upd_ne (ne_of_none q hn)]; exact q
  frzs := fun b u xs q => by rw [upd_ne (ne_of_none q hn)]; exact q
  tbls := fun b ps q => ⟨#[], by rw [upd_ne (ne_of_none q hn), q]; simp⟩
theorem Un.write (mu : Mut (H x)) (he : e = x ∨ H e = some (.own x)) (k : ∀ b u, b ≠ e → h.get? b = some u → h'.get? b = some u) (heo : ∃ u, h'.get? e = some u) : Un fs ex H (upd H x o) h h' := by
  have hx : ∀ b, H b = none → b ≠ x := fun b n z => by subst z; rw [n] at mu; exact mu
  have hb : ∀ b, H b = none → b ≠ e := fun b n z => by
    subst z
    rcases he with r | r
    · exact hx b n r
    · rw [n] at r; cases r
  have hm : ∀ b u, H b = some u → ¬ Mut (some u) → b ≠ x := fun b u q nm z => by subst z; rw [q] at mu; exact nm mu
  refine ⟨fun b u q n _ _ => k b u (hb b n) q, fun b u q n _ _ => ⟨u.slots, k b u (hb b n) q⟩, fun b u q n _ => by rw [upd_ne (hx b n)]; exact n, fun b u q _ => ?_,
    fun b xs q => by rw [upd_ne (hm b _ q fun z => z)]; exact q, fun b u xs q => by rw [upd_ne (hm b _ q fun z => z)]; exact q, fun b ps q => ⟨#[], by rw [upd_ne (hm b _ q fun z => z), q]; simp⟩⟩
  by_cases hbe : b = e
  · subst hbe; exact heo
  · exact ⟨u, k b u hbe q⟩
end
def trk (h : Heap) (H : Hp) : List Addr := (List.range h.objs.size).filter fun a => (H a).isSome
def hidT (h : Heap) (H : Hp) : Heap := PySem.W.hideAll h (trk h H)
theorem hidT_size (h : Heap) (H : Hp) : (hidT h H).objs.size = h.objs.size := PySem.W.hideAll_size _ _
theorem hidT_get {h : Heap} {H : Hp} {b : Addr} {o : Obj} (e : h.get? b = some o) (n : H b = none) : (hidT h H).get? b = some o :=
  PySem.W.hideAll_get _ e fun hm => by
    have q : (H b).isSome = true := (List.mem_filter.mp hm).2
    rw [n] at q; simp at q
theorem of_hidT {h : Heap} {H : Hp} {b : Addr} {o : Obj} (e : (hidT h H).get? b = some o) : h.get? b = some o ∧ H b = none := by
  have e' : h.get? b = some o := PySem.W.of_hideAll (trk h H) e
  refine ⟨e', ?_⟩
  cases q : H b with
  | none => rfl
  | some x =>
    have hm : b ∈ trk h H := List.mem_filter.mpr ⟨List.mem_range.mpr (Heap.lt_size e'), by simp [q]⟩
    have z : (hidT h H).get? b = none := PySem.W.hideAll_none (trk h H) hm
    rw [z] at e; cases e
def allNews (g h : Heap) (L : Addr) : List (Addr × Obj) := (List.range h.objs.size).filterMap fun a => if a = L ∨ (g.get? a).isSome = true then none else (h.get? a).map fun o => (a, o)
def rest (g h : Heap) (L d : Addr) : List (Addr × Obj) := (allNews g h L).filter fun p => decide (p.1 ≠ d)
end L2
namespace L2
open PySem PySem.Spec PyProof.Rows
structure Mod (K : PySem.W.Frag) (mg : Str → Option Value) (base : Heap) : Prop where
  kin : K.In base
  glob : base.Ns mainGlobals mg
  blt : ∃ mb, base.Ns builtinsNs mb ∧ ∀ x : Str, x ≠ "__name__" → mb x = bootBuiltins x
  nolimit : base.NoLimit
structure Cx where
  prog : Program
  w : World
  K : PySem.W.Frag
  mg : Str → Option Value
  base : Heap
  A : Around
  N : List Str
  s₀ : Shared
  H₀ : Hp
  env : Env
  outer : List Env
  stack : List Env
  ex : List Addr
  fn : Str → Bool
  calm : Bool
  pn : List (Addr × Obj)
  xe : Value → Shared → Prop
def frs (l : List Env) : List Addr := l.filterMap (·.frame)
abbrev Cx.fs (X : Cx) : List Addr := frs X.outer
def Vis (sc : Scope) (x : Str) : Prop := sc.names.lookup x = some .local ∨ sc.names.lookup x = some .cell ∨ sc.names.lookup x = some .free
def Loc (sc : Scope) (x : Str) : Prop := sc.names.lookup x = some .local ∨ sc.names.lookup x = some .cell
def Look (env : Env) (h : Heap) (m : Str → Option Value) (x : Str) (u : Value) : Prop :=
  (env.kindOf x = some .local ∧ m x = some u) ∨ ((env.kindOf x = some .cell ∨ env.kindOf x = some .free) ∧ ∃ c, env.cells.lookup x = some c ∧ h.IsCell c (some u))
structure Cx.Ok (X : Cx) : Prop where
  mod : Mod X.K X.mg X.base
  kind : X.env.scope.kind = .function
  glob : X.env.globals = mainGlobals
  blt : X.env.builtins = builtinsNs
  above : X.s₀.heap.objs.size ≤ X.env.locals
  inj : ∀ x y c, X.env.cells.lookup x = some c → X.env.cells.lookup y = some c → x = y
  has : ∀ x, (X.env.kindOf x = some .cell ∨ X.env.kindOf x = some .free) → ∃ c, X.env.cells.lookup x = some c
  cab : ∀ x c, X.fn x = true → X.env.cells.lookup x = some c → X.s₀.heap.objs.size ≤ c
  hd : X.calm = true → X.A.handled = none
  frames : X.A.frames = some X.stack
  stk : X.stack = X.outer ∨ (X.stack = X.env :: X.outer ∧ X.env.frame = some X.env.locals)
  exf : ∀ b ∈ X.ex, b ≠ X.env.locals ∧ ∀ x c, X.env.cells.lookup x = some c → c ≠ b
  bs : ∀ b o, X.base.get? b = some o → X.s₀.heap.get? b = some o ∧ X.H₀ b = none
  bsz : X.base.objs.size ≤ X.s₀.heap.objs.size
  noex : ∀ b o, X.base.get? b = some o → b ∉ X.ex
  exfs : ∀ b ∈ X.ex, b ∉ X.fs
  funs : X.s₀.heap.FunFrames X.base X.outer
  frf : ∀ b ∈ X.fs, X.H₀ b = none
structure Inv (X : Cx) (pins : List (Addr × Obj)) (σ : List (Option V)) (H : Hp) (s : Shared) : Prop where
  ok : X.Ok
  os : s.os = X.s₀.os
  bare : AllBare s.gens
  base : Un X.fs X.ex X.H₀ H X.s₀.heap s.heap
  loc : ∃ m, s.heap.Ns X.env.locals m ∧ ∀ (i : Nat) (x : Str) (v : V), X.N[i]? = some x → σ[i]? = some (some v) → Vis X.env.scope x → ∃ u, RelV v u ∧ Look X.env s.heap m x u
  cell : ∀ x c, X.env.cells.lookup x = some c → ∃ v, s.heap.IsCell c v
  free : H X.env.locals = none
  freeC : ∀ x c, X.env.cells.lookup x = some c → H c = none
  pin : ∀ p ∈ X.pn ++ pins, s.heap.get? p.1 = some p.2 ∧ H p.1 = none ∧ p.1 ≠ X.env.locals ∧ p.1 ∉ X.fs ∧ ∀ v, p.2.data ≠ .cell v
  hok : HOk X.prog X.w H s.heap
  len : σ.length = X.N.length
section
variable {X : Cx} {pins : List (Addr × Obj)} {σ : List (Option V)} {H H' : Hp} {s : Shared} {h' : Heap}
theorem Cx.Ok.nofr (ok : X.Ok) {b : Addr} {o : Obj} (e : X.base.get? b = some o) : b ∉ X.fs := fun hb => by
  have := (ok.funs.mem hb).1
  rw [e] at this; cases this
theorem Inv.bs (I : Inv X pins σ H s) : ∀ b o, X.base.get? b = some o → s.heap.get? b = some o ∧ H b = none := fun b o e =>
  ⟨I.base.keep b o (I.ok.bs b o e).1 (I.ok.bs b o e).2 (I.ok.nofr e) (I.ok.noex b o e), I.base.free b o (I.ok.bs b o e).1 (I.ok.bs b o e).2 (I.ok.noex b o e)⟩
theorem Inv.bk (I : Inv X pins σ H s) : ∀ b o, X.base.get? b = some o → s.heap.get? b = some o := fun b o e => (I.bs b o e).1
theorem Inv.mod (I : Inv X pins σ H s) : Mod X.K X.mg X.base := I.ok.mod
theorem Inv.kIn (I : Inv X pins σ H s) : X.K.In s.heap := I.ok.mod.kin.keeps I.bk
theorem Inv.lt (I : Inv X pins σ H s) : X.env.locals < s.heap.objs.size := let ⟨_, hn, _⟩ := I.loc; hn.lt
theorem Inv.sz (I : Inv X pins σ H s) : X.s₀.heap.objs.size ≤ s.heap.objs.size := Nat.le_trans I.ok.above (Nat.le_of_lt I.lt)
theorem Inv.nofs (I : Inv X pins σ H s) {a : Addr} (h : s.heap.objs.size ≤ a) : a ∉ X.fs := fun hb => by
  obtain ⟨_, o, ho, _⟩ := I.ok.funs.mem hb
  exact absurd (Nat.lt_of_lt_of_le (Heap.lt_size ho) (Nat.le_trans I.sz h)) (Nat.lt_irrefl _)
theorem Inv.cne (I : Inv X pins σ H s) : ∀ x c, X.env.cells.lookup x = some c → c ≠ X.env.locals := fun x c e z => by
  obtain ⟨v, o, ho, hd⟩ := I.cell x c e
  obtain ⟨m, ⟨o', es, ep, ho', hd', _⟩, _⟩ := I.loc
  rw [z, ho'] at ho; cases ho; rw [hd'] at hd; cases hd
theorem Inv.funs (I : Inv X pins σ H s) : s.heap.FunFrames X.base X.outer := by
  have all : ∀ (l : List Env), (∀ b ∈ frs l, b ∈ X.fs) → X.s₀.heap.FunFrames X.base l → s.heap.FunFrames X.base l := by
    intro l
    induction l with
    | nil => intro _ _; trivial
    | cons env r ih =>
      intro hs hl
      obtain ⟨hk, ⟨L, o, hf, hn, ho, hd⟩, hr⟩ := hl
      have hL : L ∈ X.fs := hs L (by unfold frs; rw [List.filterMap_cons, hf]; exact List.mem_cons_self)
      obtain ⟨sl, e⟩ := I.base.slot L o ho (I.ok.frf L hL) hL fun z => I.ok.exfs L z hL
      exact ⟨hk, ⟨L, _, hf, hn, e, hd⟩, ih (fun b hb => hs b (by unfold frs; rw [List.filterMap_cons, hf]; exact List.mem_cons_of_mem _ hb)) hr⟩
  exact all X.outer (fun _ hb => hb) I.ok.funs
theorem Inv.stack (I : Inv X pins σ H s) : s.heap.FunFrames X.base X.stack := by
  rcases I.ok.stk with e | ⟨e, hf⟩
  · rw [e]; exact I.funs
  · rw [e]
    obtain ⟨m, hn, _⟩ := I.loc
    refine .cons (by rw [I.ok.kind]; decide) hf hn ?_ I.funs
    exact Heap.get?_none_of_le (Nat.le_trans I.ok.bsz I.ok.above)
theorem Inv.stkSub (I : Inv X pins σ H s) : ∀ b ∈ frs X.stack, b ∈ X.env.locals :: X.fs := fun b hb => by
  rcases I.ok.stk with e | ⟨e, hf⟩
  · rw [e] at hb; exact List.mem_cons_of_mem _ hb
  · rw [e] at hb
    unfold frs at hb
    rw [List.filterMap_cons, hf] at hb
    exact hb
theorem Inv.stkFree (I : Inv X pins σ H s) : ∀ b ∈ frs X.stack, H b = none := fun b hb => by
  rcases List.mem_cons.mp (I.stkSub b hb) with e | hb
  · rw [e]; exact I.free
  · obtain ⟨_, o, ho, _⟩ := I.ok.funs.mem hb
    exact I.base.free b o ho (I.ok.frf b hb) fun z => I.ok.exfs b z hb
theorem Inv.step {g' : Array GenState} {t' : Nat} {d' : Drawn} {ch : List Addr} (I : Inv X pins σ H s)
    (hch : ∀ b ∈ ch, (b ∈ X.ex ∨ X.s₀.heap.objs.size ≤ b) ∧ b ≠ X.env.locals ∧ (∀ x c, X.env.cells.lookup x = some c → c ≠ b) ∧ ∀ p ∈ X.pn ++ pins, p.1 ≠ b)
    (keep : ∀ b o, b ≠ X.env.locals → b ∉ X.fs → b ∉ ch → s.heap.get? b = some o → H b = none → h'.get? b = some o)
    (slot : ∀ b o, b ≠ X.env.locals → b ∈ X.fs → b ∉ ch → s.heap.get? b = some o → H b = none → ∃ sl, h'.get? b = some { o with slots := sl }) (free : ∀ b o, b ∉ ch → s.heap.get? b = some o → H b = none → H' b = none)
    (there : ∀ b o, b ∉ ch → s.heap.get? b = some o → ∃ o', h'.get? b = some o')
    (tups : ∀ b xs, H b = some (.tup xs) → H' b = some (.tup xs)) (frzs : ∀ b o u, H b = some (.frz o u) → H' b = some (.frz o u)) (tbls : ∀ b ps, H b = some (.tbl ps) → ∃ more, H' b = some (.tbl (ps ++ more)))
    (ns : ∀ m, s.heap.Ns X.env.locals m → h'.Ns X.env.locals m) (hok : HOk X.prog X.w H' h') (hg : AllBare g') :
    Inv X pins σ H' { s with heap := h', gens := g', drawn := d', toks := t' } := by
  have neL : ∀ b o, X.s₀.heap.get? b = some o → b ≠ X.env.locals := fun b o e => Nat.ne_of_lt (Nat.lt_of_lt_of_le (Heap.lt_size e) I.ok.above)
  have neC : ∀ b o, X.s₀.heap.get? b = some o → b ∉ X.ex → b ∉ ch := fun b o e hx hb => by
    rcases (hch b hb).1 with z | z
    · exact hx z
    · exact absurd (Nat.lt_of_lt_of_le (Heap.lt_size e) z) (Nat.lt_irrefl _)
  have cellK : ∀ x c, X.env.cells.lookup x = some c → ∀ v, s.heap.IsCell c v → h'.IsCell c v := fun x c e v ⟨o, ho, hd⟩ => by
    have nch : c ∉ ch := fun z => (hch c z).2.2.1 x c e rfl
    by_cases hc : c ∈ X.fs
    · obtain ⟨sl, q⟩ := slot c o (I.cne x c e) hc nch ho (I.freeC x c e)
      exact ⟨_, q, hd⟩
    · exact ⟨o, keep c o (I.cne x c e) hc nch ho (I.freeC x c e), hd⟩
  refine ⟨I.ok, I.os, hg, ⟨fun b o e n hb hx => ?_, fun b o e n hb hx => ?_, fun b o e n hx => ?_, fun b o e hx => ?_, fun b xs e => tups b xs (I.base.tups b xs e), fun b o xs e => frzs b o xs (I.base.frzs b o xs e), fun b ps e => ?_⟩, ?_, fun x c e => ?_, ?_, fun x c e => ?_, fun p hp => ?_, hok, I.len⟩
  · exact keep b o (neL b o e) hb (neC b o e hx) (I.base.keep b o e n hb hx) (I.base.free b o e n hx)
  · obtain ⟨sl, e1⟩ := I.base.slot b o e n hb hx
    obtain ⟨sl', e2⟩ := slot b _ (neL b o e) hb (neC b o e hx) e1 (I.base.free b o e n hx)
    exact ⟨sl', e2⟩
  · obtain ⟨o', e1⟩ := I.base.there b o e hx
    exact free b o' (neC b o e hx) e1 (I.base.free b o e n hx)
  · obtain ⟨o', e1⟩ := I.base.there b o e hx
    exact there b o' (neC b o e hx) e1
  · obtain ⟨m1, e1⟩ := I.base.tbls b ps e
    obtain ⟨m2, e2⟩ := tbls b _ e1
    exact ⟨m1 ++ m2, by rw [e2, Array.append_assoc]⟩
  · obtain ⟨m, hn, hl⟩ := I.loc
    refine ⟨m, ns m hn, fun i x v e1 e2 e3 => ?_⟩
    obtain ⟨u, r, l⟩ := hl i x v e1 e2 e3
    refine ⟨u, r, ?_⟩
    rcases l with l | ⟨k, c, e, z⟩
    · exact .inl l
    · exact .inr ⟨k, c, e, cellK x c e _ z⟩
  · obtain ⟨v, z⟩ := I.cell x c e
    exact ⟨v, cellK x c e v z⟩
  · obtain ⟨m, ⟨o, _, _, ho, _⟩, _⟩ := I.loc
    exact free _ o (fun z => (hch _ z).2.1 rfl) ho I.free
  · obtain ⟨v, o, ho, hd⟩ := I.cell x c e
    exact free c o (fun z => (hch c z).2.2.1 x c e rfl) ho (I.freeC x c e)
  · obtain ⟨e, n, ne, nf, d⟩ := I.pin p hp
    have nch : p.1 ∉ ch := fun z => (hch p.1 z).2.2.2 p hp rfl
    exact ⟨keep p.1 p.2 ne nf nch e n, free p.1 p.2 nch e n, ne, nf, d⟩
theorem Inv.un {t' : Nat} (I : Inv X pins σ H s) (u : Un X.fs [] H H' s.heap h') (hok : HOk X.prog X.w H' h') : Inv X pins σ H' { s with heap := h', toks := t' } := by
  obtain ⟨m, ⟨o, es, ep, ho, r⟩, _⟩ := id I.loc
  obtain ⟨sl, hL⟩ := u.any ho I.free (by simp)
  exact I.step (g' := s.gens) (d' := s.drawn) (ch := []) (fun _ z => nomatch z) (fun b o _ hb _ e n => u.keep b o e n hb (by simp)) (fun b o _ hb _ e n => u.slot b o e n hb (by simp)) (fun b o _ e n => u.free b o e n (by simp)) (fun b o _ e => u.there b o e (by simp)) u.tups u.frzs u.tbls (fun m' hm => by
    obtain ⟨o', es', ep', ho', r'⟩ := hm
    rw [ho] at ho'; cases ho'
    exact ⟨_, es', ep', hL, r'⟩) hok I.bare
theorem Inv.call {g' : Array GenState} {t' : Nat} {d' : Drawn} {ch : List Addr} (I : Inv X pins σ H s) (u : Un (frs X.stack) ch H H' s.heap h') (hok : HOk X.prog X.w H' h') (hg : AllBare g')
    (hch : ∀ b ∈ ch, (b ∈ X.ex ∨ X.s₀.heap.objs.size ≤ b) ∧ b ≠ X.env.locals ∧ (∀ x c, X.env.cells.lookup x = some c → c ≠ b) ∧ ∀ p ∈ X.pn ++ pins, p.1 ≠ b) :
    Inv X pins σ H' { s with heap := h', gens := g', drawn := d', toks := t' } := by
  obtain ⟨m, ⟨o, es, ep, ho, r⟩, _⟩ := id I.loc
  obtain ⟨sl, hL⟩ := u.any ho I.free fun z => (hch _ z).2.1 rfl
  exact I.step (ch := ch) hch (fun b o hL hb hc e n => u.keep b o e n (fun z => (List.mem_cons.mp (I.stkSub b z)).elim hL hb) hc) (fun b o _ _ hc e n => u.any e n hc) (fun b o hc e n => u.free b o e n hc) (fun b o hc e => u.there b o e hc) u.tups u.frzs u.tbls (fun m' hm => by
    obtain ⟨o', es', ep', ho', r'⟩ := hm
    rw [ho] at ho'; cases ho'
    exact ⟨_, es', ep', hL, r'⟩) hok hg
theorem Inv.turned {t' : Nat} {it : Addr} (I : Inv X pins σ H s) (k : ∀ b o, b ≠ it → s.heap.get? b = some o → h'.get? b = some o) (hn : H it = none) (hL : it ≠ X.env.locals)
    (h1 : it ∈ X.ex ∨ X.s₀.heap.objs.size ≤ it) (h2 : ∀ x c, X.env.cells.lookup x = some c → c ≠ it) (h3 : ∀ p ∈ X.pn ++ pins, p.1 ≠ it) : Inv X pins σ H { s with heap := h', toks := t' } := by
  have nit : ∀ b u, H b = some u → b ≠ it := fun b u e z => by rw [z, hn] at e; cases e
  refine I.step (g' := s.gens) (d' := s.drawn) (ch := [it]) (fun b hb => ?_) (fun b o _ _ hc e _ => k b o (fun z => hc (by simp [z])) e) (fun b o _ _ hc e _ => ⟨o.slots, k b o (fun z => hc (by simp [z])) e⟩) (fun _ _ _ _ n => n)
    (fun b o hc e => ⟨o, k b o (fun z => hc (by simp [z])) e⟩) (fun _ _ e => e) (fun _ _ _ e => e) (fun b ps e => ⟨#[], by rw [e]; simp⟩) (fun m hm => ?_) (fun b u e => ?_) I.bare
  · have e : b = it := by simpa using hb
    subst e
    exact ⟨h1, hL, h2, h3⟩
  · obtain ⟨o, es, ep, ho, r⟩ := hm
    exact ⟨o, es, ep, k _ o (Ne.symm hL) ho, r⟩
  · refine (I.hok b u e).stay (fun c v hc q => k c v ?_ q) (fun _ q => q) fun _ _ q => q
    rcases hc with z | z
    · rw [z]; exact nit b u e
    · exact nit c _ z
theorem Inv.tok (I : Inv X pins σ H s) (t : Nat) : Inv X pins σ H { s with toks := t } := I.un (h' := s.heap) (t' := t) Un.refl I.hok
theorem Inv.kept {t' : Nat} (I : Inv X pins σ H s) (k : ∀ b u, s.heap.get? b = some u → h'.get? b = some u) : Inv X pins σ H { s with heap := h', toks := t' } := I.un (Un.kept k) (I.hok.kept k)
theorem Inv.laid {a : Addr} {o : HO} {t' : Nat} (I : Inv X pins σ H s) (k : ∀ b u, s.heap.get? b = some u → h'.get? b = some u) (hp : s.heap.objs.size ≤ a) (new : ObjOk X.prog X.w (upd H a o) h' a o) :
    Inv X pins σ (upd H a o) { s with heap := h', toks := t' } := I.un (Un.laid k hp (I.hok.fresh hp)) (I.hok.laid k hp new)
theorem Inv.write {x e : Addr} {o : HO} {t' : Nat} (I : Inv X pins σ H s) (mu : Mut (H x)) (he : e = x ∨ H e = some (.own x)) (k : ∀ b u, b ≠ e → s.heap.get? b = some u → h'.get? b = some u) (heo : ∃ u, h'.get? e = some u)
    (new : ObjOk X.prog X.w (upd H x o) h' x o) : Inv X pins σ (upd H x o) { s with heap := h', toks := t' } := I.un (Un.write mu he k heo) (I.hok.write mu he k heo new)
theorem Inv.weak {σ' : List (Option V)} (I : Inv X pins σ H s) (hl : σ'.length = σ.length) (w : ∀ (i : Nat) v, σ'[i]? = some (some v) → σ[i]? = some (some v)) : Inv X pins σ' H s :=
  ⟨I.ok, I.os, I.bare, I.base, let ⟨m, hn, hl'⟩ := I.loc; ⟨m, hn, fun i x v e1 e2 e3 => hl' i x v e1 (w i v e2) e3⟩, I.cell, I.free, I.freeC, I.pin, I.hok, hl.trans I.len⟩
theorem Inv.pins_of {pins' : List (Addr × Obj)} (I : Inv X pins σ H s) (h : ∀ p ∈ pins', s.heap.get? p.1 = some p.2 ∧ H p.1 = none ∧ p.1 ≠ X.env.locals ∧ p.1 ∉ X.fs ∧ ∀ v, p.2.data ≠ .cell v) : Inv X pins' σ H s :=
  ⟨I.ok, I.os, I.bare, I.base, I.loc, I.cell, I.free, I.freeC, fun p hp => (List.mem_append.mp hp).elim (fun z => I.pin p (List.mem_append_left _ z)) (h p), I.hok, I.len⟩
theorem nodup_ix {N : List Str} (hN : N.Nodup) {i j : Nat} {x : Str} (a : N[i]? = some x) (b : N[j]? = some x) : i = j := by
  obtain ⟨h1, e1⟩ := List.getElem?_eq_some_iff.mp a
  obtain ⟨h2, e2⟩ := List.getElem?_eq_some_iff.mp b
  exact (List.getElem_inj hN).mp (e1.trans e2.symm)
theorem store_ok2 {M : Model} {A : Around} {E : Value → Shared → Prop} {i : Nat} {x : Str} {v : V} {u : Value} {Q : Unit → Shared → Prop} (I : Inv X pins σ H s) (hN : X.N.Nodup) (hi : X.N[i]? = some x) (hx : Loc X.env.scope x) (r : RelV v u)
    (h : ∀ s', Inv X pins (σ.set i (some v)) H s' → (∃ a, Heap.SameBut a s.heap s'.heap ∧ (a = X.env.locals ∨ X.env.cells.lookup x = some a)) → Q () s') (hf : X.fn x = true ∨ X.env.scope.names.lookup x = some .local := by first | exact .inl rfl | exact .inr rfl | assumption) : wpAny M A (storeName X.env x u) Q E s := by
  obtain ⟨m, hn, hl⟩ := id I.loc
  have hcls : (X.env.scope.kind == .class || (X.env.scope.kind == .module && X.env.locals != X.env.globals)) = false := by rw [I.ok.kind]; rfl
  have hiσ : i < σ.length := by rw [I.len]; exact (List.getElem?_eq_some_iff.mp hi).1
  have cne := I.cne
  have tracked : ∀ {a : Addr} {h' : Heap}, (∃ o, s.heap.get? a = some o ∧ H a = none) → Heap.SameBut a s.heap h' → HOk X.prog X.w H h' := fun {a h'} ha hs b ob e => by
    obtain ⟨_, _, hfree⟩ := ha
    refine (I.hok b ob e).stay (fun c w' hc q => (hs.2 c ?_).trans q) (fun _ q => q) fun _ _ q => q
    rintro rfl
    rcases hc with rfl | hc
    · rw [hfree] at e; cases e
    · rw [hfree] at hc; cases hc
  rcases hx with hk | hk
  · refine wpAny_storeName_local hk hn (fun h' hn' hs => ?_) hcls
    obtain ⟨oL, _, _, hoL, _⟩ := id hn
    refine h _ ⟨I.ok, I.os, I.bare, ⟨fun b o e n hb hx => ?_, fun b o e n hb hx => ?_, I.base.free, fun b o e hx => ?_, I.base.tups, I.base.frzs, I.base.tbls⟩, ⟨_, hn', fun j y v' e1 e2 e3 => ?_⟩, fun y c e => ?_, I.free, I.freeC, fun p hp => ?_, tracked ⟨oL, hoL, I.free⟩ hs, by simpa using I.len⟩ ⟨_, hs, .inl rfl⟩
    · exact (hs.2 b (Nat.ne_of_lt (Nat.lt_of_lt_of_le (Heap.lt_size e) I.ok.above))).trans (I.base.keep b o e n hb hx)
    · obtain ⟨sl, e1⟩ := I.base.slot b o e n hb hx
      exact ⟨sl, (hs.2 b (Nat.ne_of_lt (Nat.lt_of_lt_of_le (Heap.lt_size e) I.ok.above))).trans e1⟩
    · obtain ⟨o', e1⟩ := I.base.there b o e hx
      exact ⟨o', (hs.2 b (Nat.ne_of_lt (Nat.lt_of_lt_of_le (Heap.lt_size e) I.ok.above))).trans e1⟩
    · by_cases hj : j = i
      · subst hj
        rw [hi] at e1; cases e1
        rw [List.getElem?_set_self hiσ] at e2
        cases e2
        exact ⟨u, r, .inl ⟨hk, by simp⟩⟩
      · rw [List.getElem?_set_ne (Ne.symm hj)] at e2
        obtain ⟨u', r', q⟩ := hl j y v' e1 e2 e3
        refine ⟨u', r', ?_⟩
        rcases q with ⟨k, e⟩ | ⟨k, c, e, z⟩
        · refine .inl ⟨k, ?_⟩
          have : y ≠ x := fun e => hj (nodup_ix hN e1 (e ▸ hi))
          simp [this, e]
        · exact .inr ⟨k, c, e, z.sameBut hs (cne y c e)⟩
    · obtain ⟨w', z⟩ := I.cell y c e
      exact ⟨w', z.sameBut hs (cne y c e)⟩
    · obtain ⟨e, n, ne, nf, d⟩ := I.pin p hp
      exact ⟨(hs.2 p.1 ne).trans e, n, ne, nf, d⟩
  · have hfn : X.fn x = true := by
      rcases hf with z | z
      · exact z
      · rw [z] at hk; cases hk
    obtain ⟨c, hc⟩ := I.ok.has x (.inl hk)
    obtain ⟨w', z⟩ := I.cell x c hc
    refine wpAny_storeName_cell I.ok.kind hk hc z (fun h' hc' hs => ?_)
    obtain ⟨oc, hoc, hocd⟩ := id z
    refine h { s with heap := h' } ⟨I.ok, I.os, I.bare, ⟨fun b o e n hb hx => ?_, fun b o e n hb hx => ?_, I.base.free, fun b o e hx => ?_, I.base.tups, I.base.frzs, I.base.tbls⟩, ⟨m, hn.sameBut hs (Ne.symm (cne x c hc)), fun j y v' e1 e2 e3 => ?_⟩, fun y c' e => ?_, I.free, I.freeC, fun p hp => ?_, tracked ⟨oc, hoc, I.freeC x c hc⟩ hs, by simpa using I.len⟩ ⟨c, hs, .inr hc⟩
    · exact (hs.2 b (Nat.ne_of_lt (Nat.lt_of_lt_of_le (Heap.lt_size e) (I.ok.cab x c hfn hc)))).trans (I.base.keep b o e n hb hx)
    · obtain ⟨sl, e1⟩ := I.base.slot b o e n hb hx
      exact ⟨sl, (hs.2 b (Nat.ne_of_lt (Nat.lt_of_lt_of_le (Heap.lt_size e) (I.ok.cab x c hfn hc)))).trans e1⟩
    · obtain ⟨o', e1⟩ := I.base.there b o e hx
      exact ⟨o', (hs.2 b (Nat.ne_of_lt (Nat.lt_of_lt_of_le (Heap.lt_size e) (I.ok.cab x c hfn hc)))).trans e1⟩
    · by_cases hj : j = i
      · subst hj
        rw [hi] at e1; cases e1
        rw [List.getElem?_set_self hiσ] at e2
        cases e2
        exact ⟨u, r, .inr ⟨.inl hk, c, hc, hc'⟩⟩
      · rw [List.getElem?_set_ne (Ne.symm hj)] at e2
        obtain ⟨u', r', q⟩ := hl j y v' e1 e2 e3
        refine ⟨u', r', ?_⟩
        rcases q with q | ⟨k, c', e, z'⟩
        · exact .inl q
        · refine .inr ⟨k, c', e, z'.sameBut hs ?_⟩
          rintro rfl
          exact hj (nodup_ix hN e1 (I.ok.inj _ _ _ e hc ▸ hi))
    · by_cases hcc : c' = c
      · subst hcc; exact ⟨_, hc'⟩
      · obtain ⟨w2, z2⟩ := I.cell y c' e
        exact ⟨w2, z2.sameBut hs hcc⟩
    · obtain ⟨e, n, ne, nf, d⟩ := I.pin p hp
      refine ⟨(hs.2 p.1 ?_).trans e, n, ne, nf, d⟩
      intro q
      rw [q, hoc] at e
      have q' : oc = p.2 := Option.some.inj e
      exact d w' (by rw [← q']; exact hocd)
theorem store_ok {M : Model} {A : Around} {E : Value → Shared → Prop} {i : Nat} {x : Str} {v : V} {u : Value} {Q : Unit → Shared → Prop} (I : Inv X pins σ H s) (hN : X.N.Nodup) (hi : X.N[i]? = some x) (hx : Loc X.env.scope x) (r : RelV v u)
    (h : ∀ s', Inv X pins (σ.set i (some v)) H s' → Q () s') (hf : X.fn x = true ∨ X.env.scope.names.lookup x = some .local := by first | exact .inl rfl | exact .inr rfl | assumption) : wpAny M A (storeName X.env x u) Q E s :=
  store_ok2 I hN hi hx r (fun s' I' _ => h s' I') hf
theorem Inv.call' {s' : Shared} {ch : List Addr} (I : Inv X pins σ H s) (ho : s'.os = s.os) (u : Un (frs X.stack) ch H H' s.heap s'.heap) (hok : HOk X.prog X.w H' s'.heap) (hg : AllBare s'.gens)
    (hch : ∀ b ∈ ch, (b ∈ X.ex ∨ X.s₀.heap.objs.size ≤ b) ∧ b ≠ X.env.locals ∧ (∀ x c, X.env.cells.lookup x = some c → c ≠ b) ∧ ∀ p ∈ X.pn ++ pins, p.1 ≠ b) : Inv X pins σ H' s' := by
  obtain ⟨h', g', d', t', o'⟩ := s'
  have e : o' = s.os := ho
  subst e
  exact I.call (g' := g') (t' := t') (d' := d') u hok hg hch
end
abbrev XK := Value → Option Addr → Hp → Prop
abbrev St := List (Option V)
abbrev VK := V → Hp → Prop
abbrev TE := St → Hp → VK → Prop
abbrev TT := St → Hp → (Bool → Hp → Prop) → Prop
abbrev TA := St → Hp → (List V → Hp → Prop) → Prop
structure Ends where
  nx : St → Hp → Prop
  rt : VK
  bk : St → Hp → Prop := fun _ _ => False
  ct : St → Hp → Prop := fun _ _ => False
abbrev TS := Ends → St → Hp → Prop
def EP (X : Cx) (pins : List (Addr × Obj)) (σ : St) (Q : VK) (u : Value) (s' : Shared) : Prop := ∃ v H', Inv X pins σ H' s' ∧ RelV v u ∧ Q v H'
def TP (X : Cx) (pins : List (Addr × Obj)) (σ : St) (Q : Bool → Hp → Prop) (b : Bool) (s' : Shared) : Prop := ∃ H', Inv X pins σ H' s' ∧ Q b H'
def AP (X : Cx) (pins : List (Addr × Obj)) (σ : St) (Q : List V → Hp → Prop) (us : List Value) (s' : Shared) : Prop := ∃ vs H', Inv X pins σ H' s' ∧ Vals vs us ∧ Q vs H'
def SP (X : Cx) (pins : List (Addr × Obj)) (D : Ends) (f : Flow) (s' : Shared) : Prop :=
  match f with
  | .next => ∃ σ' H', Inv X pins σ' H' s' ∧ D.nx σ' H'
  | .brk => ∃ σ' H', Inv X pins σ' H' s' ∧ D.bk σ' H'
  | .cont => ∃ σ' H', Inv X pins σ' H' s' ∧ D.ct σ' H'
  | .ret u => ∃ v σ' H', Inv X pins σ' H' s' ∧ RelV v u ∧ D.rt v H'
def PE (X : Cx) (e : Expr) (t : TE) : Prop :=
  ∀ (pins : List (Addr × Obj)) (s : Shared) (σ : St) (H : Hp) (Q : VK), Inv X pins σ H s → t σ H Q → wpAny (model X.prog X.w) X.A (eval e X.env) (EP X pins σ Q) X.xe s
def PT (X : Cx) (e : Expr) (t : TT) : Prop :=
  ∀ (pins : List (Addr × Obj)) (s : Shared) (σ : St) (H : Hp) (Q : Bool → Hp → Prop), Inv X pins σ H s → t σ H Q → wpAny (model X.prog X.w) X.A (isTrue e X.env (eval e X.env)) (TP X pins σ Q) X.xe s
def PW (X : Cx) (e : Expr) (t : TT) : Prop :=
  ∀ (whole : Sem Value) (pins : List (Addr × Obj)) (s : Shared) (σ : St) (H : Hp) (Q : Bool → Hp → Prop), Inv X pins σ H s → t σ H Q → wpAny (model X.prog X.w) X.A (isTrue e X.env whole) (TP X pins σ Q) X.xe s
theorem PW.pt {X : Cx} {e : Expr} {t : TT} (h : PW X e t) : PT X e t := h _
def PA (X : Cx) (es : List Expr) (t : TA) : Prop :=
  ∀ (pos : Pos) (pins : List (Addr × Obj)) (s : Shared) (σ : St) (H : Hp) (Q : List V → Hp → Prop), Inv X pins σ H s → t σ H Q → wpAny (model X.prog X.w) X.A (spliced (backTo pos (starEach es X.env))) (AP X pins σ Q) X.xe s
def PS (X : Cx) (st : Stmt) (t : TS) : Prop :=
  ∀ (pins : List (Addr × Obj)) (s : Shared) (σ : St) (H : Hp) (D : Ends), Inv X pins σ H s → t D σ H → wpAny (model X.prog X.w) X.A (exec st X.env) (SP X pins D) X.xe s
def PSs (X : Cx) (st : List Stmt) (t : TS) : Prop :=
  ∀ (pins : List (Addr × Obj)) (s : Shared) (σ : St) (H : Hp) (D : Ends), Inv X pins σ H s → t D σ H → wpAny (model X.prog X.w) X.A (execs st X.env) (SP X pins D) X.xe s
theorem thn {α : Type} {t : Sem α} {Q Q' : α → Shared → Prop} {M : Model} {A : Around} {E : Value → Shared → Prop} {s : Shared} (h : wpAny M A t Q E s) (hQ : ∀ a s, Q a s → Q' a s) : wpAny M A t Q' E s := wpAny_mono h hQ fun _ _ x => x
end L2
namespace L2
open PySem PySem.Spec PyProof.Rows
section
variable {X : Cx}
def tVar (i : Nat) : TE := fun σ H Q => ∃ v, σ[i]? = some (some v) ∧ Q v H
def tC (v : V) : TE := fun _ H Q => Q v H
theorem pe_var {i : Nat} {x : Str} {pos : Pos} (hN : X.N[i]? = some x) (hv : Vis X.env.scope x) (hd : (x == ("__debug__" : Str)) = false := by decide) (hcd : (x == ("__classdict__" : Str)) = false := by decide) : PE X (.Name x pos) (tVar i) := by
  intro pins s σ H Q I h
  obtain ⟨v, e, h⟩ := h
  obtain ⟨m, hn, hl⟩ := I.loc
  obtain ⟨u, r, l⟩ := hl i x v hN e hv
  have fin : EP X pins σ Q u s := ⟨v, H, I, r, h⟩
  rcases l with ⟨hk, hm⟩ | ⟨hk, c, hc, hcell⟩
  · exact wpAny_Name (wpAny_loadName_local I.ok.kind hk hn hm fin) hd
  · rcases hk with hk | hk
    · exact wpAny_Name (wpAny_loadName_cell I.ok.kind hk hc hcell fin) hd
    · exact wpAny_Name (wpAny_loadName_free I.ok.kind hk hc hcell fin hcd) hd
theorem pe_int {i j pos} : PE X (.Constant (.int i) j pos) (tC (.int i)) := fun _ _ _ H _ I h => wpAny_Constant_int ⟨.int i, H, I.tok _, ⟨_, rfl⟩, h⟩
theorem pe_bl {b j pos} : PE X (.Constant (.bool b) j pos) (tC (.bl b)) := fun _ _ _ H _ I h => Constant_bool ⟨.bl b, H, I, rfl, h⟩
theorem pe_non {j pos} : PE X (.Constant .none j pos) (tC .non) := fun _ _ _ H _ I h => Constant_none ⟨.non, H, I, rfl, h⟩
theorem pe_str {x j pos} : PE X (.Constant (.str x) j pos) (tC (.str x)) := fun _ _ _ H _ I h => Calls.Constant_str ⟨.str x, H, I.tok _, ⟨_, rfl⟩, h⟩
def Gl (X : Cx) (x : Str) : Prop := X.env.kindOf x = some .globalImplicit
theorem ld_glob {E : Value → Shared → Prop} {pins : List (Addr × Obj)} {s : Shared} {σ : St} {H : Hp} {x : Str} {u : Value} {pos : Pos} {Q : Value → Shared → Prop} (I : Inv X pins σ H s) (hg : Gl X x) (hm : X.mg x = some u) (h : Q u s)
    (hd : (x == ("__debug__" : Str)) = false := by decide) : wpAny (model X.prog X.w) X.A (eval (.Name x pos) X.env) Q E s :=
  Calls.Name_function_global I.ok.kind hg (Calls.loadGlobal_global (by rw [I.ok.glob]; exact I.mod.glob.keeps I.bk) hm h) hd
theorem ld_blt {E : Value → Shared → Prop} {pins : List (Addr × Obj)} {s : Shared} {σ : St} {H : Hp} {x : Str} {u : Value} {pos : Pos} {Q : Value → Shared → Prop} (I : Inv X pins σ H s) (hg : Gl X x) (hm : X.mg x = none) (hv : bootBuiltins x = some u) (h : Q u s)
    (hn : x ≠ "__name__" := by decide) (hd : (x == ("__debug__" : Str)) = false := by decide) : wpAny (model X.prog X.w) X.A (eval (.Name x pos) X.env) Q E s := by
  obtain ⟨mb, h1, h2⟩ := I.mod.blt
  exact Calls.Name_function_global I.ok.kind hg (Calls.loadGlobal_builtin (by rw [I.ok.glob]; exact I.mod.glob.keeps I.bk) hm (by rw [I.ok.blt]; exact h1.keeps I.bk) ((h2 x hn).trans hv) h) hd
theorem pe_glob {x : Str} {v : V} {u : Value} {pos : Pos} (hg : Gl X x) (hm : X.mg x = some u) (r : RelV v u) (hd : (x == ("__debug__" : Str)) = false := by decide) : PE X (.Name x pos) (tC v) :=
  fun _ _ _ H _ I h => ld_glob I hg hm ⟨v, H, I, r, h⟩ hd
theorem pe_bltn {x : Str} {v : V} {u : Value} {pos : Pos} (hg : Gl X x) (hm : X.mg x = none) (hv : bootBuiltins x = some u) (r : RelV v u) (hn : x ≠ "__name__" := by decide) (hd : (x == ("__debug__" : Str)) = false := by decide) : PE X (.Name x pos) (tC v) :=
  fun _ _ _ H _ I h => ld_blt I hg hm hv ⟨v, H, I, r, h⟩ hn hd
variable {a b : Expr} {ta tb : TE} {pos : Pos}
def tB (t : TE) : TT := fun σ H Q => t σ H fun x H1 => ∃ c, x = .bl c ∧ Q c H1
theorem pt_val {e : Expr} {t : TE} (h : PE X e t) (he : ∀ whole, isTrue e X.env whole = (do let v ← whole; standAt e.pos; holding [v] (truthy v)) := by intro _; rfl) : PT X e (tB t) := by
  intro pins s σ H Q I hw
  refine isTrue_plain (thn (h pins s σ H _ I hw) fun v s1 ⟨x, H1, I1, r1, q1⟩ => ?_) (he _)
  obtain ⟨d, rfl, q⟩ := q1
  cases r1
  exact wpAny_truthy_bool ⟨H1, I1, q⟩
variable {tA tB' : TT} {rest : List Expr}
def tAnd (t u : TT) : TT := fun σ H Q => t σ H fun c H1 => if c = true then u σ H1 Q else Q false H1
def tOr (t u : TT) : TT := fun σ H Q => t σ H fun c H1 => if c = true then Q true H1 else u σ H1 Q
def tNot (t : TT) : TT := fun σ H Q => t σ H fun c H1 => Q (!c) H1
theorem pw_and1 (ha : PT X a tA) : PW X (.BoolOp .And [a] pos) tA := by
  intro wh pins s σ H Q I h
  refine isTrue_and (thn (ha pins s σ H Q I h) fun c s1 e => ?_)
  cases c with
  | true => exact isTrue_and_nil e
  | false => exact e
theorem pw_or1 (ha : PT X a tA) : PW X (.BoolOp .Or [a] pos) tA := by
  intro wh pins s σ H Q I h
  refine isTrue_or (thn (ha pins s σ H Q I h) fun c s1 e => ?_)
  cases c with
  | false => exact isTrue_or_nil e
  | true => exact e
theorem pw_and (ha : PT X a tA) (hb : PW X (.BoolOp .And (b :: rest) pos) tB') : PW X (.BoolOp .And (a :: b :: rest) pos) (tAnd tA tB') := by
  intro wh pins s σ H Q I h
  refine isTrue_and (thn (ha pins s σ H _ I h) fun c s1 ⟨H1, I1, q1⟩ => ?_)
  cases c with
  | true => exact hb wh pins s1 σ H1 Q I1 q1
  | false => exact ⟨H1, I1, q1⟩
theorem pw_or (ha : PT X a tA) (hb : PW X (.BoolOp .Or (b :: rest) pos) tB') : PW X (.BoolOp .Or (a :: b :: rest) pos) (tOr tA tB') := by
  intro wh pins s σ H Q I h
  refine isTrue_or (thn (ha pins s σ H _ I h) fun c s1 ⟨H1, I1, q1⟩ => ?_)
  cases c with
  | true => exact ⟨H1, I1, q1⟩
  | false => exact hb wh pins s1 σ H1 Q I1 q1
theorem pt_not (ha : PT X a tA) : PT X (.UnaryOp .Not a pos) (tNot tA) := by
  intro pins s σ H Q I h
  exact isTrue_not (ha pins s σ H (fun c H1 => Q (!c) H1) I h)
def tAndV (ta tb : TE) : TE := fun σ H Q => ta σ H fun x H1 => ∃ c, x = .bl c ∧ if c = true then tb σ H1 Q else Q (.bl false) H1
def tOrV (ta tb : TE) : TE := fun σ H Q => ta σ H fun x H1 => ∃ c, x = .bl c ∧ if c = true then Q (.bl true) H1 else tb σ H1 Q
def tNotV (ta : TE) : TE := fun σ H Q => ta σ H fun x H1 => ∃ c, x = .bl c ∧ Q (.bl (!c)) H1
theorem pe_one {op} {t : TE} (h : PE X a t) : PE X (.BoolOp op [a] pos) t := fun pins s σ H Q I hw => BoolOp_one (h pins s σ H Q I hw)
theorem pe_and (ha : PE X a ta) (hb : PE X (.BoolOp .And (b :: rest) pos) tb) : PE X (.BoolOp .And (a :: b :: rest) pos) (tAndV ta tb) := by
  intro pins s σ H Q I h
  refine BoolOp_and (thn (ha pins s σ H _ I h) fun v s1 ⟨x, H1, I1, r1, q1⟩ => ?_)
  obtain ⟨c, rfl, q1⟩ := q1
  cases r1
  refine wpAny_truthy_bool ?_
  cases c with
  | true => exact hb pins s1 σ H1 Q I1 q1
  | false => exact ⟨.bl false, H1, I1, rfl, q1⟩
theorem pe_or (ha : PE X a ta) (hb : PE X (.BoolOp .Or (b :: rest) pos) tb) : PE X (.BoolOp .Or (a :: b :: rest) pos) (tOrV ta tb) := by
  intro pins s σ H Q I h
  refine BoolOp_or (thn (ha pins s σ H _ I h) fun v s1 ⟨x, H1, I1, r1, q1⟩ => ?_)
  obtain ⟨c, rfl, q1⟩ := q1
  cases r1
  refine wpAny_truthy_bool ?_
  cases c with
  | false => exact hb pins s1 σ H1 Q I1 q1
  | true => exact ⟨.bl true, H1, I1, rfl, q1⟩
theorem pe_not (ha : PE X a ta) : PE X (.UnaryOp .Not a pos) (tNotV ta) := by
  intro pins s σ H Q I h
  refine UnaryOp_ (thn (ha pins s σ H _ I h) fun v s1 ⟨x, H1, I1, r1, q1⟩ => ?_)
  obtain ⟨c, rfl, q1⟩ := q1
  cases r1
  exact not_of (wpAny_truthy_bool ⟨.bl (!c), H1, I1, rfl, q1⟩)
def tIf (t : TT) (ta tb : TE) : TE := fun σ H Q => t σ H fun c H1 => if c = true then ta σ H1 Q else tb σ H1 Q
end
end L2
namespace L2
open PySem PySem.Spec PyProof.Rows
def SqL (K : PySem.W.Frag) (H : Hp) (a : Addr) (xs : List V) : Prop :=
  Rd H a (.lst xs) ∨
    ∃ (o : Obj) (its : Array Value) (n : Nat), K.lookup a = some o ∧ o.cls = .type "list" ∧ o.dict = none ∧ o.data = .seq its n ∧ its.size ≤ sizeLine ∧ Vals xs its.toList
def SqT (K : PySem.W.Frag) (H : Hp) (a : Addr) (xs : List V) : Prop :=
  Rd H a (.tup xs) ∨
    ∃ (o : Obj) (its : Array Value) (n : Nat), K.lookup a = some o ∧ o.cls = .type "tuple" ∧ o.data = .seq its n ∧ its.size ≤ sizeLine ∧ Vals xs its.toList
def absV : Value → Option V
  | .none => some .non
  | .bool b => some (.bl b)
  | .int i _ => some (.int i)
  | .str x _ => some (.str x)
  | .bytes b _ => some (.byt b)
  | .float b _ => some (.flt b)
  | .ref a => some (.ref a)
  | .type n => some (.ty n)
  | _ => none
theorem RelV.abs {x : V} {u : Value} (r : RelV x u) : absV u = some x := by
  cases x with
  | non => cases r; rfl
  | bl _ => cases r; rfl
  | int _ => obtain ⟨t, rfl⟩ := r; rfl
  | str _ => obtain ⟨t, rfl⟩ := r; rfl
  | byt _ => obtain ⟨t, rfl⟩ := r; rfl
  | flt _ => obtain ⟨t, rfl⟩ := r; rfl
  | ref _ => cases r; rfl
  | ty _ => cases r; rfl
theorem RelV.inj {x y : V} {u : Value} (r : RelV x u) (q : RelV y u) : x = y := Option.some.inj (r.abs.symm.trans q.abs)
theorem Vals.inj : ∀ {xs ys : List V} {us : List Value}, Vals xs us → Vals ys us → xs = ys
  | _, _, _, .nil, .nil => rfl
  | _, _, _, .cons r t, .cons r' t' => by rw [r.inj r', Vals.inj t t']
section
variable {X : Cx} {pins : List (Addr × Obj)} {σ : St} {H : Hp} {s : Shared} {a : Addr} {xs ys : List V}
theorem SqL.of {K : PySem.W.Frag} (h : H a = some (.lst xs)) : SqL K H a xs := .inl (.inl h)
theorem SqT.of {K : PySem.W.Frag} (h : H a = some (.tup xs)) : SqT K H a xs := .inl (.inl h)
theorem Inv.list (I : Inv X pins σ H s) (h : SqL X.K H a xs) : ∃ its : List Value, Vals xs its ∧ PlainL s.heap a its.toArray ∧ xs.length ≤ sizeLine := by
  rcases h with h | ⟨o, its, n, hk, hc, hd, hs, hz, r⟩
  · obtain ⟨z, its, n, r, e⟩ := h.ok I.hok
    exact ⟨its, r, ⟨_, n, e, rfl, rfl, rfl⟩, z⟩
  · refine ⟨its.toList, r, ⟨o, n, I.kIn a o hk, hc, hd, by simpa using hs⟩, ?_⟩
    have e := r.length
    simp only [Array.length_toList] at e
    omega
theorem Inv.tuple (I : Inv X pins σ H s) (h : SqT X.K H a xs) : ∃ its : List Value, Vals xs its ∧ IsTup s.heap a its.toArray ∧ xs.length ≤ sizeLine := by
  rcases h with h | ⟨o, its, n, hk, hc, hs, hz, r⟩
  · obtain ⟨z, its, r, p⟩ := h.ok I.hok
    exact ⟨its, r, p, z⟩
  · refine ⟨its.toList, r, ⟨o, I.kIn a o hk, hc, n, by simpa using hs⟩, ?_⟩
    have e := r.length
    simp only [Array.length_toList] at e
    omega
theorem Inv.list_inj (I : Inv X pins σ H s) (h : SqL X.K H a xs) (h' : SqL X.K H a ys) : xs = ys := by
  obtain ⟨its, r, ⟨o, n, e, _, _, d⟩, _⟩ := I.list h
  obtain ⟨its', r', ⟨o', n', e', _, _, d'⟩, _⟩ := I.list h'
  rw [e] at e'; cases e'
  rw [d] at d'
  injection d' with d1 _
  have : its = its' := by simpa using congrArg Array.toList d1
  subst this
  exact r.inj r'
theorem Inv.tuple_inj (I : Inv X pins σ H s) (h : SqT X.K H a xs) (h' : SqT X.K H a ys) : xs = ys := by
  obtain ⟨its, r, ⟨o, e, _, n, d⟩, _⟩ := I.tuple h
  obtain ⟨its', r', ⟨o', e', _, n', d'⟩, _⟩ := I.tuple h'
  rw [e] at e'; cases e'
  rw [d] at d'
  injection d' with d1 _
  have : its = its' := by simpa using congrArg Array.toList d1
  subst this
  exact r.inj r'
end
abbrev Cx.wish (X : Cx) (E : Value → Shared → Prop) : Cx := { X with xe := E }
abbrev Cx.nox (X : Cx) : Cx := X.wish fun _ _ => False
theorem Cx.Ok.wish {X : Cx} (ok : X.Ok) (E : Value → Shared → Prop) : (X.wish E).Ok :=
  ⟨ok.mod, ok.kind, ok.glob, ok.blt, ok.above, ok.inj, ok.has, ok.cab, ok.hd, ok.frames, ok.stk, ok.exf, ok.bs, ok.bsz, ok.noex, ok.exfs, ok.funs, ok.frf⟩
theorem Cx.Ok.unwish {X : Cx} {E : Value → Shared → Prop} (ok : (X.wish E).Ok) : X.Ok :=
  ⟨ok.mod, ok.kind, ok.glob, ok.blt, ok.above, ok.inj, ok.has, ok.cab, ok.hd, ok.frames, ok.stk, ok.exf, ok.bs, ok.bsz, ok.noex, ok.exfs, ok.funs, ok.frf⟩
section
variable {X : Cx} {pins : List (Addr × Obj)} {σ : St} {H : Hp} {s : Shared} {E : Value → Shared → Prop}
theorem Inv.wish (I : Inv X pins σ H s) (E : Value → Shared → Prop) : Inv (X.wish E) pins σ H s := ⟨I.ok.wish E, I.os, I.bare, I.base, I.loc, I.cell, I.free, I.freeC, I.pin, I.hok, I.len⟩
theorem Inv.unwish (I : Inv (X.wish E) pins σ H s) : Inv X pins σ H s := ⟨I.ok.unwish, I.os, I.bare, I.base, I.loc, I.cell, I.free, I.freeC, I.pin, I.hok, I.len⟩
theorem SP.unwish {D : Ends} {f : Flow} {s' : Shared} (h : SP (X.wish E) pins D f s') : SP X pins D f s' := by
  cases f with
  | next => obtain ⟨σ', H', I, q⟩ := h; exact ⟨σ', H', I.unwish, q⟩
  | brk => obtain ⟨σ', H', I, q⟩ := h; exact ⟨σ', H', I.unwish, q⟩
  | cont => obtain ⟨σ', H', I, q⟩ := h; exact ⟨σ', H', I.unwish, q⟩
  | ret u => obtain ⟨v, σ', H', I, r, q⟩ := h; exact ⟨v, σ', H', I.unwish, r, q⟩
theorem PSs.nox {st : List Stmt} {t : TS} (h : PSs X.nox st t) : PSs X st t := fun pins s σ H D I hw =>
  wpAny_mono (h pins s σ H D (I.wish _) hw) (fun _ _ q => q.unwish) fun _ _ z => False.elim z
end
section
variable {X : Cx} {st : Stmt} {rest : List Stmt} {t u : TS} {e : Expr} {te : TE} {pos : Pos}
def tNext : TS := fun D σ H => D.nx σ H
def tSeq (t u : TS) : TS := fun D σ H => t { D with nx := u D } σ H
theorem pss_nil : PSs X [] tNext := fun _ _ σ H _ I h => wpAny_execs_nil ⟨σ, H, I, h⟩
theorem pss_cons (h1 : PS X st t) (h2 : PSs X rest u) : PSs X (st :: rest) (tSeq t u) := by
  intro pins s σ H D I h
  refine wpAny_execs_cons (thn (h1 pins s σ H { D with nx := u D } I h) fun f s1 q => ?_)
  cases f with
  | next =>
    obtain ⟨σ', H', I', q⟩ := q
    exact h2 pins s1 σ' H' D I' q
  | ret v => exact q
  | brk => exact q
  | cont => exact q
theorem pss_one (h1 : PS X st t) : PSs X [st] t := by
  intro pins s σ H D I h
  refine wpAny_execs_cons (thn (h1 pins s σ H D I h) fun f s1 q => ?_)
  cases f with
  | next => exact wpAny_execs_nil q
  | ret v => exact q
  | brk => exact q
  | cont => exact q
theorem Inv.quiet {pins : List (Addr × Obj)} {σ : St} {H : Hp} {s : Shared} (I : Inv X pins σ H s) : interactive X.env = false := by simp [interactive, I.ok.kind]
def tDrop (te : TE) : TS := fun D σ H => te σ H fun _ H1 => D.nx σ H1
theorem ps_expr (he : PE X e te) (hs : swapsWith e none pos.line X.env = pure false := by rfl) : PS X (.Expr e pos) (tDrop te) := by
  intro pins s σ H D I h
  exact wpAny_Expr_any (thn (he pins s σ H _ I h) fun v s1 ⟨x, H1, I1, r1, q1⟩ => ⟨σ, H1, I1, q1⟩) I.quiet hs
def tRet (te : TE) : TS := fun D σ H => te σ H D.rt
theorem ps_ret (he : PE X e te) : PS X (.Return (some e) pos) (tRet te) := by
  intro pins s σ H D I h
  exact wpAny_Return_some (thn (he pins s σ H _ I h) fun v s1 ⟨x, H1, I1, r1, q1⟩ => ⟨x, σ, H1, I1, r1, q1⟩)
def tRetN : TS := fun D _ H => D.rt .non H
def tIfS (c : TT) (t u : TS) : TS := fun D σ H => c σ H fun b H1 => if b = true then t D σ H1 else u D σ H1
theorem ps_if {c : Expr} {a b : List Stmt} {tc : TT} (hc : PT X c tc) (ha : PSs X a t) (hb : PSs X b u) : PS X (.If c a b pos) (tIfS tc t u) := by
  intro pins s σ H D I h
  refine wpAny_If (thn (hc pins s σ H _ I h) fun d s1 ⟨H1, I1, q1⟩ => ?_)
  cases d with
  | true => exact ha pins s1 σ H1 D I1 q1
  | false => exact hb pins s1 σ H1 D I1 q1
def tNever : TS := fun _ _ _ => False
theorem ps_never : PS X st tNever := fun _ _ _ _ _ _ h => h.elim
end
abbrev TG := V → St → Hp → (St → Hp → Prop) → Prop
abbrev TGs := List V → St → Hp → (St → Hp → Prop) → Prop
def PG (X : Cx) (target : Expr) (t : TG) : Prop :=
  ∀ (pins : List (Addr × Obj)) (s : Shared) (σ : St) (H : Hp) (v : V) (u : Value) (Q : St → Hp → Prop), Inv X pins σ H s → RelV v u → t v σ H Q →
    wpAny (model X.prog X.w) X.A (assign target X.env u) (fun _ s' => ∃ σ' H', Inv X pins σ' H' s' ∧ Q σ' H') X.xe s
def PGs (X : Cx) (ts : List Expr) (t : TGs) : Prop :=
  ∀ (pins : List (Addr × Obj)) (s : Shared) (σ : St) (H : Hp) (vs : List V) (us : List Value) (Q : St → Hp → Prop), Inv X pins σ H s → Vals vs us → t vs σ H Q →
    wpAny (model X.prog X.w) X.A (assignInOrder ((assignEach ts X.env).map (·.2)) us) (fun _ s' => ∃ σ' H', Inv X pins σ' H' s' ∧ Q σ' H') X.xe s
abbrev TSet := V → V → V → Hp → (Hp → Prop) → Prop
def PSet (X : Cx) (t : TSet) : Prop :=
  ∀ (pins : List (Addr × Obj)) (s : Shared) (σ : St) (H : Hp) (o i v : V) (ov iv u : Value) (Q : Hp → Prop), Inv X pins σ H s → RelV o ov → RelV i iv → RelV v u → t o i v H Q →
    wpAny (model X.prog X.w) X.A (setItem ov iv u) (fun _ s' => ∃ H', Inv X pins σ H' s' ∧ Q H') X.xe s
abbrev TIp := V → V → Hp → VK → Prop
def PIp (X : Cx) (op : Operator) (t : TIp) : Prop :=
  ∀ (pins : List (Addr × Obj)) (s : Shared) (σ : St) (H : Hp) (x y : V) (v u : Value) (Q : VK), Inv X pins σ H s → RelV x v → RelV y u → t x y H Q →
    wpAny (model X.prog X.w) X.A (inplaceOp op v u) (EP X pins σ Q) X.xe s
section
variable {X : Cx} {pos : Pos}
def gName (i : Nat) : TG := fun v σ H Q => Q (σ.set i (some v)) H
theorem pg_name {i : Nat} {x : Str} (hN : X.N.Nodup) (hi : X.N[i]? = some x) (hx : Loc X.env.scope x) (hf : X.fn x = true ∨ X.env.scope.names.lookup x = some .local := by first | exact .inl rfl | exact .inr rfl | assumption) : PG X (.Name x pos) (gName i) := by
  intro pins s σ H v u Q I r h
  exact wpAny_assign_Name (store_ok I hN hi hx r (fun s' I' => ⟨_, H, I', h⟩) hf)
def gNil : TGs := fun vs σ H Q => vs = [] ∧ Q σ H
def gCons (t : TG) (u : TGs) : TGs := fun vs σ H Q => ∃ v r, vs = v :: r ∧ t v σ H fun σ' H' => u r σ' H' Q
theorem pgs_nil : PGs X [] gNil := by
  intro pins s σ H vs us Q I r h
  obtain ⟨e, h⟩ := h
  subst e
  cases r
  exact assignInOrder_nil ⟨σ, H, I, h⟩
theorem pgs_cons {e : Expr} {es : List Expr} {t : TG} {u : TGs} (h1 : PG X e t) (h2 : PGs X es u)
    (hs : (assignEach (e :: es) X.env).map (·.2) = assign e X.env :: (assignEach es X.env).map (·.2) := by rfl) : PGs X (e :: es) (gCons t u) := by
  intro pins s σ H vs us Q I r h
  obtain ⟨v, vr, e1, h⟩ := h
  subst e1
  cases r with
  | cons r rr =>
    rw [hs]
    refine assignInOrder_cons (thn (h1 pins s σ H _ _ _ I r h) fun _ s1 ⟨σ1, H1, I1, q1⟩ => ?_)
    exact h2 pins s1 σ1 H1 _ _ Q I1 rr q1
def gTup (K : PySem.W.Frag) (n : Nat) (t : TGs) : TG := fun v σ H Q => ∃ a xs, v = .ref a ∧ SqT K H a xs ∧ xs.length = n ∧ t xs σ H Q
theorem pg_tup {es : List Expr} {k : Nat} {t : TGs} {n : Nat} (hc : X.calm = true) (h : PGs X es t)
    (hn : (assignEach es X.env).length = n := by rfl) (hst : (assignEach es X.env).findIdx? (·.1) = none := by rfl) : PG X (.Tuple es k pos) (gTup X.K n t) := by
  intro pins s σ H v u Q I r hw
  obtain ⟨a, xs, e1, hq, hl, hw⟩ := hw
  subst e1
  cases r
  obtain ⟨its, rv, ht, hz⟩ := I.tuple hq
  refine assign_Tuple_tuple (I.ok.hd hc) ht (by simp [hn, ← hl, rv.length]) hst fun h' hx => ?_
  have I1 : Inv X pins σ H { s with heap := h' } := I.kept (t' := s.toks) fun b o e => hx b o (Nat.ne_of_lt (Heap.lt_size e)) e
  exact h pins _ σ H xs _ Q I1 (by simpa using rv) hw
def gSub (to ti : TE) (t : TSet) : TG := fun v σ H Q => to σ H fun o H1 => ti σ H1 fun i H2 => t o i v H2 fun H3 => Q σ H3
theorem pg_sub {o i : Expr} {to ti : TE} {t : TSet} (ho : PE X o to) (hi : PE X i ti) (hs : PSet X t)
    (ha : ∀ v, assign (.Subscript o i pos) X.env v = (do
      let ov ← holding [v] (eval o X.env)
      let iv ← holding [v, ov] (eval i X.env)
      standAt pos
      holding [v, ov, iv] (setItem ov iv v)
      release [v, ov, iv] []) := by intro _; rfl) : PG X (.Subscript o i pos) (gSub to ti t) := by
  intro pins s σ H v u Q I r h
  rw [ha]
  refine wpAny_bind (wpAny_holding (thn (ho pins s σ H _ I h) fun ov s1 ⟨x, H1, I1, r1, q1⟩ => ?_))
  refine wpAny_bind (wpAny_holding (thn (hi pins s1 σ H1 _ I1 q1) fun iv s2 ⟨y, H2, I2, r2, q2⟩ => ?_))
  refine wpAny_bind (wpAny_standAt (wpAny_bind (wpAny_holding (thn (hs pins s2 σ H2 x y v ov iv u _ I2 r1 r2 r q2) fun _ s3 ⟨H3, I3, q3⟩ => ?_))))
  exact wpAny_release ⟨σ, H3, I3, q3⟩
def tAsg (te : TE) (g : TG) : TS := fun D σ H => te σ H fun x H1 => g x σ H1 D.nx
theorem ps_asg {tg e : Expr} {te : TE} {g : TG} (he : PE X e te) (hg : PG X tg g) (hs : swapsWithSole [tg] e pos.line X.env = pure false := by rfl) (hw : swappedStores [tg] e X.env = pure none := by rfl)
    (h1 : (assignEach [tg] X.env).map (·.2) = [assign tg X.env] := by rfl) : PS X (.Assign [tg] e pos) (tAsg te g) := by
  intro pins s σ H D I h
  refine wpAny_Assign_stores (thn (he pins s σ H _ I h) fun v s1 ⟨x, H1, I1, r1, q1⟩ => ?_) hs hw
  rw [h1]
  exact thn (hg pins s1 σ H1 x v _ I1 r1 q1) fun _ s2 q => q
theorem ps_set {i : Nat} {x : Str} {e : Expr} {te : TE} {pos' : Pos} (hN : X.N.Nodup) (hi : X.N[i]? = some x) (hx : Loc X.env.scope x) (he : PE X e te) (hs : swapsWith e (some (.Name x pos')) pos.line X.env = pure false := by rfl) (hf : X.fn x = true ∨ X.env.scope.names.lookup x = some .local := by first | exact .inl rfl | exact .inr rfl | assumption) :
    PS X (.Assign [.Name x pos'] e pos) (tAsg te (gName i)) := by
  intro pins s σ H D I h
  refine wpAny_Assign_Name (thn (he pins s σ H _ I h) fun v s1 ⟨y, H1, I1, r1, q1⟩ => ?_) hs
  exact store_ok I1 hN hi hx r1 (fun s2 I2 => ⟨_, H1, I2, q1⟩) hf
def tAug (i : Nat) (te : TE) (ti : TIp) : TS := fun D σ H => ∃ x, σ[i]? = some (some x) ∧ te σ H fun y H1 => ti x y H1 fun z H2 => D.nx (σ.set i (some z)) H2
theorem ps_aug {i : Nat} {x : Str} {e : Expr} {te : TE} {op : Operator} {ti : TIp} {pos' : Pos} (hN : X.N.Nodup) (hi : X.N[i]? = some x) (hx : Loc X.env.scope x) (he : PE X e te) (ho : PIp X op ti) (hf : X.fn x = true ∨ X.env.scope.names.lookup x = some .local := by first | exact .inl rfl | exact .inr rfl | assumption) :
    PS X (.AugAssign (.Name x pos') op e pos) (tAug i te ti) := by
  intro pins s σ H D I h
  obtain ⟨v, e1, h⟩ := h
  obtain ⟨m, hn, hl⟩ := I.loc
  have vis : Vis X.env.scope x := by rcases hx with k | k; exact .inl k; exact .inr (.inl k)
  obtain ⟨u, r, l⟩ := hl i x v hi e1 vis
  refine wpAny_AugAssign_Name ?_
  have go : wpAny (model X.prog X.w) X.A (eval e X.env) (fun w s₂ => wpAny (model X.prog X.w) X.A (inplaceOp op u w) (fun r s₃ => wpAny (model X.prog X.w) X.A (storeName X.env x r) (fun _ => SP X pins D .next) X.xe s₃) X.xe s₂) X.xe s := by
    refine thn (he pins s σ H _ I h) fun w s1 ⟨y, H1, I1, r1, q1⟩ => ?_
    refine thn (ho pins s1 σ H1 v y u w _ I1 r r1 q1) fun z s2 ⟨zv, H2, I2, r2, q2⟩ => ?_
    exact store_ok I2 hN hi hx r2 (fun s3 I3 => ⟨_, H2, I3, q2⟩) hf
  rcases l with ⟨hk, hm⟩ | ⟨hk, c, hc, hcell⟩
  · exact wpAny_loadName_local I.ok.kind hk hn hm go
  · rcases hk with hk | hk
    · exact wpAny_loadName_cell I.ok.kind hk hc hcell go
    · rcases hx with k | k
      · have : X.env.scope.names.lookup x = some .free := hk
        rw [k] at this; cases this
      · have : X.env.scope.names.lookup x = some .free := hk
        rw [k] at this; cases this
def ipI (f : Int → Int → Int) : TIp := fun x y H Q => ∃ i j, x = .int i ∧ y = .int j ∧ Q (.int (f i j)) H
theorem ip_add : PIp X .Add (ipI fun i j => i + j) := by
  intro pins s σ H x y v u Q I r1 r2 h
  obtain ⟨i, j, e1, e2, q⟩ := h
  subst e1; subst e2
  obtain ⟨t, rfl⟩ := r1
  obtain ⟨t', rfl⟩ := r2
  exact iadd_int ⟨.int _, H, I.tok _, ⟨_, rfl⟩, q⟩
end
section
variable {X : Cx} {pos : Pos}
end
structure It where
  go : Nat → Hp → Prop
  yld : Nat → Hp → V → Hp → Prop
  stop : Nat → Hp → Prop
def FpOk (X : Cx) (pins : List (Addr × Obj)) (H : Hp) (b : Addr) : Prop :=
  H b = none ∧ b ≠ X.env.locals ∧ b ∉ X.fs ∧ (b ∈ X.ex ∨ X.s₀.heap.objs.size ≤ b) ∧ (∀ x c, X.env.cells.lookup x = some c → c ≠ b) ∧ ∀ p ∈ X.pn ++ pins, p.1 ≠ b
theorem Inv.fpOk {X : Cx} {pins : List (Addr × Obj)} {σ : St} {H H' : Hp} {s : Shared} {b : Addr} (I : Inv X pins σ H s) (hb : s.heap.objs.size ≤ b) (hn : H' b = none) : FpOk X pins H' b := by
  refine ⟨hn, Nat.ne_of_gt (Nat.lt_of_lt_of_le I.lt hb), I.nofs hb, .inr (Nat.le_trans I.sz hb), fun x c e z => ?_, fun p hp z => ?_⟩
  · obtain ⟨v, q⟩ := I.cell x c e
    exact absurd (Nat.lt_of_lt_of_le q.lt (by rw [z]; exact hb)) (Nat.lt_irrefl _)
  · exact absurd (Nat.lt_of_lt_of_le (Heap.lt_size (I.pin p hp).1) (by rw [z]; exact hb)) (Nat.lt_irrefl _)
structure Turn (P : Program) (w : World) (K : PySem.W.Frag) (tg : Expr) (J : It) (fp : List Addr) (it : Addr) (tn : Nat → Heap → Prop) : Prop where
  mem : it ∈ fp
  obj : ∀ i h, tn i h → ∀ b ∈ fp, ∃ o, h.get? b = some o ∧ ∀ v, o.data ≠ .cell v
  keep : ∀ i h h', tn i h → (∀ b ∈ fp, ∀ o, h.get? b = some o → h'.get? b = some o) → tn i h'
  item : ∀ (X : Cx), X.prog = P → X.w = w → X.K = K → X.calm = true → ∀ (i : Nat) (pins : List (Addr × Obj)) (s : Shared) (σ : St) (H : Hp) (E : Value → Shared → Prop), Inv X pins σ H s → (∀ b ∈ fp, FpOk X pins H b) → tn i s.heap → J.go i H →
    wpAny (model P w) X.A (pyNext (.ref it)) (fun r s1 => ∃ u, r = some u ∧
      wpAny (model P w) X.A (letOwnedTupleGo tg (.ref it) u) (fun _ s2 => ∃ x H', Inv X pins σ H' s2 ∧ RelV x u ∧ J.yld i H x H' ∧ tn (i + 1) s2.heap ∧ ∀ b ∈ fp, H' b = none) E s1) E s
  done : ∀ (X : Cx), X.prog = P → X.w = w → X.K = K → X.calm = true → ∀ (i : Nat) (pins : List (Addr × Obj)) (s : Shared) (σ : St) (H : Hp) (E : Value → Shared → Prop), Inv X pins σ H s → (∀ b ∈ fp, FpOk X pins H b) → tn i s.heap → J.stop i H →
    wpAny (model P w) X.A (pyNext (.ref it)) (fun r s1 => r = none ∧ Inv X pins σ H s1) E s
  self : ∀ (A : Around) (i : Nat) (s : Shared) (Q : Value → Shared → Prop) (E : Value → Shared → Prop), tn i s.heap → Q (.ref it) s → wpAny (model P w) A (pyIter (.ref it)) Q E s
abbrev TI := St → Hp → (It → Hp → Prop) → Prop
def PIE (X : Cx) (pins : List (Addr × Obj)) (σ : St) (tg : Expr) (R : It → Hp → Prop) (itv : Value) (s2 : Shared) : Prop :=
  ∃ (it : Addr) (fp : List Addr) (tn : Nat → Heap → Prop) (J : It) (H' : Hp), itv = .ref it ∧ Inv X pins σ H' s2 ∧ Turn X.prog X.w X.K tg J fp it tn ∧ tn 0 s2.heap ∧ (∀ b ∈ fp, FpOk X pins H' b) ∧ R J H'
def PI (X : Cx) (tg iter : Expr) (wi : TI) : Prop :=
  ∀ (pins : List (Addr × Obj)) (s : Shared) (σ : St) (H : Hp) (R : It → Hp → Prop), Inv X pins σ H s → wi σ H R →
    wpAny (model X.prog X.w) X.A (eval iter X.env) (fun v s1 => wpAny (model X.prog X.w) X.A (pyIter v) (PIE X pins σ tg R) X.xe s1) X.xe s
theorem go_of {M : Model} {A : Around} {E : Value → Shared → Prop} {s : Shared} {tg : Expr} {it : Addr} {u : Value} {o : Obj} {n : String} {vs : Array Value} {Q : Unit → Shared → Prop} (ho : s.heap.get? it = some o) (hc : o.cls = .type n) (hd : o.data = .fields vs)
    (hn : ["enumerate", "zip", "dict_itemiterator", "dict_reverseitemiterator", "odict_iterator", "itertools.zip_longest", "itertools.pairwise"].contains n = false) (hQ : Q () s) : wpAny M A (letOwnedTupleGo tg (.ref it) u) Q E s := by
  unfold letOwnedTupleGo
  cases tg <;> first
    | exact wpAny_pure hQ
    | (cases u <;> first
        | exact wpAny_pure hQ
        | (refine wpAny_bind (wpAny_load ho ?_)
           rw [hc, hd]
           show wpAny M A (if (["enumerate", "zip", "dict_itemiterator", "dict_reverseitemiterator", "odict_iterator", "itertools.zip_longest", "itertools.pairwise"].contains n && vs[0]? == some (rawInt _)) = true then _ else _) Q E s
           rw [if_neg (by intro h; rw [hn, Bool.false_and] at h; cases h)]
           exact wpAny_pure hQ))
def Itl (K : PySem.W.Frag) (a : Addr) : It :=
  ⟨fun i H => ∃ xs x, SqL K H a xs ∧ xs[i]? = some x, fun i H x H' => H' = H ∧ ∀ xs, SqL K H a xs → xs[i]? = some x, fun i H => ∃ xs, SqL K H a xs ∧ xs.length ≤ i⟩
def Itt (K : PySem.W.Frag) (a : Addr) : It :=
  ⟨fun i H => ∃ xs x, SqT K H a xs ∧ xs[i]? = some x, fun i H x H' => H' = H ∧ ∀ xs, SqT K H a xs → xs[i]? = some x, fun i H => ∃ xs, SqT K H a xs ∧ xs.length ≤ i⟩
def Itr (lo : Int) (n : Nat) : It := ⟨fun i _ => i < n, fun i H x H' => H' = H ∧ x = .int (lo + i), fun i _ => n ≤ i⟩
theorem turn_list {P : Program} {w : World} {K : PySem.W.Frag} {tg : Expr} (a it : Addr) : Turn P w K tg (Itl K a) [it] it (fun i h => h.IsListIter it a i) where
  mem := by simp
  obj := fun i h st b hb => by
    have e : b = it := by simpa using hb
    subst e
    obtain ⟨o, e, c, d⟩ := st
    exact ⟨o, e, fun v z => by rw [d] at z; cases z⟩
  keep := fun i h h' st k => st.at fun o e => k it (by simp) o e
  item := by
    intro X hP hw hK hc i pins s σ H E I hf st hg
    subst hP hw hK
    obtain ⟨xs, x, hq, hx⟩ := hg
    obtain ⟨its, rv, p, hz⟩ := I.list hq
    obtain ⟨u, hu, ru⟩ := rv.get hx
    obtain ⟨f0, f1, f2, f3, f4, f5⟩ := hf it (by simp)
    refine wpAny_pyNext_list_item st p.isList (x := u) (by simpa using hu) fun h' st' sb => ?_
    have I1 : Inv X pins σ H { s with heap := h' } := I.turned (t' := s.toks) (fun b o hb e => (sb.2 b hb).trans e) f0 f1 f3 f4 f5
    obtain ⟨o, e, c, d⟩ := id st'
    exact ⟨u, rfl, go_of (s := { s with heap := h' }) e c d (by decide) ⟨x, H, I1, ru, ⟨rfl, fun ys hy => by rw [I.list_inj hy hq]; exact hx⟩, st', fun b hb => (hf b hb).1⟩⟩
  done := by
    intro X hP hw hK hc i pins s σ H E I hf st hg
    subst hP hw hK
    obtain ⟨xs, hq, hx⟩ := hg
    obtain ⟨its, rv, p, hz⟩ := I.list hq
    obtain ⟨f0, f1, f2, f3, f4, f5⟩ := hf it (by simp)
    have hl := rv.length
    exact wpAny_pyNext_list_end (I.ok.hd hc) st p.isList (by simp; omega) fun h' eb => ⟨rfl, I.turned (t' := s.toks) (fun b o hb e => eb b o hb e) f0 f1 f3 f4 f5⟩
  self := fun _ _ _ _ _ st h => wpAny_pyIter_listiter st h
theorem turn_tuple {P : Program} {w : World} {K : PySem.W.Frag} {tg : Expr} (a it : Addr) : Turn P w K tg (Itt K a) [it] it (fun i h => h.IsTupleIter it a i) where
  mem := by simp
  obj := fun i h st b hb => by
    have e : b = it := by simpa using hb
    subst e
    obtain ⟨o, e, c, d⟩ := st
    exact ⟨o, e, fun v z => by rw [d] at z; cases z⟩
  keep := fun i h h' st k => st.at fun o e => k it (by simp) o e
  item := by
    intro X hP hw hK hc i pins s σ H E I hf st hg
    subst hP hw hK
    obtain ⟨xs, x, hq, hx⟩ := hg
    obtain ⟨its, rv, p, hz⟩ := I.tuple hq
    obtain ⟨u, hu, ru⟩ := rv.get hx
    obtain ⟨f0, f1, f2, f3, f4, f5⟩ := hf it (by simp)
    refine wpAny_pyNext_tuple_item st (show s.heap.IsTuple a its.toArray from p) (x := u) (by simpa using hu) fun h' st' sb => ?_
    have I1 : Inv X pins σ H { s with heap := h' } := I.turned (t' := s.toks) (fun b o hb e => (sb.2 b hb).trans e) f0 f1 f3 f4 f5
    obtain ⟨o, e, c, d⟩ := id st'
    exact ⟨u, rfl, go_of (s := { s with heap := h' }) e c d (by decide) ⟨x, H, I1, ru, ⟨rfl, fun ys hy => by rw [I.tuple_inj hy hq]; exact hx⟩, st', fun b hb => (hf b hb).1⟩⟩
  done := by
    intro X hP hw hK hc i pins s σ H E I hf st hg
    subst hP hw hK
    obtain ⟨xs, hq, hx⟩ := hg
    obtain ⟨its, rv, p, hz⟩ := I.tuple hq
    obtain ⟨f0, f1, f2, f3, f4, f5⟩ := hf it (by simp)
    have hl := rv.length
    exact wpAny_pyNext_tuple_end (I.ok.hd hc) st (show s.heap.IsTuple a its.toArray from p) (by simp; omega) fun h' eb => ⟨rfl, I.turned (t' := s.toks) (fun b o hb e => eb b o hb e) f0 f1 f3 f4 f5⟩
  self := fun _ _ _ _ _ st h => wpAny_pyIter_tupleiter st h
theorem turn_range {P : Program} {w : World} {K : PySem.W.Frag} {tg : Expr} (it : Addr) (lo : Int) (n : Nat) : Turn P w K tg (Itr lo n) [it] it (fun i h => IsRangeIter h it (lo + (i : Nat) * 1) ((n : Int) - (i : Nat)) 1) where
  mem := by simp
  obj := fun i h st b hb => by
    have e : b = it := by simpa using hb
    subst e
    exact ⟨_, st, fun v z => by
      have z' : Data.fields _ = Data.cell v := z
      cases z'⟩
  keep := fun i h h' st k => k it (by simp) _ st
  item := by
    intro X hP hw hK hc i pins s σ H E I hf st hg
    subst hP hw hK
    obtain ⟨f0, f1, f2, f3, f4, f5⟩ := hf it (by simp)
    have W := Walks.range (prog := X.prog) (w := X.w) (I.ok.hd hc) it lo 1 n
    refine W.item i s _ _ hg st fun v h' tk hv st' kk => ?_
    obtain ⟨t, rfl⟩ := hv
    have I1 : Inv X pins σ H { s with heap := h', toks := tk } := I.turned (fun b o hb e => kk b o (by simpa using hb) e) f0 f1 f3 f4 f5
    refine ⟨_, rfl, go_of (s := { s with heap := h', toks := tk }) (n := "range_iterator") st' rfl rfl (by decide) ⟨.int (lo + i), H, I1, ⟨t, ?_⟩, ⟨rfl, rfl⟩, st', fun b hb => (hf b hb).1⟩⟩
    rw [Int.mul_one]
  done := by
    intro X hP hw hK hc i pins s σ H E I hf st hg
    subst hP hw hK
    obtain ⟨f0, f1, f2, f3, f4, f5⟩ := hf it (by simp)
    exact wpAny_pyNext_range_end (I.ok.hd hc) st (by have : n ≤ i := hg; omega) fun h' eb => ⟨rfl, I.turned (t' := s.toks) (fun b o hb e => eb b o hb e) f0 f1 f3 f4 f5⟩
  self := fun _ _ _ _ _ st h => wpAny_pyIter_rangeiter st h
end L2
namespace L2
open PySem PySem.Spec PyProof.Rows
section
variable {X : Cx} {tg : Expr}
theorem range_it {pins : List (Addr × Obj)} {σ : St} {H : Hp} {s : Shared} {R : It → Hp → Prop} {E : Value → Shared → Prop} {lo hi : Int} {t u v : Tok} {tk : Nat} (I : Inv X pins σ H s) (h1 : -(2 ^ 62) ≤ lo) (h2 : lo < 2 ^ 62) (h3 : -(2 ^ 62) ≤ hi) (h4 : hi < 2 ^ 62)
    (q : R (Itr lo (hi - lo).toNat) H) : wpAny (model X.prog X.w) X.A (pyIter (.ref s.heap.objs.size)) (PIE X pins σ tg R) E { s with heap := s.heap.push { cls := .type "range", data := .fields #[.int lo t, .int hi u, .int 1 v] }, toks := tk } := by
  refine wpAny_pyIter_range (IsRange.new ..) (small_one h1 h2 h3 h4) ?_
  have I1 : Inv X pins σ H { s with heap := s.heap.push { cls := .type "range", data := .fields #[.int lo t, .int hi u, .int 1 v] }, toks := tk } := I.kept fun b o e => Heap.get?_push_of_some _ e
  refine ⟨(s.heap.push { cls := .type "range", data := .fields #[.int lo t, .int hi u, .int 1 v] }).objs.size, [(s.heap.push { cls := .type "range", data := .fields #[.int lo t, .int hi u, .int 1 v] }).objs.size], _, _, H, rfl,
    I1.kept (t' := tk) fun b o e => Heap.get?_push_of_some _ e, turn_range _ lo (hi - lo).toNat, ?_, fun b hb => ?_, q⟩
  · have e1 : lo + ((0 : Nat) : Int) * 1 = lo := by simp
    have e2 : (((hi - lo).toNat : Nat) : Int) - ((0 : Nat) : Int) = Builtin.Range.rangeSize lo hi 1 := by rw [rangeSize_one]; split <;> omega
    show IsRangeIter _ _ (lo + ((0 : Nat) : Int) * 1) ((((hi - lo).toNat : Nat) : Int) - ((0 : Nat) : Int)) 1
    rw [e1, e2]
    exact Heap.get?_push_size _ rfl
  · have e : b = (s.heap.push { cls := .type "range", data := .fields #[.int lo t, .int hi u, .int 1 v] }).objs.size := by simpa using hb
    subst e
    exact I1.fpOk (Nat.le_refl _) (I1.hok.fresh (Nat.le_refl _))
def iRng1 (ta : TA) : TI := fun σ H R => ta σ H fun vs H1 => ∃ j : Int, vs = [.int j] ∧ -(2 ^ 62) ≤ j ∧ j < 2 ^ 62 ∧ R (Itr 0 j.toNat) H1
theorem pi_range1 {a : Expr} {ta : TA} {p pos : Pos} (hg : Gl X "range") (hm : X.mg "range" = none) (ha : PA X [a] ta) (hs : starEach [a] X.env = [(false, eval a X.env)] := by rfl) : PI X tg (.Call (.Name "range" p) [a] [] pos) (iRng1 ta) := by
  intro pins s σ H R I h
  refine Call_ (ld_blt I hg hm boot_range (PyProof.Rows.callWith_type1 (thn (ha pos pins s σ H _ I h) fun us s1 ⟨vs, H1, I1, r1, q1⟩ => ?_) hs rfl))
  obtain ⟨j, e, q1, q2, q⟩ := q1
  subst e
  cases r1 with
  | cons r rr =>
    cases rr
    obtain ⟨t, rfl⟩ := r
    exact call_range_1 (range_it I1 (by omega) (by omega) q1 q2 (by simpa using q))
def tFor (wi : TI) (g : TG) (tb : TS) : TS := fun D σ H => wi σ H fun J H1 => ∃ W : Nat → Nat → St → Hp → Prop, (∃ m, W 0 m σ H1) ∧ ∀ i m σ H, W i m σ H →
  (J.stop i H ∧ D.nx σ H) ∨ (J.go i H ∧ ∃ N : St → Hp → Prop, (∀ σ' H', N σ' H' → ∃ m', m' < m ∧ W (i + 1) m' σ' H') ∧ ∀ x H', J.yld i H x H' → g x σ H' fun σ2 H2 => tb { D with nx := N, ct := N, bk := D.nx } σ2 H2)
def pinsAt (fp : List Addr) (h : Heap) : List (Addr × Obj) := fp.filterMap fun b => (h.get? b).map fun o => (b, o)
theorem mem_pinsAt {fp : List Addr} {h : Heap} {b : Addr} {o : Obj} (hb : b ∈ fp) (e : h.get? b = some o) : (b, o) ∈ pinsAt fp h := List.mem_filterMap.mpr ⟨b, hb, by rw [e]; rfl⟩
theorem of_pinsAt {fp : List Addr} {h : Heap} {p : Addr × Obj} (hp : p ∈ pinsAt fp h) : p.1 ∈ fp ∧ h.get? p.1 = some p.2 := by
  obtain ⟨b, hb, e⟩ := List.mem_filterMap.mp hp
  cases q : h.get? b with
  | none => rw [q] at e; cases e
  | some o =>
    rw [q] at e
    have e' : (b, o) = p := Option.some.inj e
    subst e'
    exact ⟨hb, q⟩
theorem Inv.pinned {pins : List (Addr × Obj)} {σ : St} {H : Hp} {s : Shared} {fp : List Addr} (I : Inv X pins σ H s) (hf : ∀ b ∈ fp, FpOk X pins H b) (ho : ∀ b ∈ fp, ∃ o, s.heap.get? b = some o ∧ ∀ v, o.data ≠ .cell v) : Inv X (pins ++ pinsAt fp s.heap) σ H s :=
  I.pins_of fun p hp => (List.mem_append.mp hp).elim (fun z => I.pin p (List.mem_append_right _ z)) fun z => by
    obtain ⟨hb, e⟩ := of_pinsAt z
    obtain ⟨f0, f1, f2, _⟩ := hf p.1 hb
    obtain ⟨o, e', d⟩ := ho p.1 hb
    rw [e] at e'; cases e'
    exact ⟨e, f0, f1, f2, d⟩
theorem Inv.unpinned {pins pl : List (Addr × Obj)} {σ : St} {H : Hp} {s : Shared} (I : Inv X (pins ++ pl) σ H s) : Inv X pins σ H s := I.pins_of fun p hp => I.pin p (List.mem_append_right _ (List.mem_append_left _ hp))
theorem ps_for {iter : Expr} {body : List Stmt} {wi : TI} {g : TG} {tb : TS} {pos : Pos} (hp : PassesOwn (model X.prog X.w) X.A X.env X.xe) (hc : X.calm = true) (hi : PI X tg iter wi) (hg : PG X tg g) (hb : PSs X body tb)
    (hs : ∀ x, foldedSetIterable iter X.env x = pure x := by intro _; rfl) : PS X (.For tg iter body [] pos) (tFor wi g tb) := by
  intro pins s σ H D I h
  refine wpAny_For (thn (hi pins s σ H _ I h) fun v s1 h1 => thn h1 fun itv s2 h2 => ?_) hs
  obtain ⟨it, fp, tn, J, H2, e, I2, T, st2, f2, W, ⟨m0, w0⟩, turn⟩ := h2
  subst e
  have stat : ∀ {H' : Hp}, (∀ b ∈ fp, H' b = none) → ∀ b ∈ fp, FpOk X pins H' b := fun hn b hb => ⟨hn b hb, (f2 b hb).2⟩
  refine codeAny_forLoop_any (fun n s' => ∃ i σ' H', Inv X pins σ' H' s' ∧ tn i s'.heap ∧ (∀ b ∈ fp, H' b = none) ∧ W i n σ' H') ?_ m0 ⟨0, σ, H2, I2, st2, fun b hb => (f2 b hb).1, w0⟩
  rintro n s3 ⟨i, σ3, H3, I3, st3, fr3, w3⟩
  rcases turn i n σ3 H3 w3 with ⟨stop, qn⟩ | ⟨go, N, hN, step⟩
  · refine wpAny_passesOwn hp (thn (T.done X rfl rfl rfl hc i pins s3 σ3 H3 X.xe I3 (stat fr3) st3 stop) fun r s4 ⟨hr, I4⟩ => ?_)
    subst hr
    exact wpAny_execs_nil ⟨σ3, H3, I4, qn⟩
  · refine wpAny_passesOwn hp (thn (T.item X rfl rfl rfl hc i pins s3 σ3 H3 X.xe I3 (stat fr3) st3 go) fun r s4 ⟨u, hr, h4⟩ => ?_)
    subst hr
    refine wpAny_passesOwn hp (thn h4 fun _ s5 ⟨x, H5, I5, r5, y5, st5, fr5⟩ => ?_)
    have I5' := I5.pinned (stat fr5) (T.obj _ _ st5)
    refine wpAny_passesOwn hp (thn (hg _ s5 σ3 H5 x u _ I5' r5 (step x H5 y5)) fun _ s6 ⟨σ6, H6, I6, q6⟩ => ?_)
    refine wpAny_passesOwn hp (thn (hb _ s6 σ6 H6 _ I6 q6) fun f s7 q7 => ?_)
    have again : ∀ {σ7 : St} {H7 : Hp}, Inv X (pins ++ pinsAt fp s5.heap) σ7 H7 s7 → N σ7 H7 → ∃ m, m < n ∧ ∃ i σ' H', Inv X pins σ' H' s7 ∧ tn i s7.heap ∧ (∀ b ∈ fp, H' b = none) ∧ W i m σ' H' := fun {σ7 H7} I7 n7 => by
      obtain ⟨m', hm, w7⟩ := hN σ7 H7 n7
      refine ⟨m', hm, i + 1, σ7, H7, I7.unpinned, T.keep _ _ _ st5 fun b hb o e => (I7.pin (b, o) (List.mem_append_right _ (List.mem_append_right _ (mem_pinsAt hb e)))).1, fun b hb => ?_, w7⟩
      obtain ⟨o, e, d⟩ := T.obj _ _ st5 b hb
      exact (I7.pin (b, o) (List.mem_append_right _ (List.mem_append_right _ (mem_pinsAt hb e)))).2.1
    cases f with
    | next => obtain ⟨σ7, H7, I7, n7⟩ := q7; exact again I7 n7
    | cont => obtain ⟨σ7, H7, I7, n7⟩ := q7; exact again I7 n7
    | brk => obtain ⟨σ7, H7, I7, q7⟩ := q7; exact ⟨σ7, H7, I7.unpinned, q7⟩
    | ret v => obtain ⟨x7, σ7, H7, I7, r7, q7⟩ := q7; exact ⟨x7, σ7, H7, I7.unpinned, r7, q7⟩
end
theorem for_list {K : PySem.W.Frag} {a : Addr} {xs : List V} {g : TG} {tb : TS} {D : Ends} {σ : St} {H : Hp} (Pv : Nat → St → Hp → Prop) (h0 : Pv 0 σ H) (hl : ∀ i σ H, i ≤ xs.length → Pv i σ H → SqL K H a xs)
    (hs : ∀ i x σ H, xs[i]? = some x → Pv i σ H → g x σ H fun σ2 H2 => tb { D with nx := Pv (i + 1), ct := Pv (i + 1), bk := D.nx } σ2 H2) (hd : ∀ σ H, Pv xs.length σ H → D.nx σ H) :
    ∃ W : Nat → Nat → St → Hp → Prop, (∃ m, W 0 m σ H) ∧ ∀ i m σ H, W i m σ H →
      ((Itl K a).stop i H ∧ D.nx σ H) ∨ ((Itl K a).go i H ∧ ∃ N : St → Hp → Prop, (∀ σ' H', N σ' H' → ∃ m', m' < m ∧ W (i + 1) m' σ' H') ∧ ∀ x H', (Itl K a).yld i H x H' → g x σ H' fun σ2 H2 => tb { D with nx := N, ct := N, bk := D.nx } σ2 H2) := by
  refine ⟨fun i m σ H => m = xs.length - i ∧ i ≤ xs.length ∧ Pv i σ H, ⟨xs.length, by simp, Nat.zero_le _, h0⟩, ?_⟩
  rintro i m σ H ⟨rfl, hi, p⟩
  have q := hl i σ H hi p
  by_cases hlt : i < xs.length
  · refine .inr ⟨⟨xs, xs[i], q, by simp [hlt]⟩, Pv (i + 1), fun σ' H' p' => ⟨xs.length - (i + 1), by omega, rfl, hlt, p'⟩, fun x H' y => ?_⟩
    obtain ⟨e, y⟩ := y
    subst e
    exact hs i x σ _ (y xs q) p
  · have e : i = xs.length := by omega
    subst e
    exact .inl ⟨⟨xs, q, Nat.le_refl _⟩, hd σ H p⟩
theorem for_tup {K : PySem.W.Frag} {a : Addr} {xs : List V} {g : TG} {tb : TS} {D : Ends} {σ : St} {H : Hp} (Pv : Nat → St → Hp → Prop) (h0 : Pv 0 σ H) (hl : ∀ i σ H, i ≤ xs.length → Pv i σ H → SqT K H a xs)
    (hs : ∀ i x σ H, xs[i]? = some x → Pv i σ H → g x σ H fun σ2 H2 => tb { D with nx := Pv (i + 1), ct := Pv (i + 1), bk := D.nx } σ2 H2) (hd : ∀ σ H, Pv xs.length σ H → D.nx σ H) :
    ∃ W : Nat → Nat → St → Hp → Prop, (∃ m, W 0 m σ H) ∧ ∀ i m σ H, W i m σ H →
      ((Itt K a).stop i H ∧ D.nx σ H) ∨ ((Itt K a).go i H ∧ ∃ N : St → Hp → Prop, (∀ σ' H', N σ' H' → ∃ m', m' < m ∧ W (i + 1) m' σ' H') ∧ ∀ x H', (Itt K a).yld i H x H' → g x σ H' fun σ2 H2 => tb { D with nx := N, ct := N, bk := D.nx } σ2 H2) := by
  refine ⟨fun i m σ H => m = xs.length - i ∧ i ≤ xs.length ∧ Pv i σ H, ⟨xs.length, by simp, Nat.zero_le _, h0⟩, ?_⟩
  rintro i m σ H ⟨rfl, hi, p⟩
  have q := hl i σ H hi p
  by_cases hlt : i < xs.length
  · refine .inr ⟨⟨xs, xs[i], q, by simp [hlt]⟩, Pv (i + 1), fun σ' H' p' => ⟨xs.length - (i + 1), by omega, rfl, hlt, p'⟩, fun x H' y => ?_⟩
    obtain ⟨e, y⟩ := y
    subst e
    exact hs i x σ _ (y xs q) p
  · have e : i = xs.length := by omega
    subst e
    exact .inl ⟨⟨xs, q, Nat.le_refl _⟩, hd σ H p⟩
theorem for_range {lo : Int} {n : Nat} {g : TG} {tb : TS} {D : Ends} {σ : St} {H : Hp} (Pv : Nat → St → Hp → Prop) (h0 : Pv 0 σ H)
    (hs : ∀ i σ H, i < n → Pv i σ H → g (.int (lo + i)) σ H fun σ2 H2 => tb { D with nx := Pv (i + 1), ct := Pv (i + 1), bk := D.nx } σ2 H2) (hd : ∀ σ H, Pv n σ H → D.nx σ H) :
    ∃ W : Nat → Nat → St → Hp → Prop, (∃ m, W 0 m σ H) ∧ ∀ i m σ H, W i m σ H →
      ((Itr lo n).stop i H ∧ D.nx σ H) ∨ ((Itr lo n).go i H ∧ ∃ N : St → Hp → Prop, (∀ σ' H', N σ' H' → ∃ m', m' < m ∧ W (i + 1) m' σ' H') ∧ ∀ x H', (Itr lo n).yld i H x H' → g x σ H' fun σ2 H2 => tb { D with nx := N, ct := N, bk := D.nx } σ2 H2) := by
  refine ⟨fun i m σ H => m = n - i ∧ i ≤ n ∧ Pv i σ H, ⟨n, by simp, Nat.zero_le _, h0⟩, ?_⟩
  rintro i m σ H ⟨rfl, hi, p⟩
  by_cases hlt : i < n
  · refine .inr ⟨hlt, Pv (i + 1), fun σ' H' p' => ⟨n - (i + 1), by omega, rfl, hlt, p'⟩, fun x H' y => ?_⟩
    obtain ⟨e, y⟩ := y
    subst e y
    exact hs i σ _ hlt p
  · have e : i = n := by omega
    subst e
    exact .inl ⟨Nat.le_refl _, hd σ H p⟩
end L2
namespace L2
open PySem PySem.Spec PyProof.Rows
abbrev R2 := V → V → Hp → VK → Prop
def OpR (X : Cx) (f : Value → Value → Sem Value) (r : R2) : Prop :=
  ∀ (pins : List (Addr × Obj)) (s : Shared) (σ : St) (H : Hp) (x y : V) (v u : Value) (Q : VK), Inv X pins σ H s → RelV x v → RelV y u → r x y H Q →
    wpAny (model X.prog X.w) X.A (f v u) (EP X pins σ Q) X.xe s
def UnR (X : Cx) (f : Value → Sem Value) (r : V → Hp → VK → Prop) : Prop :=
  ∀ (pins : List (Addr × Obj)) (s : Shared) (σ : St) (H : Hp) (x : V) (v : Value) (Q : VK), Inv X pins σ H s → RelV x v → r x H Q →
    wpAny (model X.prog X.w) X.A (f v) (EP X pins σ Q) X.xe s
def CallR (X : Cx) (f : Value) (r : List V → Hp → VK → Prop) : Prop :=
  ∀ (pins : List (Addr × Obj)) (s : Shared) (σ : St) (H : Hp) (xs : List V) (us : List Value) (Q : VK), Inv X pins σ H s → Vals xs us → r xs H Q →
    wpAny (model X.prog X.w) X.A (call f us) (EP X pins σ Q) X.xe s
def tOp (r : R2) (ta tb : TE) : TE := fun σ H Q => ta σ H fun x H1 => tb σ H1 fun y H2 => r x y H2 Q
def tUn (r : V → Hp → VK → Prop) (ta : TE) : TE := fun σ H Q => ta σ H fun x H1 => r x H1 Q
def rI (C : Int → Int → Prop) (g : Int → Int → V) : R2 := fun x y H Q => ∃ i j, x = .int i ∧ y = .int j ∧ C i j ∧ Q (g i j) H
def rI0 (g : Int → Int → V) : R2 := fun x y H Q => ∃ i j, x = .int i ∧ y = .int j ∧ Q (g i j) H
def rU (g : Int → V) : V → Hp → VK → Prop := fun x H Q => ∃ i, x = .int i ∧ Q (g i) H
section
variable {X : Cx} {a b c : Expr} {ta tb tc : TE} {pos : Pos}
theorem binT (ha : PE X a ta) (hb : PE X b tb) {pins : List (Addr × Obj)} {s : Shared} {σ : St} {H : Hp} {R : V → V → Hp → Prop} (I : Inv X pins σ H s)
    (h : ta σ H fun x H1 => tb σ H1 fun y H2 => R x y H2) {Q : Value → Shared → Prop} {f : Value → Value → Sem Value}
    (hf : ∀ v u s2 x y H2, Inv X pins σ H2 s2 → RelV x v → RelV y u → R x y H2 → wpAny (model X.prog X.w) X.A (f v u) Q X.xe s2) :
    wpAny (model X.prog X.w) X.A (eval a X.env) (fun v s₁ => wpAny (model X.prog X.w) X.A (eval b X.env) (fun u s₂ => wpAny (model X.prog X.w) X.A (f v u) Q X.xe s₂) X.xe s₁) X.xe s := by
  refine thn (ha pins s σ H _ I h) fun v s1 ⟨x, H1, I1, r1, q1⟩ => ?_
  refine thn (hb pins s1 σ H1 _ I1 q1) fun u s2 ⟨y, H2, I2, r2, q2⟩ => ?_
  exact hf v u s2 x y H2 I2 r1 r2 q2
theorem pe_op {op : Operator} {r : R2} (ho : OpR X (binaryOp op) r) (ha : PE X a ta) (hb : PE X b tb) : PE X (.BinOp a op b pos) (tOp r ta tb) := by
  intro pins s σ H Q I h
  exact wpAny_BinOp (binT ha hb I h fun v u s2 x y H2 I2 rx ry q => ho pins s2 σ H2 x y v u Q I2 rx ry q)
theorem pe_un {op : UnaryOp} {r : V → Hp → VK → Prop} (ho : UnR X (unaryOp op) r) (ha : PE X a ta) : PE X (.UnaryOp op a pos) (tUn r ta) := by
  intro pins s σ H Q I h
  exact UnaryOp_ (thn (ha pins s σ H _ I h) fun v s1 ⟨x, H1, I1, r1, q1⟩ => ho pins s1 σ H1 x v Q I1 r1 q1)
theorem opI {f : Value → Value → Sem Value} {C : Int → Int → Prop} {g : Int → Int → Int}
    (rule : ∀ (i j : Int) (t u : Tok) (s : Shared) (Q : Value → Shared → Prop) (E : Value → Shared → Prop), C i j → Q (.int (g i j) s.toks) { s with toks := s.toks + 1 } → wpAny (model X.prog X.w) X.A (f (.int i t) (.int j u)) Q E s) :
    OpR X f (rI C fun i j => .int (g i j)) := by
  intro pins s σ H x y v u Q I rx ry h
  obtain ⟨i, j, rfl, rfl, hc, q⟩ := h
  obtain ⟨t, rfl⟩ := rx
  obtain ⟨t', rfl⟩ := ry
  exact rule i j t t' s _ _ hc ⟨.int (g i j), H, I.tok _, ⟨_, rfl⟩, q⟩
theorem opI0 {f : Value → Value → Sem Value} {g : Int → Int → Int}
    (rule : ∀ (i j : Int) (t u : Tok) (s : Shared) (Q : Value → Shared → Prop) (E : Value → Shared → Prop), Q (.int (g i j) s.toks) { s with toks := s.toks + 1 } → wpAny (model X.prog X.w) X.A (f (.int i t) (.int j u)) Q E s) :
    OpR X f (rI0 fun i j => .int (g i j)) := by
  intro pins s σ H x y v u Q I rx ry h
  obtain ⟨i, j, rfl, rfl, q⟩ := h
  obtain ⟨t, rfl⟩ := rx
  obtain ⟨t', rfl⟩ := ry
  exact rule i j t t' s _ _ ⟨.int (g i j), H, I.tok _, ⟨_, rfl⟩, q⟩
theorem opB0 {f : Value → Value → Sem Value} {g : Int → Int → Bool}
    (rule : ∀ (i j : Int) (t u : Tok) (s : Shared) (Q : Value → Shared → Prop) (E : Value → Shared → Prop), Q (.bool (g i j)) s → wpAny (model X.prog X.w) X.A (f (.int i t) (.int j u)) Q E s) :
    OpR X f (rI0 fun i j => .bl (g i j)) := by
  intro pins s σ H x y v u Q I rx ry h
  obtain ⟨i, j, rfl, rfl, q⟩ := h
  obtain ⟨t, rfl⟩ := rx
  obtain ⟨t', rfl⟩ := ry
  exact rule i j t t' s _ _ ⟨.bl (g i j), H, I, rfl, q⟩
def CDiv (i j : Int) : Prop := 0 < j ∧ j < 1073741824
def CPow (i j : Int) : Prop := 0 ≤ j ∧ j ≤ 1000000 ∧ i.natAbs < 2 ^ 64
def CMul (i j : Int) : Prop := (-(2 ^ 64) < i ∧ i < 2 ^ 64) ∨ (-(2 ^ 64) < j ∧ j < 2 ^ 64)
theorem CMul.ok {i j : Int} (h : CMul i j) : IntMulOk i j := by
  rcases h with ⟨h1, h2⟩ | ⟨h1, h2⟩
  · exact .of_left (intBits_le_64 h1 h2)
  · exact .of_right (intBits_le_64 h1 h2)
theorem two_pow_nn (k : Nat) : (0 : Int) ≤ 2 ^ k := by
  rw [two_pow_cast]
  exact Int.natCast_nonneg _
theorem op_add : OpR X (binaryOp .Add) (rI0 fun i j => .int (i + j)) := opI0 fun _ _ _ _ _ _ _ q => add_int q
theorem op_sub : OpR X (binaryOp .Sub) (rI0 fun i j => .int (i - j)) := opI0 fun _ _ _ _ _ _ _ q => sub_int q
theorem op_mul : OpR X (binaryOp .Mult) (rI CMul fun i j => .int (i * j)) := opI fun _ _ _ _ _ _ _ hc q => mul_int q hc.ok
theorem op_fdiv : OpR X (binaryOp .FloorDiv) (rI CDiv fun i j => .int (i / j)) := opI fun i j _ _ _ _ _ hc q => by
  have h1 : (0 : Int) < j := hc.1
  have h2 : j < 1073741824 := hc.2
  exact floordiv_int (by omega) (by rw [Int.fdiv_eq_ediv_of_nonneg i (by omega)]; exact q) (.inl (PyProof.noPylong_small (by omega)))
theorem op_mod : OpR X (binaryOp .Mod) (rI (fun _ j => 0 < j) fun i j => .int (i % j)) := opI fun i j _ _ _ _ _ hc q => by
  have h1 : (0 : Int) < j := hc
  exact mod_int' (by omega) (by rw [Int.fmod_eq_emod_of_nonneg i (by omega)]; exact q)
theorem op_pow : OpR X (binaryOp .Pow) (rI CPow fun i j => .int (i ^ j.toNat)) := opI fun _ _ _ _ _ _ _ hc q => pow_int_small hc.1 hc.2.1 hc.2.2 q
theorem op_shl : OpR X (binaryOp .LShift) (rI CPow fun i j => .int (i * 2 ^ j.toNat)) := opI fun _ _ _ _ _ _ _ hc q => lshift_int_small hc.1 hc.2.1 hc.2.2 q
theorem op_shr : OpR X (binaryOp .RShift) (rI (fun _ j => 0 ≤ j) fun i j => .int (i / 2 ^ j.toNat)) := opI fun i j _ _ _ _ _ hc q =>
  rshift_int hc (by rw [Int.fdiv_eq_ediv_of_nonneg i (two_pow_nn _)]; exact q)
theorem op_and : OpR X (binaryOp .BitAnd) (rI0 fun i j => .int (Builtin.bitAnd i j)) := opI0 fun _ _ _ _ _ _ _ q => and_int q
theorem op_or : OpR X (binaryOp .BitOr) (rI0 fun i j => .int (Builtin.bitOr i j)) := opI0 fun _ _ _ _ _ _ _ q => or_int q
theorem unI {f : Value → Sem Value} {g : Int → Int}
    (rule : ∀ (i : Int) (t : Tok) (s : Shared) (Q : Value → Shared → Prop) (E : Value → Shared → Prop), Q (.int (g i) s.toks) { s with toks := s.toks + 1 } → wpAny (model X.prog X.w) X.A (f (.int i t)) Q E s) :
    UnR X f (rU fun i => .int (g i)) := by
  intro pins s σ H x v Q I rx h
  obtain ⟨i, rfl, q⟩ := h
  obtain ⟨t, rfl⟩ := rx
  exact rule i t s _ _ ⟨.int (g i), H, I.tok _, ⟨_, rfl⟩, q⟩
theorem un_neg : UnR X (unaryOp .USub) (rU fun i => .int (-i)) := unI fun _ _ _ _ _ q => neg_int q
end
def scal : V → V → Bool
  | .non, .non => true | .non, .int _ => true | .int _, .non => true | .non, .bl _ => true | .bl _, .non => true | .non, .str _ => true | .str _, .non => true
  | .int _, .int _ => true | .bl _, .bl _ => true | .str _, .str _ => true | .byt _, .byt _ => true
  | .int _, .str _ => true | .str _, .int _ => true | .bl _, .str _ => true | .str _, .bl _ => true
  | _, _ => false
def rEq : R2 := fun x y H Q => scal x y = true ∧ Q (.bl (decide (x = y))) H
theorem dec_bl {i j : Bool} : decide (V.bl i = V.bl j) = (i == j) := by
  rw [Bool.eq_iff_iff]
  simp
section
variable {X : Cx} {a b c : Expr} {ta tb tc : TE} {pos : Pos}
theorem fin_bl {pins : List (Addr × Obj)} {σ : St} {H : Hp} {s : Shared} {Q : VK} {k k' : Bool} (I : Inv X pins σ H s) (q : Q (.bl k) H) (e : k = k') : EP X pins σ Q (.bool k') s := by
  subst e
  exact ⟨.bl k, H, I, rfl, q⟩
theorem op_lt : OpR X (compareOp .Lt) (rI0 fun i j => .bl (decide (i < j))) := opB0 fun _ _ _ _ _ _ _ q => lt_int q
theorem op_le : OpR X (compareOp .LtE) (rI0 fun i j => .bl (decide (i ≤ j))) := opB0 fun _ _ _ _ _ _ _ q => le_int q
theorem op_gt : OpR X (compareOp .Gt) (rI0 fun i j => .bl (decide (j < i))) := opB0 fun _ _ _ _ _ _ _ q => gt_int q
theorem op_ge : OpR X (compareOp .GtE) (rI0 fun i j => .bl (decide (j ≤ i))) := opB0 fun _ _ _ _ _ _ _ q => ge_int q
theorem nomark (b : Expr) {op : CmpOp} (h : op ≠ .In := by decide) (h2 : op ≠ .NotIn := by decide) : behindInMarks op b = false := by
  have e1 : (op == CmpOp.In) = false := by cases op <;> first | rfl | exact absurd rfl h
  have e2 : (op == CmpOp.NotIn) = false := by cases op <;> first | rfl | exact absurd rfl h2
  cases b <;> simp [behindInMarks, e1, e2]
theorem pe_cmpR {op : CmpOp} {r : R2} (ho : OpR X (compareOp op) r) (ha : PE X a ta) (hb : PE X b tb) (hm : behindInMarks op b = false) : PE X (.Compare a [op] [b] pos) (tOp r ta tb) := by
  intro pins s σ H Q I h
  exact wpAny_Compare1 (binT ha hb I h fun v u s2 x y H2 I2 rx ry q => ho pins s2 σ H2 x y v u Q I2 rx ry q) hm
def tTest (t : TE) : TT := fun σ H Q => t σ H fun x H' => ∃ k, x = .bl k ∧ Q k H'
theorem pt_cmpR {op : CmpOp} {r : R2} (ho : OpR X (compareOp op) r) (ha : PE X a ta) (hb : PE X b tb) (hm : behindInMarks op b = false) : PT X (.Compare a [op] [b] pos) (tTest (tOp r ta tb)) := by
  intro pins s σ H Q I h
  refine wpAny_isTrue_Compare1 (thn (ha pins s σ H _ I h) fun v s1 ⟨x, H1, I1, r1, q1⟩ => thn (hb pins s1 σ H1 _ I1 q1) fun u s2 ⟨y, H2, I2, r2, q2⟩ =>
    thn (ho pins s2 σ H2 x y v u _ I2 r1 r2 q2) fun c s3 ⟨z, H3, I3, r3, k, e, q3⟩ => ?_) hm
  subst e
  cases r3
  exact wpAny_truthy_bool ⟨H3, I3, q3⟩
def tChain (r r' : R2) (ta tb tc : TE) : TE := fun σ H Q => ta σ H fun x H1 => tb σ H1 fun y H2 => r x y H2 fun z H3 => ∃ k, z = .bl k ∧
  (if k = true then tc σ H3 fun w' H4 => r' y w' H4 Q else Q (.bl false) H3)
theorem pe_chain {op op' : CmpOp} {r r' : R2} (ho : OpR X (compareOp op) r) (ho' : OpR X (compareOp op') r') (ha : PE X a ta) (hb : PE X b tb) (hc : PE X c tc)
    (hm : lastMarks [op, op'] [b, c] = false := by with_unfolding_all rfl) : PE X (.Compare a [op, op'] [b, c] pos) (tChain r r' ta tb tc) := by
  intro pins s σ H Q I h
  refine Compare_chain (thn (ha pins s σ H _ I h) fun v s1 ⟨x, H1, I1, r1, q1⟩ => chain_link (thn (hb pins s1 σ H1 _ I1 q1) fun u s2 ⟨y, H2, I2, r2, q2⟩ =>
    thn (ho pins s2 σ H2 x y v u _ I2 r1 r2 q2) fun d s3 ⟨z, H3, I3, r3, k, e, q3⟩ => ?_)) hm
  subst e
  cases r3
  refine wpAny_truthy_bool ?_
  cases k with
  | false => exact ite_ff ⟨.bl false, H3, I3, rfl, q3⟩
  | true => exact ite_tt (chain_last (thn (hc pins s3 σ H3 _ I3 q3) fun w' s4 ⟨z', H4, I4, r4, q4⟩ => ho' pins s4 σ H4 y z' u w' Q I4 r2 r4 q4))
theorem pt_chain {op op' : CmpOp} {r r' : R2} (ho : OpR X (compareOp op) r) (ho' : OpR X (compareOp op') r') (ha : PE X a ta) (hb : PE X b tb) (hc : PE X c tc)
    (hm : lastMarks [op, op'] [b, c] = false := by with_unfolding_all rfl) : PT X (.Compare a [op, op'] [b, c] pos) (tTest (tChain r r' ta tb tc)) := by
  intro pins s σ H Q I h
  refine isTrue_chain (thn (ha pins s σ H _ I h) fun v s1 ⟨x, H1, I1, r1, q1⟩ => test_link (thn (hb pins s1 σ H1 _ I1 q1) fun u s2 ⟨y, H2, I2, r2, q2⟩ =>
    thn (ho pins s2 σ H2 x y v u _ I2 r1 r2 q2) fun d s3 ⟨z, H3, I3, r3, k, e, q3⟩ => ?_)) hm
  subst e
  cases r3
  refine wpAny_truthy_bool ?_
  cases k with
  | false =>
    obtain ⟨k', e', q'⟩ := q3
    cases e'
    exact ite_ff ⟨H3, I3, q'⟩
  | true =>
    refine ite_tt (test_last (thn (hc pins s3 σ H3 _ I3 q3) fun w' s4 ⟨z', H4, I4, r4, q4⟩ => thn (ho' pins s4 σ H4 y z' u w' _ I4 r2 r4 q4) fun d' s5 ⟨z2, H5, I5, r5, k2, e2, q5⟩ => ?_))
    subst e2
    cases r5
    exact wpAny_truthy_bool ⟨H5, I5, q5⟩
theorem line63 : (sizeLine : Nat) < 2 ^ 63 := by rw [sizeLine_eq]; decide
theorem op_add_str : OpR X (binaryOp .Add) (fun x y H Q => ∃ i j, x = .str i ∧ y = .str j ∧ i.length + j.length ≤ sizeLine ∧ Q (.str (i ++ j)) H) := by
  intro pins s σ H x y v u Q I rx ry h
  obtain ⟨i, j, rfl, rfl, hz, q⟩ := h
  obtain ⟨t, rfl⟩ := rx
  obtain ⟨t', rfl⟩ := ry
  exact add_str (fun t' tk => ⟨.str (i ++ j), H, I.tok _, ⟨_, rfl⟩, q⟩) hz
theorem vals1 {x : V} {us : List Value} (r : Vals [x] us) : ∃ u, us = [u] ∧ RelV x u := by
  cases r with
  | cons r1 r2 => cases r2; exact ⟨_, rfl, r1⟩
theorem vals2 {x y : V} {us : List Value} (r : Vals [x, y] us) : ∃ u w', us = [u, w'] ∧ RelV x u ∧ RelV y w' := by
  cases r with
  | cons r1 r2 =>
    cases r2 with
    | cons r3 r4 => cases r4; exact ⟨_, _, rfl, r1, r3⟩
theorem call_min2 (hc : X.calm = true) : CallR X (.builtin "min") (fun xs H Q => ∃ i j, xs = [.int i, .int j] ∧ Q (.int (if j < i then j else i)) H) := by
  intro pins s σ H xs us Q I r h
  obtain ⟨i, j, rfl, q⟩ := h
  obtain ⟨u, w', rfl, ⟨t, rfl⟩, ⟨t', rfl⟩⟩ := vals2 r
  refine min_two_ints (I.ok.hd hc) fun h' tk k => ⟨_, H, I.kept k, ?_, q⟩
  by_cases hj : j < i
  · rw [if_pos hj, if_pos hj]; exact ⟨_, rfl⟩
  · rw [if_neg hj, if_neg hj]; exact ⟨_, rfl⟩
theorem call_int1 : CallR X (.type "int") (fun xs H Q => (∃ i, xs = [.int i] ∧ Q (.int i) H) ∨ ∃ k, xs = [.bl k] ∧ Q (.int (if k then 1 else 0)) H) := by
  intro pins s σ H xs us Q I r h
  rcases h with ⟨i, rfl, q⟩ | ⟨k, rfl, q⟩
  · obtain ⟨u, rfl, t, rfl⟩ := vals1 r
    exact call_int_int ⟨.int i, H, I, ⟨_, rfl⟩, q⟩
  · obtain ⟨u, rfl, r1⟩ := vals1 r
    cases r1
    exact call_int_bool ⟨.int (if k then 1 else 0), H, I.tok _, ⟨_, rfl⟩, q⟩
end
end L2
namespace L2
open PySem PySem.Spec PyProof.Rows
structure ObjM (h : Heap) (x dx C : Addr) (mA : Str → Option Value) : Prop where
  obj : h.get? x = some (PySem.W.instObj C dx)
  ns : h.Ns1 dx mA
  ne : dx ≠ x
theorem lookIn_ns {h : Heap} {dx : Addr} {mA : Str → Option Value} (n : h.Ns1 dx mA) : ∃ od, h.get? dx = some od ∧ ∀ name, PySem.W.lookIn name od = some (mA name) := by
  obtain ⟨o, es, ep, ho, hd, hk, _, hm⟩ := n
  refine ⟨o, ho, fun name => ?_⟩
  have e := hm name
  unfold nsFind findBy at e
  rw [← Array.find?_toList] at e
  unfold PySem.W.lookIn
  rw [hd]
  dsimp only
  split
  · rename_i y q
    rw [q] at e
    exact congrArg some e
  · rename_i q
    rw [q] at e
    have a : es.toList.any (·.refKey) = false := by
      rw [List.any_eq_false]
      intro y hy
      obtain ⟨z, t, hkey⟩ := hk y (Array.mem_toList_iff.mp hy)
      simp [DictEntry.refKey, hkey]
    have a' : ¬ es.toList.any (·.refKey) = true := by rw [a]; exact Bool.false_ne_true
    rw [if_neg a']
    exact congrArg some e
theorem ObjM.look {h : Heap} {x dx C : Addr} {mA : Str → Option Value} (I : ObjM h x dx C mA) : ∃ od, PySem.W.InstAt h x (PySem.W.instObj C dx) C (some od) ∧ ∀ name, PySem.W.lookIn name od = some (mA name) :=
  let ⟨od, ho, hl⟩ := lookIn_ns I.ns
  ⟨od, ⟨I.obj, rfl, rfl, ho⟩, hl⟩
section
variable {prog : Program} {w : World} {A : Around} {E : Value → Shared → Prop} {s : Shared} {K : PySem.W.Frag} {x dx C f : Addr} {mA : Str → Option Value} {name : Str} {v : Value}
theorem get_map {expr : Bool} {Q : Value → Shared → Prop} (X : K.In s.heap) (I : ObjM s.heap x dx C mA) (hg : PySem.W.plainGet K C name = true) (hh : PySem.W.hasDictIn K C = true)
    (ha : PySem.W.findIn K (.ref C) name = some none) (hv : mA name = some v) (hv' : PySem.W.handedIn v = true) (h : Q v { s with toks := s.toks + 1 }) :
    wpAny (model prog w) A (getAttr (.ref x) name expr) Q E s := by
  obtain ⟨od, J, hl⟩ := I.look
  exact PySem.W.get_value X J (PySem.W.plainGet_of hg).1 (PySem.W.findObj_own hh ha rfl (by rw [hl, hv])) hv' h
theorem get_meth {pl : Sem Bool} {Q : Value × List Value → Shared → Prop} (X : K.In s.heap) (I : ObjM s.heap x dx C mA) (hg : PySem.W.plainGet K C name = true)
    (hf : PySem.W.findIn K (.ref C) name = some (some (.ref f))) (ht : PySem.W.isFn K (.ref f) = true) (hv : mA name = none) (h : Q (.ref f, [.ref x]) s) :
    wpAny (model prog w) A (getMethod (.ref x) name pl) Q E s := by
  obtain ⟨od, J, hl⟩ := I.look
  exact PySem.W.method_fn X J (PySem.W.plainGet_of hg).1 (PySem.W.plainGet_of hg).2 hf (beq_iff_eq.mp ht) (by show (PySem.W.lookIn name od).map (·.isSome) = some false; rw [hl, hv]; rfl) h
theorem set_map {ns : List Str} {Q : Unit → Shared → Prop} (X : K.In s.heap) (I : ObjM s.heap x dx C mA)
    (hs : PySem.W.findIn K (.ref C) "__setattr__" = some (some (.builtin "object.__setattr__"))) (hp : PySem.W.plainOver K C = true) (ht : PySem.W.takerIn K C name = some none) (hh : PySem.W.hasDictIn K C = true)
    (hw : PySem.Within mA ns) (hsz : ns.length ≤ sizeLine)
    (h : ∀ h', ObjM h' x dx C (fun y => if y = name then some v else mA y) → Heap.SameBut dx s.heap h' → Q () { s with heap := h', toks := s.toks + 2 }) :
    wpAny (model prog w) A (setAttr (.ref x) name v) Q E s := by
  obtain ⟨od, J, hl⟩ := I.look
  refine PySem.W.set_plain X J hs (PySem.W.osa_open (s := { s with toks := s.toks + 1 }) (r := none) X J hp ht fun b => ?_)
  obtain ⟨cd, hc, hd'⟩ := PySem.W.any_some hh
  have hx : s.heap.get? x = some ⟨.ref C, some dx, .plain, #[]⟩ := I.obj
  refine wpAny_bind (wpAny_pure (wpAny_bind (wpAny_bind (wpAny_loadPart hx (wpAny_bind (PySem.W.Looks.here (s := { s with toks := s.toks + 1 }) (PySem.W.looks_clsIn X hc) ?_))))))
  rw [hd']
  refine wpAny_pure (a := some dx) (wpAny_bind (wpAny_pure (wpAny_bind ?_)))
  refine wpAny_nsSet1 (s := { s with toks := s.toks + 1 }) I.ns fun h' hn2 hs2 => ?_
  obtain ⟨oD, esD, epD, hoD, hdD, hcD⟩ := hn2.count (PySem.Within.cons name v hw)
  refine wpAny_bind (wpAny_lookBehind hoD (by rw [hdD]; exact pastItsLine_dict (Nat.le_trans hcD (by rw [List.length_cons]; omega))) ?_)
  exact wpAny_pure (h _ ⟨(hs2.2 _ (Ne.symm I.ne)).trans I.obj, hn2, I.ne⟩ hs2)
theorem make_map {R : Result → Shared → Prop} {vs : List Value} {kw : List (Str × Value)} (X : K.In s.heap) (hm : PySem.W.makesIn K C = true)
    (hi : PySem.W.findIn K (.ref C) "__init__" = some (some (.ref f))) (hf : PySem.W.typeIn K (.ref f) = some (.type "function"))
    (h : codeAny (model prog w) (A.under (.builtin "type.__call__" ⟨.ref C :: vs, kw⟩)) (.call (.ref f) ⟨.ref (s.heap.objs.size + 1) :: vs, kw⟩) (PySem.W.InitBack (s.heap.objs.size + 1) R)
      { s with heap := (s.heap.push PySem.W.emptyDict).push (PySem.W.instObj C s.heap.objs.size) }) :
    codeAny (model prog w) A (.call (.ref C) ⟨vs, kw⟩) R s := by
  obtain ⟨hh, g, d, t, os⟩ := s
  exact PySem.W.make_core (PySem.W.makes_of X hm) (PySem.W.looks_findIn X hi) (fun self => PySem.W.bind_fn X self hf) (.inl rfl) h
end
def putF (f : Str) (v : V) : List (Str × V) → List (Str × V)
  | [] => [(f, v)]
  | (g, x) :: r => if g = f then (g, v) :: r else (g, x) :: putF f v r
theorem lookup_putF (f g : Str) (v : V) : ∀ fs : List (Str × V), (putF f v fs).lookup g = if g = f then some v else fs.lookup g
  | [] => by
    show List.lookup g [(f, v)] = _
    by_cases h : g = f
    · have hb : (g == f) = true := beq_iff_eq.mpr h
      simp only [List.lookup, hb, if_pos h]
    · have hb : (g == f) = false := beq_eq_false_iff_ne.mpr h
      simp only [List.lookup, hb, if_neg h]
  | (k, x) :: r => by
    have ih := lookup_putF f g v r
    rw [show putF f v ((k, x) :: r) = (if k = f then (k, v) :: r else (k, x) :: putF f v r) from rfl]
    by_cases hk : k = f
    · rw [if_pos hk]
      by_cases h : g = k
      · have hb : (g == k) = true := beq_iff_eq.mpr h
        simp only [List.lookup, hb, if_pos (h.trans hk)]
      · have hb : (g == k) = false := beq_eq_false_iff_ne.mpr h
        simp only [List.lookup, hb, if_neg (fun e : g = f => h (e.trans hk.symm))]
    · rw [if_neg hk]
      by_cases h : g = k
      · have hb : (g == k) = true := beq_iff_eq.mpr h
        simp only [List.lookup, hb, if_neg (fun e : g = f => hk (h.symm.trans e))]
      · have hb : (g == k) = false := beq_eq_false_iff_ne.mpr h
        simp only [List.lookup, hb]
        exact ih
theorem keys_putF (f : Str) (v : V) : ∀ fs : List (Str × V), f ∈ (putF f v fs).map (·.1) ∧ ∀ g, g ∈ fs.map (·.1) → g ∈ (putF f v fs).map (·.1)
  | [] => ⟨by simp [putF], fun g h => by simp at h⟩
  | (k, x) :: r => by
    obtain ⟨i1, i2⟩ := keys_putF f v r
    rw [show putF f v ((k, x) :: r) = (if k = f then (k, v) :: r else (k, x) :: putF f v r) from rfl]
    by_cases hk : k = f
    · rw [if_pos hk]
      subst hk
      exact ⟨by simp, fun g h => by simpa using h⟩
    · rw [if_neg hk]
      refine ⟨?_, fun g h => ?_⟩
      · rw [List.map_cons]
        exact List.mem_cons_of_mem _ i1
      · rw [List.map_cons] at h ⊢
        rcases List.mem_cons.mp h with e | e
        · exact List.mem_cons.mpr (.inl e)
        · exact List.mem_cons_of_mem _ (i2 g e)
theorem length_putF (f : Str) (v : V) : ∀ fs : List (Str × V), (putF f v fs).length ≤ fs.length + 1
  | [] => by simp [putF]
  | (k, x) :: r => by
    have ih := length_putF f v r
    rw [show putF f v ((k, x) :: r) = (if k = f then (k, v) :: r else (k, x) :: putF f v r) from rfl]
    by_cases hk : k = f
    · rw [if_pos hk, List.length_cons, List.length_cons]; omega
    · rw [if_neg hk, List.length_cons, List.length_cons]; omega
theorem RelO.some_of {v : V} {o : Option Value} (r : RelO (some v) o) : ∃ u, o = some u ∧ RelV v u := by
  cases o with
  | none => exact (show False from r).elim
  | some u => exact ⟨u, rfl, r⟩
theorem RelO.none_of {o : Option Value} (r : RelO none o) : o = none := by
  cases o with
  | none => rfl
  | some u => exact (show False from r).elim
theorem handed_of {v : V} {u : Value} (r : RelV v u) : PySem.W.handedIn u = true := by
  cases v with
  | non => cases (show u = Value.none from r); rfl
  | bl b => cases (show u = Value.bool b from r); rfl
  | int i => obtain ⟨t, e⟩ := (show ∃ t, u = Value.int i t from r); cases e; rfl
  | str x => obtain ⟨t, e⟩ := (show ∃ t, u = Value.str x t from r); cases e; rfl
  | byt b => obtain ⟨t, e⟩ := (show ∃ t, u = Value.bytes b t from r); cases e; rfl
  | flt b => obtain ⟨t, e⟩ := (show ∃ t, u = Value.float b t from r); cases e; rfl
  | ref a => cases (show u = Value.ref a from r); rfl
  | ty n => cases (show u = Value.type n from r); rfl
section
variable {P : Program} {w : World} {H H' : Hp} {h h' : Heap} {a C dx : Addr} {fs fs' : List (Str × V)}
theorem ins_get (hok : HOk P w H h) (e : H a = some (.ins C dx fs)) : ∃ mA, ObjM h a dx C mA ∧ (∀ f, RelO (fs.lookup f) (mA f)) ∧ PySem.Within mA (fs.map (·.1)) ∧ fs.length ≤ 1000 ∧ H dx = some (.own a) := by
  obtain ⟨d, z, ne, ob, mA, n, r, q⟩ := (show ObjOk P w H h a (.ins C dx fs) from hok a _ e)
  exact ⟨mA, ⟨ob, n, ne⟩, r, q, z, d⟩
end
structure Cls (K : PySem.W.Frag) (C : Addr) : Prop where
  pg : PySem.W.plainGet K C Str.empty = true
  hd : PySem.W.hasDictIn K C = true
  po : PySem.W.plainOver K C = true
  sa : PySem.W.findIn K (.ref C) "__setattr__" = some (some (.builtin "object.__setattr__"))
theorem Cls.get {K : PySem.W.Frag} {C : Addr} (c : Cls K C) (f : Str) : PySem.W.plainGet K C f = true := c.pg
def NoAttr (K : PySem.W.Frag) (C : Addr) (f : Str) : Prop := PySem.W.findIn K (.ref C) f = some none
theorem NoAttr.taker {K : PySem.W.Frag} {C : Addr} {f : Str} (n : NoAttr K C f) : PySem.W.takerIn K C f = some none := by
  unfold PySem.W.takerIn
  rw [show PySem.W.findIn K (.ref C) f = some none from n]
  rfl
structure Con (K : PySem.W.Frag) (C : Addr) (f : Str) (v : V) (u : Value) : Prop where
  at_ : PySem.W.findIn K (.ref C) f = some (some u)
  rel : RelV v u
  get : PySem.W.specialIn K u "__get__" = some none
  cp : PySem.W.copiedNames.contains f = false
structure Meth (K : PySem.W.Frag) (C : Addr) (m : Str) (f : Addr) : Prop where
  at_ : PySem.W.findIn K (.ref C) m = some (some (.ref f))
  fn : PySem.W.isFn K (.ref f) = true
  kp : PySem.W.keepIn K (.ref f) = true
section
variable {X : Cx} {pins : List (Addr × Obj)} {σ : St} {H : Hp} {s : Shared} {a C dx : Addr} {fs : List (Str × V)} {f : Str} {v : V} {A : Around} {E : Value → Shared → Prop}
theorem getattr_ok {b : Bool} {Q : Value → Shared → Prop} (I : Inv X pins σ H s) (e : H a = some (.ins C dx fs)) (c : Cls X.K C) (n : NoAttr X.K C f) (l : fs.lookup f = some v)
    (h : ∀ u s', Inv X pins σ H s' → RelV v u → Q u s') : wpAny (model X.prog X.w) A (getAttr (.ref a) f b) Q E s := by
  obtain ⟨mA, O, r, _, _, _⟩ := ins_get I.hok e
  obtain ⟨u, hu, ru⟩ := RelO.some_of (v := v) (o := mA f) (by rw [← l]; exact r f)
  exact get_map I.kIn O (c.get f) c.hd n hu (handed_of ru) (h u _ (I.tok _) ru)
theorem getmeth_ok {m : Str} {g : Addr} {pl : Sem Bool} {Q : Value × List Value → Shared → Prop} (I : Inv X pins σ H s) (e : H a = some (.ins C dx fs)) (c : Cls X.K C) (k : Meth X.K C m g) (l : fs.lookup m = none)
    (h : Q (.ref g, [.ref a]) s) : wpAny (model X.prog X.w) A (getMethod (.ref a) m pl) Q E s := by
  obtain ⟨mA, O, r, _, _, _⟩ := ins_get I.hok e
  have hn : mA m = none := RelO.none_of (by rw [← l]; exact r m)
  exact get_meth I.kIn O (c.get m) k.at_ k.fn hn h
theorem setattr_ok {y : V} {u : Value} {Q : Unit → Shared → Prop} (I : Inv X pins σ H s) (e : H a = some (.ins C dx fs)) (c : Cls X.K C) (n : NoAttr X.K C f) (hl : fs.length < 1000) (ry : RelV y u)
    (h : ∀ s', Inv X pins σ (upd H a (.ins C dx (putF f y fs))) s' → Q () s') : wpAny (model X.prog X.w) A (setAttr (.ref a) f u) Q E s := by
  obtain ⟨mA, O, r, wi, _, ho⟩ := ins_get I.hok e
  have hz : (fs.map (·.1)).length ≤ sizeLine := by rw [List.length_map, sizeLine_eq]; omega
  refine set_map I.kIn O c.sa c.po n.taker c.hd wi hz fun h' O' sb => h _ ?_
  have hd : ∃ o, h'.get? dx = some o := let ⟨o, _, _, e', _⟩ := O'.ns; ⟨o, e'⟩
  refine I.write (x := a) (e := dx) (by rw [e]; exact True.intro) (.inr ho) (fun b q hb z => (sb.2 b hb).trans z) hd ?_
  refine ⟨by rw [upd_ne O.ne]; exact ho, ?_, O.ne, O'.obj, _, O'.ns, fun g => ?_, fun g hg => ?_⟩
  · have := length_putF f y fs; omega
  · show RelO ((putF f y fs).lookup g) (if g = f then some u else mA g)
    rw [lookup_putF]
    by_cases q : g = f
    · rw [if_pos q, if_pos q]; exact ry
    · rw [if_neg q, if_neg q]; exact r g
  · by_cases q : g = f
    · rw [q]; exact (keys_putF f y fs).1
    · refine (keys_putF f y fs).2 g (wi g fun z => hg ?_)
      show (if g = f then some u else mA g) = none
      rw [if_neg q]; exact z
theorem Inv.made (I : Inv X pins σ H s) : Inv X pins σ (upd (upd H s.heap.objs.size (.own (s.heap.objs.size + 1))) (s.heap.objs.size + 1) (.ins C s.heap.objs.size []))
    { s with heap := (s.heap.push PySem.W.emptyDict).push (PySem.W.instObj C s.heap.objs.size) } := by
  have e1 : (s.heap.push PySem.W.emptyDict).get? s.heap.objs.size = some PySem.W.emptyDict := Heap.get?_push_size s.heap rfl
  have e2 : ((s.heap.push PySem.W.emptyDict).push (PySem.W.instObj C s.heap.objs.size)).get? (s.heap.objs.size + 1) = some (PySem.W.instObj C s.heap.objs.size) := by
    have := Heap.get?_push_size (s.heap.push PySem.W.emptyDict) (o := PySem.W.instObj C s.heap.objs.size) rfl
    rwa [Heap.size_push] at this
  have e3 : (s.heap.push PySem.W.emptyDict).Ns s.heap.objs.size (fun _ => none) := ⟨PySem.W.emptyDict, #[], _, e1, rfl, (fun e he => absurd he (by simp)), fun _ => rfl⟩
  have I1 := I.laid (a := s.heap.objs.size) (o := .own (s.heap.objs.size + 1)) (h' := s.heap.push PySem.W.emptyDict) (t' := s.toks) (fun b u q => Heap.get?_push_of_some _ q) (Nat.le_refl _) ⟨_, e1⟩
  refine I1.laid (a := s.heap.objs.size + 1) (o := .ins C s.heap.objs.size []) (t' := s.toks) (fun b u q => Heap.get?_push_of_some _ q) (Nat.le_of_eq (Heap.size_push _ _)) ?_
  have ne : s.heap.objs.size ≠ s.heap.objs.size + 1 := Nat.ne_of_lt (Nat.lt_succ_self _)
  refine ⟨by rw [upd_ne ne, upd_same], Nat.zero_le _, ne, e2, fun _ => none, (Heap.Ns1.of_empty e3).at fun o q => Heap.get?_push_of_some _ q, fun _ => True.intro, fun y hy => absurd rfl hy⟩
theorem attr_of {prog : Program} {w : World} {env : Env} {e : Expr} {f : Str} {pos : Pos} {s : Shared} {Q : Value → Shared → Prop} (hb : attributeBase e f env (eval e env) = eval e env)
    (h : wpAny (model prog w) A (eval e env) (fun o s₁ => wpAny (model prog w) A (getAttr o f true) Q E s₁) E s) : wpAny (model prog w) A (eval (.Attribute e f pos) env) Q E s :=
  Attribute_any_ h (by rw [arm_eval_Attribute, hb])
end
section
variable {X : Cx} {o e value : Expr} {f : Str} {pos pos' tpos : Pos} {ta tv : TE}
end
section
variable {X : Cx} {pins : List (Addr × Obj)} {σ : St} {H : Hp} {s : Shared} {A : Around} {E : Value → Shared → Prop} {Q : Value → Shared → Prop} {c : Value} {b : Bool}
inductive TyOf (K : PySem.W.Frag) (H : Hp) : V → Value → Prop where
  | non : TyOf K H .non (.type "NoneType")
  | bl (x : Bool) : TyOf K H (.bl x) (.type "bool")
  | int (i : Int) : TyOf K H (.int i) (.type "int")
  | str (x : Str) : TyOf K H (.str x) (.type "str")
  | flt (x : UInt64) : TyOf K H (.flt x) (.type "float")
  | lst {a : Addr} {xs : List V} (e : H a = some (.lst xs)) : TyOf K H (.ref a) (.type "list")
  | frz {a : Addr} {o : Obj} {xs : List V} (e : H a = some (.frz o (.lst xs))) : TyOf K H (.ref a) (.type "list")
  | tup {a : Addr} {xs : List V} (e : H a = some (.tup xs)) : TyOf K H (.ref a) (.type "tuple")
  | dK {a : Addr} {kvs : List (Key × V)} (e : H a = some (.dK kvs)) : TyOf K H (.ref a) (.type "dict")
  | dT {a : Addr} {kvs : List (List Key × V)} (e : H a = some (.dT kvs)) : TyOf K H (.ref a) (.type "dict")
  | ins {a C dx : Addr} {fs : List (Str × V)} (e : H a = some (.ins C dx fs)) (cl : Cls K C) (ha : PySem.W.findIn K (.ref C) "__class__" = some (some (.builtin "object.__class__")))
      (hn : PySem.W.specialIn K (.builtin "object.__class__") "__get__" = some (some (.builtin "getset_descriptor.__get__"))) (htk : PySem.W.takesIn K (.builtin "object.__class__") = some true)
      (hm : PySem.W.mroIn K C (.type "object") = some true) : TyOf K H (.ref a) (.ref C)
end
end L2
namespace L2
open PySem PySem.Spec PyProof.Rows
structure Room (k : Nat) (A : Around) : Prop where
  hd : A.handled = none
  dp : A.depth + 3 * k + 5 < recursionLimit
  un : A.units + 16 * k + 200 < cLine
theorem Room.mono {j k : Nat} {A : Around} (r : Room k A) (h : j ≤ k) : Room j A := ⟨r.hd, by have := r.dp; omega, by have := r.un; omega⟩
theorem Room.deeper {k : Nat} {A : Around} (r : Room (k + 1) A) (env : Env) : Room k (A.deeper env) :=
  ⟨r.hd, by have := r.dp; show A.depth + 1 + 3 * k + 5 < _; omega, by have := r.un; show A.units + 3 + 16 * k + 200 < _; omega⟩
theorem make_depth {A : Around} {C : Addr} {us : List Value} {kw : List (Str × Value)} : (A.under (.builtin "type.__call__" ⟨.ref C :: us, kw⟩)).depth = A.depth + 1 := by
  first | rfl | simp [Around.under, Code.weight, Code.isCreation, Code.isGuard, Code.isCaller, Code.frames, Code.isFrame, guardIds]
theorem make_units {A : Around} {C : Addr} {us : List Value} {kw : List (Str × Value)} : (A.under (.builtin "type.__call__" ⟨.ref C :: us, kw⟩)).units = A.units + 1 := by
  first | rfl | simp [Around.under, Code.cUnits, Code.frames, Code.isFrame]
theorem Room.make {k : Nat} {A : Around} (r : Room (k + 1) A) (C : Addr) (us : List Value) (kw : List (Str × Value)) : Room k (A.under (.builtin "type.__call__" ⟨.ref C :: us, kw⟩)) :=
  ⟨r.hd, by have := r.dp; rw [make_depth]; omega, by have := r.un; rw [make_units]; omega⟩
theorem Room.depth {k : Nat} {A : Around} (r : Room k A) : A.depth < recursionLimit := by have := r.dp; omega
def tNil : TA := fun _ H Q => Q [] H
def tCons (ta : TE) (tr : TA) : TA := fun σ H Q => ta σ H fun x H1 => tr σ H1 fun xs H2 => Q (x :: xs) H2
section
variable {X : Cx} {e : Expr} {es : List Expr} {te : TE} {t : TA} {pos : Pos}
theorem pa_nil : PA X [] tNil := fun _ _ _ _ H Q I h => Calls.spliced_nil ⟨[], H, I, .nil, h⟩
theorem pa_cons (ha : PE X e te) (hr : PA X es t) (hs : starEach (e :: es) X.env = (false, eval e X.env) :: starEach es X.env := by rfl) : PA X (e :: es) (tCons te t) := by
  intro pos pins s σ H Q I h
  rw [hs]
  show wpAny _ _ (spliced ((false, eval e X.env) :: backTo pos (starEach es X.env))) _ _ s
  refine Calls.spliced_cons (thn (ha pins s σ H _ I h) fun u s1 ⟨x, H1, I1, r1, q1⟩ => ?_)
  exact thn (hr pos pins s1 σ H1 _ I1 q1) fun us s2 ⟨xs, H2, I2, r2, q2⟩ => ⟨x :: xs, H2, I2, .cons r1 r2, q2⟩
def tTup (t : TA) : TE := fun σ H Q => t σ H fun xs H1 => xs.length ≤ sizeLine ∧ ∀ p, H1 p = none → Q (.ref p) (upd H1 p (.tup xs))
def tLst (t : TA) : TE := fun σ H Q => t σ H fun xs H1 => xs.length ≤ sizeLine ∧ ∀ p, H1 p = none → Q (.ref p) (upd H1 p (.lst xs))
theorem pe_tup {x1} (h : PA X es t) : PE X (.Tuple es x1 pos) (tTup t) := by
  intro pins s σ H Q I hq
  refine wpAny_Tuple_spliced (thn (h pos pins s σ H _ I hq) fun us s1 ⟨xs, H1, I1, r, z, q⟩ => ⟨by rw [← r.length]; exact z, ?_⟩)
  have hf : H1 s1.heap.objs.size = none := I1.hok.fresh (Nat.le_refl _)
  refine ⟨.ref s1.heap.objs.size, upd H1 s1.heap.objs.size (.tup xs), I1.laid (t' := s1.toks) (fun b u e => Heap.get?_push_of_some _ e) (Nat.le_refl _) ?_, rfl, q _ hf⟩
  exact ⟨z, us, r, ⟨_, Heap.get?_push_size _ rfl, rfl, _, rfl⟩⟩
theorem pe_lst (h : PA X es t) : PE X (.List es pos) (tLst t) := by
  intro pins s σ H Q I hq
  refine wpAny_List_spliced (thn (h pos pins s σ H _ I hq) fun us s1 ⟨xs, H1, I1, r, z, q⟩ => ⟨by rw [← r.length]; exact z, ?_⟩)
  have hf : H1 s1.heap.objs.size = none := I1.hok.fresh (Nat.le_refl _)
  refine ⟨.ref s1.heap.objs.size, upd H1 s1.heap.objs.size (.lst xs), I1.laid (t' := s1.toks) (fun b u e => Heap.get?_push_of_some _ e) (Nat.le_refl _) ?_, rfl, q _ hf⟩
  exact ⟨z, us, 0, r, Heap.get?_push_size _ rfl⟩
end
abbrev Sp := List V → Hp → VK → XK → Prop
abbrev CXT := List Env → Hp → Shared → XK → Value → Shared → Prop
structure Env0 (P : Program) (w : World) (K : PySem.W.Frag) (mg : Str → Option Value) (base : Heap) (A : Around) (outer : List Env) (s : Shared) (H : Hp) : Prop where
  frames : A.frames = some outer
  mod : Mod K mg base
  bs : ∀ b o, base.get? b = some o → s.heap.get? b = some o ∧ H b = none
  bsz : base.objs.size ≤ s.heap.objs.size
  funs : s.heap.FunFrames base outer
  frf : ∀ b ∈ frs outer, H b = none
  hok : HOk P w H s.heap
  bare : AllBare s.gens
def CE (outer : List Env) (P : Program) (w : World) (H : Hp) (s : Shared) (Q : VK) (u : Value) (s' : Shared) : Prop :=
  ∃ v H', s'.os = s.os ∧ AllBare s'.gens ∧ Un (frs outer) [] H H' s.heap s'.heap ∧ HOk P w H' s'.heap ∧ RelV v u ∧ Q v H'
def CR (CX : CXT) (outer : List Env) (P : Program) (w : World) (H : Hp) (s : Shared) (Q : VK) (E : XK) (r : Result) (s' : Shared) : Prop :=
  match r with
  | .ok (.ret u) => CE outer P w H s Q u s'
  | .ok _ => False
  | .error e => CX outer H s E e s'
structure FnOk (P : Program) (w : World) (K : PySem.W.Frag) (mg : Str → Option Value) (base : Heap) (CX : CXT) (k : Nat) (f : Addr) (fd : FuncData) (ps : List Str) (sp : Sp) : Prop where
  len : ∀ vs H Q E, sp vs H Q E → vs.length = ps.length
  run : ∀ (A : Around) (outer : List Env) (s : Shared) (H : Hp) (args : Args) (us : List Value) (vs : List V) (Q : VK) (E : XK), Room k A → Env0 P w K mg base A outer s H → BindsTo s fd args (ps.zip us) → Vals vs us → sp vs H Q E →
    codeAny (model P w) A (.call (.ref f) args) (CR CX outer P w H s Q E) s
theorem Env0.make {P : Program} {w : World} {K : PySem.W.Frag} {mg : Str → Option Value} {base : Heap} {A : Around} {outer : List Env} {s : Shared} {H : Hp} (e : Env0 P w K mg base A outer s H) (C : Addr) (us : List Value) (kw : List (Str × Value)) :
    Env0 P w K mg base (A.under (.builtin "type.__call__" ⟨.ref C :: us, kw⟩)) outer s H := ⟨by first | exact e.frames | (simpa [Around.under, Code.envs, Code.isFrame, pushEnvs] using e.frames), e.mod, e.bs, e.bsz, e.funs, e.frf, e.hok, e.bare⟩
section
variable {X : Cx} {pins : List (Addr × Obj)} {σ : St} {H : Hp} {s s' : Shared}
theorem Inv.env0 (I : Inv X pins σ H s) : Env0 X.prog X.w X.K X.mg X.base X.A X.stack s H :=
  ⟨I.ok.frames, I.ok.mod, I.bs, Nat.le_trans I.ok.bsz I.sz, I.stack, I.stkFree, I.hok, I.bare⟩
theorem Inv.after {Q : VK} {u : Value} (I : Inv X pins σ H s) (h : CE X.stack X.prog X.w H s Q u s') : EP X pins σ Q u s' := by
  obtain ⟨v, H', os, bare, un, hok, r, q⟩ := h
  obtain ⟨hh, g, d, t, os'⟩ := s'
  obtain rfl : os' = s.os := os
  exact ⟨v, H', I.call (h' := hh) (g' := g) (d' := d) (t' := t) (ch := []) un hok bare (fun b z => absurd z (by simp)), r, q⟩
end
def tCall (sp : Sp) (dvs : List V) (E : XK) (t : TA) : TE := fun σ H Q => t σ H fun vs H1 => sp (vs ++ dvs) H1 Q E
def tMeth (C : Addr) (m : Str) (sp : Sp) (dvs : List V) (E : XK) (ta : TE) (t : TA) : TE := fun σ H Q => ta σ H fun x H1 => ∃ a dx fs, x = .ref a ∧ H1 a = some (.ins C dx fs) ∧ fs.lookup m = none ∧
  t σ H1 fun vs H2 => sp (x :: (vs ++ dvs)) H2 Q E
def tMake (C : Addr) (sp : Sp) (dvs : List V) (E : XK) (t : TA) : TE := fun σ H Q => t σ H fun vs H1 => ∀ x dx, H1 x = none → H1 dx = none → dx ≠ x →
  sp (.ref x :: (vs ++ dvs)) (upd (upd H1 dx (.own x)) x (.ins C dx [])) (fun v H2 => v = .non ∧ Q (.ref x) H2) E
def Binds (K : PySem.W.Frag) (fd : FuncData) (ps : List Str) (ds : List Value) : Prop :=
  ∀ (s : Shared) (us : List Value), K.In s.heap → (us ++ ds).length = ps.length → BindsTo s fd ⟨us, []⟩ (ps.zip (us ++ ds))
theorem Binds.all {K : PySem.W.Frag} {fd : FuncData} {ps : List Str} (h : ∀ us : List Value, us.length = ps.length → bindArgs fd ⟨us, []⟩ = pure (ps.zip us)) : Binds K fd ps [] := fun s us _ hl => by
  rw [List.append_nil] at hl ⊢
  exact .of_eq (h us hl)
def Passes (CX : CXT) (X : Cx) (E : XK) : Prop := ∀ (pins : List (Addr × Obj)) (σ : St) (H : Hp) (s : Shared) (e : Value) (s' : Shared), Inv X pins σ H s → CX X.stack H s E e s' → X.xe e s'
section
variable {X : Cx} {CX : CXT} {k : Nat} {f C : Addr} {fd : FuncData} {ps : List Str} {sp : Sp} {dvs : List V} {ds : List Value} {E : XK} {x m : Str} {p pos apos : Pos} {e o : Expr} {es : List Expr} {ta : TE} {t : TA}
theorem run_fn {pins : List (Addr × Obj)} {σ : St} {H : Hp} {s : Shared} {Q : VK} {us : List Value} {vs : List V} (F : FnOk X.prog X.w X.K X.mg X.base CX k f fd ps sp) (hr : Room k X.A) (hb : Binds X.K fd ps ds) (hd : Vals dvs ds) (hx : Passes CX X E)
    (I : Inv X pins σ H s) (r : Vals vs us) (h : sp (vs ++ dvs) H Q E) : wpAny (model X.prog X.w) X.A (call (.ref f) us) (EP X pins σ Q) X.xe s := by
  have r2 : Vals (vs ++ dvs) (us ++ ds) := r.append hd
  have hl : (us ++ ds).length = ps.length := by rw [← r2.length]; exact F.len _ _ _ _ h
  refine wpAny_call (codeAny_mono (F.run X.A X.stack s H ⟨us, []⟩ (us ++ ds) (vs ++ dvs) Q E hr I.env0 (hb s us I.kIn hl) r2 h) fun r s' hq => ?_)
  cases r with
  | error e => exact hx pins σ H s e s' I hq
  | ok fl =>
    cases fl with
    | ret u => exact I.after hq
    | next => exact False.elim hq
    | brk => exact False.elim hq
    | cont => exact False.elim hq
theorem pe_call (F : FnOk X.prog X.w X.K X.mg X.base CX k f fd ps sp) (hr : Room k X.A) (hg : Gl X x) (hm : X.mg x = some (.ref f)) (hk : PySem.W.keepIn X.K (.ref f) = true) (hb : Binds X.K fd ps ds) (hd : Vals dvs ds) (hx : Passes CX X E)
    (ha : PA X (e :: es) t) (hdb : (x == ("__debug__" : Str)) = false := by decide) (he : starEach (e :: es) X.env = (false, eval e X.env) :: starEach es X.env := by rfl) (hpl : (backTo pos (starEach es X.env)).any (·.1) = false := by rfl) :
    PE X (.Call (.Name x p) (e :: es) [] pos) (tCall sp dvs E t) := by
  intro pins s σ H Q I h
  refine wpAny_Call_Name_kw (ld_glob I hg hm ?_ hdb)
  refine PySem.W.callWith_K (h₀ := X.base) I.ok.mod.kin hk (thn (ha pos pins s σ H _ I h) fun us s1 ⟨vs, H1, I1, r, q⟩ => ⟨I1.kIn, ?_⟩) he hpl
  exact run_fn F hr hb hd hx I1 r q
theorem pe_meth {pl : Sem Bool} (he : PE X o ta) (c : Cls X.K C) (hm : Meth X.K C m f) (F : FnOk X.prog X.w X.K X.mg X.base CX k f fd ps sp) (hr : Room k X.A) (hb : Binds X.K fd ps ds) (hd : Vals dvs ds) (hx : Passes CX X E) (ha : PA X (e :: es) t)
    (hst : starEach (e :: es) X.env = (false, eval e X.env) :: starEach es X.env := by rfl) (hpl : (backTo pos (starEach es X.env)).any (·.1) = false := by rfl)
    (ht : eval (.Call (.Attribute o m apos) (e :: es) [] pos) X.env = (do
      let ov ← eval o X.env
      standAt apos.atName
      let (f, first) ← holding [ov] (getMethod ov m pl)
      callWith pos f first (backTo pos (starEach (e :: es) X.env)) (backToKw pos (keywordEach [] X.env))) := by rfl) :
    PE X (.Call (.Attribute o m apos) (e :: es) [] pos) (tMeth C m sp dvs E ta t) := by
  intro pins s σ H Q I h
  refine PySem.W.methodCall_KW (pl := pl) (thn (he pins s σ H _ I h) fun u s1 ⟨x, H1, I1, rx, a, dx, fs, ex, ea, l, q⟩ => ?_) ht
  subst ex
  obtain rfl : u = Value.ref a := rx
  refine getmeth_ok I1 ea c hm l ?_
  refine PySem.W.callWith_K (first := [.ref a]) (h₀ := X.base) I.ok.mod.kin hm.kp (thn (ha pos pins s1 σ H1 _ I1 q) fun us s2 ⟨vs, H2, I2, r, q2⟩ => ⟨I2.kIn, ?_⟩) hst hpl
  exact run_fn (us := .ref a :: us) (vs := .ref a :: vs) F hr hb hd hx I2 (.cons rfl r) q2
theorem pe_meth0 {pl : Sem Bool} (he : PE X o ta) (c : Cls X.K C) (hm : Meth X.K C m f) (F : FnOk X.prog X.w X.K X.mg X.base CX k f fd ps sp) (hr : Room k X.A) (hb : Binds X.K fd ps ds) (hd : Vals dvs ds) (hx : Passes CX X E)
    (ht : eval (.Call (.Attribute o m apos) [] [] pos) X.env = (do
      let ov ← eval o X.env
      standAt apos.atName
      let (f, first) ← holding [ov] (getMethod ov m pl)
      callWith pos f first (backTo pos (starEach [] X.env)) (backToKw pos (keywordEach [] X.env))) := by rfl) :
    PE X (.Call (.Attribute o m apos) [] [] pos) (tMeth C m sp dvs E ta tNil) := by
  intro pins s σ H Q I h
  refine PySem.W.methodCall_KW (pl := pl) (thn (he pins s σ H _ I h) fun u s1 ⟨x, H1, I1, rx, a, dx, fs, ex, ea, l, q⟩ => ?_) ht
  subst ex
  obtain rfl : u = Value.ref a := rx
  refine getmeth_ok I1 ea c hm l ?_
  exact PySem.W.callWith_K0 (first := [.ref a]) I1.kIn hm.kp (run_fn (us := [.ref a]) (vs := [.ref a]) F hr hb hd hx I1 (.cons rfl .nil) q)
structure Mk (K : PySem.W.Frag) (C f : Addr) : Prop where
  makes : PySem.W.makesIn K C = true
  init : PySem.W.findIn K (.ref C) "__init__" = some (some (.ref f))
  fn : PySem.W.isFn K (.ref f) = true
  kp : PySem.W.keepIn K (.ref C) = true
theorem run_make {pins : List (Addr × Obj)} {σ : St} {H : Hp} {s : Shared} {Q : VK} {us : List Value} {vs : List V} (M : Mk X.K C f) (F : FnOk X.prog X.w X.K X.mg X.base CX k f fd ps sp) (hr : Room (k + 1) X.A) (hb : Binds X.K fd ps ds) (hd : Vals dvs ds)
    (hx : Passes CX X E) (I : Inv X pins σ H s) (r : Vals vs us)
    (h : ∀ x dx, H x = none → H dx = none → dx ≠ x → sp (.ref x :: (vs ++ dvs)) (upd (upd H dx (.own x)) x (.ins C dx [])) (fun v H2 => v = .non ∧ Q (.ref x) H2) E) :
    wpAny (model X.prog X.w) X.A (call (.ref C) us) (EP X pins σ Q) X.xe s := by
  have hq := h (s.heap.objs.size + 1) s.heap.objs.size (I.hok.fresh (Nat.le_succ _)) (I.hok.fresh (Nat.le_refl _)) (Nat.ne_of_lt (Nat.lt_succ_self _))
  have I2 := Inv.made (C := C) I
  have r2 : Vals (V.ref (s.heap.objs.size + 1) :: (vs ++ dvs)) (Value.ref (s.heap.objs.size + 1) :: (us ++ ds)) := .cons rfl (r.append hd)
  have hl : (Value.ref (s.heap.objs.size + 1) :: us ++ ds).length = ps.length := by
    have e := r2.length
    rw [F.len _ _ _ _ hq] at e
    exact e.symm
  refine wpAny_call (make_map (f := f) I.kIn M.makes M.init (beq_iff_eq.mp M.fn) (codeAny_mono (F.run _ X.stack _ _ ⟨Value.ref (s.heap.objs.size + 1) :: us, []⟩ (Value.ref (s.heap.objs.size + 1) :: (us ++ ds)) _ _ E (hr.make C us [])
    (I2.env0.make C us []) (hb _ (Value.ref (s.heap.objs.size + 1) :: us) I2.kIn hl) r2 hq) fun r s' hq' => ?_))
  cases r with
  | error e => exact hx pins σ _ _ e s' I2 hq'
  | ok fl =>
    cases fl with
    | ret u =>
      obtain ⟨v, H', I3, rv, ev, q3⟩ := I2.after hq'
      subst ev
      exact ⟨rv, ⟨V.ref (s.heap.objs.size + 1), H', I3, rfl, q3⟩⟩
    | next => exact False.elim hq'
    | brk => exact False.elim hq'
    | cont => exact False.elim hq'
theorem pe_make (M : Mk X.K C f) (F : FnOk X.prog X.w X.K X.mg X.base CX k f fd ps sp) (hr : Room (k + 1) X.A) (hg : Gl X x) (hm : X.mg x = some (.ref C)) (hb : Binds X.K fd ps ds) (hd : Vals dvs ds) (hx : Passes CX X E)
    (ha : PA X (e :: es) t) (hdb : (x == ("__debug__" : Str)) = false := by decide) (he : starEach (e :: es) X.env = (false, eval e X.env) :: starEach es X.env := by rfl) (hpl : (backTo pos (starEach es X.env)).any (·.1) = false := by rfl) :
    PE X (.Call (.Name x p) (e :: es) [] pos) (tMake C sp dvs E t) := by
  intro pins s σ H Q I h
  refine wpAny_Call_Name_kw (ld_glob I hg hm ?_ hdb)
  refine PySem.W.callWith_K (h₀ := X.base) I.ok.mod.kin M.kp (thn (ha pos pins s σ H _ I h) fun us s1 ⟨vs, H1, I1, r, q⟩ => ⟨I1.kIn, ?_⟩) he hpl
  exact run_make M F hr hb hd hx I1 r q
end
section
variable {X : Cx} {CX : CXT} {k : Nat} {f C : Addr} {fd : FuncData} {ps ks : List Str} {sp : Sp} {E : XK} {x m : Str} {p pos apos kpos : Pos} {e o : Expr} {es : List Expr} {kws : List Keyword} {te ta : TE} {t tk : TA} {nm : Option Str}
structure KBinds (K : PySem.W.Frag) (fd : FuncData) (ps ks : List Str) (g : List Value → List Value → List Value) (gV : List V → List V → List V) : Prop where
  to : ∀ (s : Shared) (us ws : List Value), K.In s.heap → (g us ws).length = ps.length → BindsTo s fd ⟨us, ks.zip ws⟩ (ps.zip (g us ws))
  rel : ∀ {vs : List V} {us : List Value} {zs : List V} {ws : List Value}, Vals vs us → Vals zs ws → Vals (gV vs zs) (g us ws)
variable {g : List Value → List Value → List Value} {gV : List V → List V → List V}
end
structure FnScope (N P : List Str) (sc : Scope) : Prop where
  kind : sc.kind = .function
  co : sc.isCoroutine = false
  gen : sc.isGenerator = false
  nd : N.Nodup
  pre : N.take P.length = P
  par : ∀ x ∈ P, sc.names.lookup x = some .local ∨ sc.names.lookup x = some .cell
  nofree : ∀ y ∈ sc.names, y.2 ≠ .free
theorem bindL_out {kindOf : Str → Option NameKind} {x : Str} : ∀ {binds : List (Str × Value)} {m : Str → Option Value}, (∀ v, (x, v) ∉ binds) → bindL kindOf binds m x = m x
  | [], _, _ => rfl
  | (n, v) :: r, m, h => by
    unfold bindL
    rw [bindL_out fun w hw => h w (List.mem_cons_of_mem _ hw)]
    split
    · have : x ≠ n := by rintro rfl; exact h v List.mem_cons_self
      simp [this]
    · rfl
theorem bindC_out {kindOf : Str → Option NameKind} {x : Str} : ∀ {binds : List (Str × Value)} {m : Str → Option Value}, (∀ v, (x, v) ∉ binds) → bindC kindOf binds m x = m x
  | [], _, _ => rfl
  | (n, v) :: r, m, h => by
    unfold bindC
    rw [bindC_out fun w hw => h w (List.mem_cons_of_mem _ hw)]
    split
    · rfl
    · have : x ≠ n := by rintro rfl; exact h v List.mem_cons_self
      simp [this]
theorem bindL_get {kindOf : Str → Option NameKind} {x : Str} {v : Value} : ∀ {P : List Str} {vs : List Value} {i : Nat} {m : Str → Option Value}, P.Nodup → P[i]? = some x → vs[i]? = some v → kindOf x = some .local →
    bindL kindOf (P.zip vs) m x = some v
  | [], _, _, _, _, h, _, _ => by simp at h
  | _ :: _, [], _, _, _, _, h, _ => by simp at h
  | p :: P, w :: vs, 0, m, nd, h1, h2, hk => by
    simp at h1 h2; subst h1; subst h2
    show bindL kindOf ((p, w) :: P.zip vs) m p = _
    unfold bindL
    rw [bindL_out fun v hv => (List.nodup_cons.mp nd).1 (List.of_mem_zip hv).1, if_pos hk]
    simp
  | p :: P, w :: vs, i + 1, m, nd, h1, h2, hk => by
    show bindL kindOf ((p, w) :: P.zip vs) m x = _
    unfold bindL
    exact bindL_get (i := i) (List.nodup_cons.mp nd).2 (by simpa using h1) (by simpa using h2) hk
theorem bindC_get {kindOf : Str → Option NameKind} {x : Str} {v : Value} : ∀ {P : List Str} {vs : List Value} {i : Nat} {m : Str → Option Value}, P.Nodup → P[i]? = some x → vs[i]? = some v → kindOf x ≠ some .local →
    bindC kindOf (P.zip vs) m x = some v
  | [], _, _, _, _, h, _, _ => by simp at h
  | _ :: _, [], _, _, _, _, h, _ => by simp at h
  | p :: P, w :: vs, 0, m, nd, h1, h2, hk => by
    simp at h1 h2; subst h1; subst h2
    show bindC kindOf ((p, w) :: P.zip vs) m p = _
    unfold bindC
    rw [bindC_out fun v hv => (List.nodup_cons.mp nd).1 (List.of_mem_zip hv).1, if_neg hk]
    simp
  | p :: P, w :: vs, i + 1, m, nd, h1, h2, hk => by
    show bindC kindOf ((p, w) :: P.zip vs) m x = _
    unfold bindC
    exact bindC_get (i := i) (List.nodup_cons.mp nd).2 (by simpa using h1) (by simpa using h2) hk
def start (N : List Str) (vs : List V) : St := vs.map some ++ List.replicate (N.length - vs.length) none
def cxOf (CX : CXT) (P : Program) (w : World) (K : PySem.W.Frag) (mg : Str → Option Value) (base : Heap) (N : List Str) (qual : Str) (scope : Scope) (f : Addr) (cd : Value) (A : Around) (outer : List Env) (s : Shared) (H : Hp) (E : XK) : Cx where
  prog := P
  w := w
  K := K
  mg := mg
  base := base
  A := A.deeper (envOfC qual scope s.heap.objs.size f cd)
  N := N
  s₀ := s
  H₀ := H
  env := envOfC qual scope s.heap.objs.size f cd
  outer := outer
  stack := envOfC qual scope s.heap.objs.size f cd :: outer
  ex := []
  calm := true
  fn := fun _ => true
  pn := []
  xe := fun e s' => wpAny (model P w) (A.deeper (envOfC qual scope s.heap.objs.size f cd)) (leaving (envOfC qual scope s.heap.objs.size f cd) e) (fun _ s'' => CX outer H s E e s'') (fun e' s'' => CX outer H s E e' s'') s'
theorem cell_has {sc : Scope} {n : Nat} {x : Str} (h : sc.names.lookup x = some .cell) : ∃ c, (cellsFrom n sc.names []).lookup x = some c := by
  have q := PySem.W.cellsFrom_some sc.names n [] (.inl h)
  exact Option.isSome_iff_exists.mp q
theorem inv_start {CX : CXT} {P : Program} {w : World} {K : PySem.W.Frag} {mg : Str → Option Value} {base : Heap} {N ps : List Str} {qual : Str} {scope : Scope} {f : Addr} {cd : Value} {A : Around} {outer : List Env} {s s1 : Shared} {H : Hp} {E : XK} {us : List Value} {vs : List V}
    (S : FnScope N ps scope) (hd : A.handled = none) (e0 : Env0 P w K mg base A outer s H) (hl : vs.length = ps.length) (r : Vals vs us)
    (x : InCallC s s.heap.objs.size (bindL (envOfC qual scope s.heap.objs.size f cd).kindOf (ps.zip us) fun _ => none) (cellsFrom (s.heap.objs.size + 1) scope.names []) (bindC (envOfC qual scope s.heap.objs.size f cd).kindOf (ps.zip us) fun _ => none) s1) :
    Inv (cxOf CX P w K mg base N qual scope f cd A outer s H E) [] (start N vs) H s1 := by
  have hpl : ps.length ≤ N.length := by have := congrArg List.length S.pre; rw [List.length_take] at this; omega
  obtain ⟨h1, tk, rfl, hk⟩ := x.done
  have noA : ∀ b : Addr, b ∉ (cxOf CX P w K mg base N qual scope f cd A outer s H E).ex := fun b z => absurd (show b ∈ ([] : List Addr) from z) (by simp)
  refine ⟨⟨e0.mod, S.kind, rfl, rfl, Nat.le_refl _, fun y z c h1 h2 => ?_, fun y hy => ?_, fun y c _ h => ?_, fun _ => hd, Around.frames_deeper e0.frames, .inr ⟨rfl, rfl⟩, fun b z => absurd z (noA b), e0.bs, e0.bsz, fun b _ _ => noA b, fun b z => absurd z (noA b), e0.funs, e0.frf⟩,
    rfl, e0.bare, Un.kept hk, ⟨_, x.toInCall.ns, fun i y v h1 h2 h3 => ?_⟩, fun y c h => ⟨_, x.cell y c h⟩, e0.hok.fresh (Nat.le_refl _), fun y c h => ?_, fun p hp => absurd (show p ∈ ([] : List (Addr × Obj)) from hp) (by simp), e0.hok.kept hk, ?_⟩
  · exact name_of_addr x.apart (PySem.mem_of_lookup h1) (PySem.mem_of_lookup h2)
  · have hy : scope.names.lookup y = some .cell ∨ scope.names.lookup y = some .free := hy
    rcases hy with hy | hy
    · exact cell_has hy
    · exact absurd rfl (S.nofree _ (PySem.mem_of_lookup hy))
  · exact Nat.le_of_lt (x.above y c (PySem.mem_of_lookup h))
  · have hi : i < vs.length := by
      unfold start at h2
      by_cases hi : i < vs.length
      · exact hi
      · rw [List.getElem?_append_right (by simpa using hi)] at h2
        rw [List.getElem?_replicate] at h2
        split at h2 <;> cases h2
    have ha : vs[i]? = some v := by
      unfold start at h2
      rw [List.getElem?_append_left (by simpa using hi), List.getElem?_map] at h2
      cases e : vs[i]? with
      | none => rw [e] at h2; cases h2
      | some a => rw [e] at h2; cases h2; rfl
    obtain ⟨u, hu, rv⟩ := r.get ha
    have hp : ps[i]? = some y := by
      rw [← S.pre, List.getElem?_take_of_lt (by omega)]; exact h1
    have ndP : ps.Nodup := by rw [← S.pre]; exact S.nd.sublist (List.take_sublist _ _)
    refine ⟨u, rv, ?_⟩
    rcases S.par y (List.mem_of_getElem? hp) with k | k
    · exact .inl ⟨k, bindL_get ndP hp hu k⟩
    · obtain ⟨c, e⟩ := cell_has (n := s.heap.objs.size + 1) k
      refine .inr ⟨.inl k, c, e, ?_⟩
      have q := x.cell y c e
      rw [bindC_get ndP hp hu (by show scope.names.lookup y ≠ _; rw [k]; decide)] at q
      exact q
  · exact e0.hok.fresh (Nat.le_of_lt (x.above y c (PySem.mem_of_lookup h)))
  · unfold start
    show _ = N.length
    rw [List.length_append, List.length_map, List.length_replicate]
    omega
theorem fn_of {CX : CXT} {P : Program} {w : World} {K : PySem.W.Frag} {mg : Str → Option Value} {base : Heap} {k : Nat} {f : Addr} {name qual : Str} {params : Arguments} {body : List Stmt} {scope : Scope} {dV kV doc pm cdv ct oc : Value} {an od : Option Addr}
    {osl : Array (Option Value)} {N ps : List Str} {sp : Sp} (lk : K.lookup f = some ⟨oc, od, .func (PySem.W.fnOf name qual params body scope dV kV doc pm an cdv ct), osl⟩) (hcd : PySem.W.codeIn K cdv qual = true) (S : FnScope N ps scope)
    (len : ∀ vs H Q E, sp vs H Q E → vs.length = ps.length)
    (hbody : ∀ (A : Around) (outer : List Env) (s : Shared) (H : Hp) (vs : List V) (Q : VK) (E : XK), Room k (A.deeper (envOfC qual scope s.heap.objs.size f cdv)) → sp vs H Q E →
      ∃ t, PSs (cxOf CX P w K mg base N qual scope f cdv A outer s H E) body t ∧ t { nx := fun _ H' => Q .non H', rt := Q } (start N vs) H) :
    FnOk P w K mg base CX (k + 1) f (PySem.W.fnOf name qual params body scope dV kV doc pm an cdv ct) ps sp := by
  refine ⟨len, fun A outer s H args us vs Q E hr e0 hb r hsp => ?_⟩
  have hl := len _ _ _ _ hsp
  have KX : K.In s.heap := e0.mod.kin.keeps fun b o e => (e0.bs b o e).1
  have lim : s.heap.NoLimit := e0.mod.nolimit.keeps fun b o e => (e0.bs b o e).1
  have hkind : ∀ y ∈ ps.zip us, scope.names.lookup y.1 = some .local ∨ (scope.names.lookup y.1 = some .cell ∧ ((cellsFrom (s.heap.objs.size + 1) scope.names []).lookup y.1).isSome = true) := fun ⟨n, v⟩ hy => by
    rcases S.par n (List.of_mem_zip hy).1 with q | q
    · exact .inl q
    · exact .inr ⟨q, PySem.W.cellsFrom_some _ _ _ (.inl q)⟩
  refine codeAny_call_function hr.depth (KX _ _ lk) rfl S.co S.gen rfl (PySem.W.codeRec_of KX hcd) (hb _ _ _ _ ?_)
  refine wpAny_newFunctionEnv_cells S.kind hkind fun env he s1 x => ?_
  subst he
  refine ⟨lim.keeps x.toInCall.keep, codeAny_func ?_⟩
  obtain ⟨t, ht, hq⟩ := hbody A outer s H vs Q E (hr.deeper _) hsp
  have I : Inv (cxOf CX P w K mg base N qual scope f cdv A outer s H E) [] (start N vs) H s1 := inv_start S hr.hd e0 hl r x
  refine wpAny_mono (ht [] s1 (start N vs) H _ I hq) (fun fl s' hs => ?_) fun e s' hs => hs
  have fin : ∀ {σ' : St} {H' : Hp} {v : V} {u : Value}, Inv (cxOf CX P w K mg base N qual scope f cdv A outer s H E) [] σ' H' s' → RelV v u → Q v H' → CE outer P w H s Q u s' :=
    fun {σ' H' v u} J rv q => ⟨v, H', J.os, J.bare, J.base, J.hok, rv, q⟩
  cases fl with
  | ret u =>
    obtain ⟨v, σ', H', J, rv, q⟩ := hs
    exact fin J rv q
  | next =>
    obtain ⟨σ', H', J, q⟩ := hs
    exact fin (v := V.non) (u := Value.none) J rfl q
  | brk =>
    obtain ⟨_, _, _, q⟩ := hs
    exact False.elim q
  | cont =>
    obtain ⟨_, _, _, q⟩ := hs
    exact False.elim q
end L2
namespace L2
open PySem PySem.Spec PyProof.Rows
section
variable {X : Cx} {x : Str} {p pos : Pos} {e : Expr} {es : List Expr} {t : TA} {id T : String} {r : List V → Hp → VK → Prop}
def tCB (r : List V → Hp → VK → Prop) (t : TA) : TE := fun σ H Q => t σ H fun vs H1 => r vs H1 Q
theorem pe_callB (hc : CallR X (.builtin id) r) (hg : Gl X x) (hm : X.mg x = none) (hv : bootBuiltins x = some (.builtin id)) (ha : PA X (e :: es) t) (hn : x ≠ "__name__" := by decide) (hdb : (x == ("__debug__" : Str)) = false := by decide)
    (he : starEach (e :: es) X.env = (false, eval e X.env) :: starEach es X.env := by rfl) (hpl : (backTo pos (starEach es X.env)).any (·.1) = false := by rfl) : PE X (.Call (.Name x p) (e :: es) [] pos) (tCB r t) := by
  intro pins s σ H Q I h
  refine wpAny_Call_Name_kw (ld_blt I hg hm hv ?_ hn hdb)
  exact PyProof.Rows.callWith_builtin1 (thn (ha pos pins s σ H _ I h) fun us s1 ⟨vs, H1, I1, r1, q1⟩ => hc pins s1 σ H1 vs us Q I1 r1 q1) he hpl
theorem pe_callTy (hc : CallR X (.type T) r) (hg : Gl X x) (hm : X.mg x = none) (hv : bootBuiltins x = some (.type T)) (ha : PA X (e :: es) t) (hn : x ≠ "__name__" := by decide) (hdb : (x == ("__debug__" : Str)) = false := by decide)
    (he : starEach (e :: es) X.env = (false, eval e X.env) :: starEach es X.env := by rfl) (hpl : (backTo pos (starEach es X.env)).any (·.1) = false := by rfl) : PE X (.Call (.Name x p) (e :: es) [] pos) (tCB r t) := by
  intro pins s σ H Q I h
  refine wpAny_Call_Name_kw (ld_blt I hg hm hv ?_ hn hdb)
  exact PyProof.Rows.callWith_type1 (thn (ha pos pins s σ H _ I h) fun us s1 ⟨vs, H1, I1, r1, q1⟩ => hc pins s1 σ H1 vs us Q I1 r1 q1) he hpl
end
end L2
namespace HT
open PySem PyProof.Rows
section
open PySem.SeqAt
open PySem.AutoSeq1 (wpAny_loadPart')
open PySem.MeetsSeq PySem.MeetsSeq2 PySem.MeetsSeq3
end
section
variable {prog : Program} {w : World} {A : Around} {E : Value → Shared → Prop} {s : Shared}
theorem cat_tup {t b : Addr} {vs ws : List Value} {Q : Value → Shared → Prop} (ht : IsTup s.heap t vs.toArray) (hb : IsTup s.heap b ws.toArray) (hv : vs ≠ [])
    (h1 : ws = [] → Q (.ref t) s) (h2 : ws ≠ [] → Q (.ref s.heap.objs.size) { s with heap := s.heap.push { cls := .type "tuple", data := .seq (vs ++ ws).toArray } })
    (hsz : vs.length + ws.length ≤ sizeLine) : wpAny (model prog w) A (binaryOp .Add (.ref t) (.ref b)) Q E s := by
  obtain ⟨⟨cls, dd, data, sl⟩, ho, hc, n, hd⟩ := id ht
  obtain ⟨⟨cls2, dd2, data2, sl2⟩, ho2, hc2, n2, hd2⟩ := id hb
  simp only at hc hd hc2 hd2
  subst hc hd hc2 hd2
  have e : vs.toArray ++ ws.toArray = (vs ++ ws).toArray := by simp
  by_cases hw : ws = []
  · exact concat_meets ⟨_, ho, rfl⟩ ⟨_, ho2, rfl⟩ noFill_tuple_add seq_tuple_add PySem.F.slot_tuple_add PySem.F.entry_tuple_add (PySem.F.args_tuple_add_2 _ _)
      (tuple_addW1 t b vs.toArray ws.toArray n n2 dd dd2 sl sl2 (by simpa using hv) (by simp [hw])) ⟨ho, ho2, h1 hw⟩
  · refine concat_meets ⟨_, ho, rfl⟩ ⟨_, ho2, rfl⟩ noFill_tuple_add seq_tuple_add PySem.F.slot_tuple_add PySem.F.entry_tuple_add (PySem.F.args_tuple_add_2 _ _)
      (tuple_addW2 t b vs.toArray ws.toArray n n2 dd dd2 sl sl2 (by simpa using hv) (by simpa using hw) (by rw [List.size_toArray, List.size_toArray]; exact hsz)) ⟨ho, ho2, ?_⟩
    rw [e]
    exact h2 hw
def sIx (n d : Nat) : Option Int → Nat
  | none => d
  | some v => if v < 0 then (v + (n : Int)).toNat else min v.toNat n
theorem sIx_none (n d : Nat) : sIx n d none = d := rfl
theorem sIx_nat (n d k : Nat) : sIx n d (some (k : Int)) = min k n := by
  show (if (k : Int) < 0 then ((k : Int) + (n : Int)).toNat else min (k : Int).toNat n) = min k n
  rw [if_neg (by omega), Int.toNat_natCast]
theorem sIx_le (n d : Nat) (hd : d ≤ n) (o : Option Int) : sIx n d o ≤ n := by
  cases o with
  | none => exact hd
  | some v =>
    show (if v < 0 then (v + (n : Int)).toNat else min v.toNat n) ≤ n
    by_cases hv : v < 0
    · rw [if_pos hv]; omega
    · rw [if_neg hv]; exact Nat.min_le_right _ _
theorem clip_eq (v : Int) (n d : Nat) : (if v < 0 then max (v + (n : Int)) 0 else min v (n : Int)) = ((sIx n d (some v) : Nat) : Int) := by
  show (if v < 0 then max (v + (n : Int)) 0 else min v (n : Int)) = (((if v < 0 then (v + (n : Int)).toNat else min v.toNat n) : Nat) : Int)
  by_cases hv : v < 0
  · simp only [if_pos hv]; omega
  · simp only [if_neg hv]; omega
theorem adjust_gen (lo hi : Option Int) (n : Nat) : Builtin.Slice.sliceAdjust lo hi 1 (n : Int) = (((sIx n 0 lo : Nat) : Int), ((sIx n n hi : Nat) : Int)) := by
  have h1 : ¬ ((1 : Int) < 0) := by omega
  unfold Builtin.Slice.sliceAdjust
  simp only [h1, if_false]
  refine Prod.ext ?_ ?_
  · cases lo with
    | none => rfl
    | some v => exact clip_eq v n 0
  · cases hi with
    | none => rfl
    | some v => exact clip_eq v n n
theorem places_gen (i j : Nat) : Builtin.Slice.slicePlaces (i : Int) (j : Int) 1 = j - i := by
  unfold Builtin.Slice.slicePlaces
  have h1 : (1 : Int) > 0 := by omega
  simp only [h1, if_true, Int.ediv_one]
  split <;> omega
theorem slicePart_ {v : Value} {o : Option Int} {Q : Option Int → Shared → Prop} (p : IsPart v o) (h : Q o s) : wpAny (model prog w) A (Builtin.Slice.slicePartIndex v) Q E s := by
  cases p with
  | none => exact slicePart_none h
  | int i t => exact slicePart_int h
theorem sliceApplied_gen {sl : Addr} {vl vu : Value} {lo hi : Option Int} {n : Nat} {Q : Int × Int × Nat → Shared → Prop} (hs : s.heap.IsSliceOf sl vl vu .none) (pl : IsPart vl lo) (pu : IsPart vu hi)
    (h : Q (((sIx n 0 lo : Nat) : Int), 1, sIx n n hi - sIx n 0 lo) s) : wpAny (model prog w) A (Builtin.Slice.sliceApplied (.ref sl) (pure (n : Int))) Q E s := by
  obtain ⟨os, hos, hcs, hds⟩ := id hs
  unfold Builtin.Slice.sliceApplied Builtin.Slice.sliceFields
  refine wpAny_bind (wpAny_bind (wpAny_field hos hds (x := vl) rfl (wpAny_bind (wpAny_field hos hds (x := vu) rfl (wpAny_bind (wpAny_field hos hds (x := .none) rfl (wpAny_pure ?_)))))))
  refine wpAny_bind (slicePart_none ?_)
  show wpAny _ _ (if ((1 : Int) == 0) = true then _ else _) _ _ s
  rw [if_neg (by decide)]
  refine wpAny_bind (slicePart_ pl (wpAny_bind (slicePart_ pu (wpAny_bind (wpAny_pure ?_)))))
  show wpAny _ _ (match Builtin.Slice.sliceAdjust lo hi 1 (n : Int) with | (lo, hi) => pure (lo, (1 : Int), Builtin.Slice.slicePlaces lo hi 1)) _ _ s
  rw [adjust_gen lo hi n]
  show wpAny _ _ (pure (((sIx n 0 lo : Nat) : Int), (1 : Int), Builtin.Slice.slicePlaces ((sIx n 0 lo : Nat) : Int) ((sIx n n hi : Nat) : Int) 1)) _ _ s
  rw [places_gen]
  exact wpAny_pure h
theorem pick_gen (xs : Array Value) (i k : Nat) : ((List.range k).filterMap fun (m : Nat) => xs[((i : Int) + (m : Int) * 1).toNat]?).toArray = ((xs.toList.drop i).take k).toArray := by
  have e : (fun (m : Nat) => xs[((i : Int) + (m : Int) * 1).toNat]?) = fun m => xs[i + m]? := by
    funext m
    have : ((i : Int) + (m : Int) * 1).toNat = i + m := by omega
    rw [this]
  rw [e]
  have := pick_run xs i k
  rw [List.filterMap_map] at this
  have e2 : ((fun x => xs[x]?) ∘ fun x => i + x) = fun m => xs[i + m]? := rfl
  rw [e2] at this
  rw [this]
theorem getItem_tuple_cut {t sl : Addr} {items : Array Value} {vl vu : Value} {lo hi : Option Int} {Q : Value → Shared → Prop} (ht : IsTup s.heap t items) (hs : s.heap.IsSliceOf sl vl vu .none) (pl : IsPart vl lo) (pu : IsPart vu hi)
    (hw : ¬ (sIx items.size 0 lo = 0 ∧ sIx items.size items.size hi = items.size))
    (h : Q (.ref s.heap.objs.size) { s with heap := s.heap.push { cls := .type "tuple", data := .seq ((items.toList.drop (sIx items.size 0 lo)).take (sIx items.size items.size hi - sIx items.size 0 lo)).toArray } })
    (hsz : items.size ≤ sizeLine) : wpAny (model prog w) A (getItem (.ref t) (.ref sl)) Q E s := by
  have htake : sizeOk (.seq ((items.toList.drop (sIx items.size 0 lo)).take (sIx items.size items.size hi - sIx items.size 0 lo)).toArray) := by
    show ((items.toList.drop (sIx items.size 0 lo)).take (sIx items.size items.size hi - sIx items.size 0 lo)).toArray.size ≤ sizeLine
    rw [List.size_toArray, List.length_take, List.length_drop, Array.length_toList]
    omega
  have hj : sIx items.size items.size hi ≤ items.size := sIx_le _ _ (Nat.le_refl _) hi
  obtain ⟨os, hos, hcs, hds⟩ := id hs
  have hTs : s.TypeIs (.ref sl) "slice" := ⟨os, hos, hcs⟩
  unfold getItem
  try with_reducible refine wpAny_holding ?_
  first | refine wpAny_bind (wpAny_pure ?_) | skip
  refine wpAny_bind (wpAny_sequenceKey ht.typeIs (by decide) ?_)
  refine wpAny_bind (wpAny_callSpecial?_slot (name := Str.ofString "__getitem__") ht.typeIs PyProof.Rows.slot_tuple_getitem
    (wpAny_call_entry PyProof.Rows.slot_tuple_getitem ht.typeIs entry_tuple_getitem ?_ (args_tuple_getitem _ _)))
  show wpAny _ _ (Builtin.Tuple.tupleItemsOf (.ref t) >>= _) _ _ s
  refine wpAny_bind (tupleItemsOf_ ht ?_)
  refine wpAny_bind (wpAny_typeOf hTs ?_)
  rw [if_pos (by decide)]
  refine wpAny_bind (sliceApplied_gen hs pl pu ?_)
  have hno : ¬ ((((sIx items.size 0 lo : Nat) : Int) == 0 && (1 : Int) == 1 && (sIx items.size items.size hi - sIx items.size 0 lo) == items.size) = true) := by
    intro q
    rw [Bool.and_eq_true, Bool.and_eq_true] at q
    have q1 : ((sIx items.size 0 lo : Nat) : Int) = 0 := eq_of_beq q.1.1
    have q2 : sIx items.size items.size hi - sIx items.size 0 lo = items.size := eq_of_beq q.2
    exact hw ⟨by omega, by omega⟩
  show wpAny _ _ (if (((sIx items.size 0 lo : Nat) : Int) == 0 && (1 : Int) == 1 && (sIx items.size items.size hi - sIx items.size 0 lo) == items.size) = true then _ else _) _ _ s
  rw [if_neg hno, pick_gen]
  first
    | exact wpAny_bind (m := Builtin.Tuple.tupleExact _) (wpAny_newObj_type (wpAny_pure ⟨_, rfl, wpAny_pure h⟩) htake)
    | exact wpAny_bind (m := Builtin.Tuple.tupleExact _) (wpAny_newObj_type (wpAny_bind (wpAny_pure (wpAny_pure ⟨_, rfl, wpAny_pure h⟩))) htake)
    | exact wpAny_bind (wpAny_bind (m := Builtin.Tuple.tupleExact _) (wpAny_newObj_type (wpAny_pure (wpAny_pure ⟨_, rfl, wpAny_pure h⟩)) htake))
    | exact wpAny_bind (wpAny_bind (m := Builtin.Tuple.tupleExact _) (wpAny_newObj_type (wpAny_pure ⟨_, rfl, wpAny_pure h⟩) htake))
end
end HT
namespace L2
open PySem PySem.Spec PyProof.Rows
abbrev TO := St → Hp → (Option Int → Hp → Prop) → Prop
def PO (X : Cx) (e : Option Expr) (t : TO) : Prop :=
  ∀ (pins : List (Addr × Obj)) (s : Shared) (σ : St) (H : Hp) (Q : Option Int → Hp → Prop), Inv X pins σ H s → t σ H Q →
    wpAny (model X.prog X.w) X.A (evalPart e X.env) (fun u s' => ∃ o H', Inv X pins σ H' s' ∧ IsPart u o ∧ Q o H') X.xe s
def tNoPart : TO := fun _ H Q => Q none H
def tPart (t : TE) : TO := fun σ H Q => t σ H fun x H1 => ∃ i, x = .int i ∧ Q (some i) H1
section
variable {X : Cx} {e : Expr} {te : TE} {lo hi : Option Expr} {tl th : TO} {pos p2 : Pos}
theorem po_none : PO X none tNoPart := by
  intro pins s σ H Q I h
  rw [evalPart_none]
  exact wpAny_pure ⟨none, H, I, .none, h⟩
theorem po_some (h : PE X e te) : PO X (some e) (tPart te) := by
  intro pins s σ H Q I hw
  rw [evalPart_some]
  refine thn (h pins s σ H _ I hw) fun u s1 ⟨x, H1, I1, r1, q1⟩ => ?_
  obtain ⟨i, rfl, q⟩ := q1
  obtain ⟨t, rfl⟩ := r1
  exact ⟨some i, H1, I1, .int i t, q⟩
def SlR (X : Cx) (r : V → Option Int → Option Int → Hp → VK → Prop) : Prop :=
  ∀ (pins : List (Addr × Obj)) (s : Shared) (σ : St) (H : Hp) (x : V) (v vl vu : Value) (lo hi : Option Int) (sl : Addr) (Q : VK), Inv X pins σ H s → RelV x v → s.heap.IsSliceOf sl vl vu .none → IsPart vl lo → IsPart vu hi → r x lo hi H Q →
    ∃ T id, typeLookup (.type T) "__getitem__" = pure (some (.builtin id)) ∧ s.TypeIs v T ∧ wpAny (model X.prog X.w) X.A (getItem v (.ref sl)) (EP X pins σ Q) X.xe s
def tSl (r : V → Option Int → Option Int → Hp → VK → Prop) (te : TE) (tl th : TO) : TE := fun σ H Q => te σ H fun x H1 => tl σ H1 fun l H2 => th σ H2 fun u H3 => r x l u H3 Q
theorem pe_slice {r : V → Option Int → Option Int → Hp → VK → Prop} (hr : SlR X r) (he : PE X e te) (hl : PO X lo tl) (hu : PO X hi th) : PE X (.Subscript e (.Slice lo hi none p2) pos) (tSl r te tl th) := by
  intro pins s σ H Q I h
  refine Subscript_ (thn (he pins s σ H _ I h) fun v s1 ⟨x, H1, I1, r1, q1⟩ => ?_)
  refine wpAny_Slice (thn (hl pins s1 σ H1 _ I1 q1) fun vl s2 ⟨l, H2, I2, pl, q2⟩ => thn (hu pins s2 σ H2 _ I2 q2) fun vu s3 ⟨u, H3, I3, pu, q3⟩ => ?_)
  rw [evalPart_none]
  refine wpAny_pure ?_
  have I4 : Inv X pins σ H3 { s3 with heap := s3.heap.push { cls := .type "slice", data := .fields #[vl, vu, .none] } } := I3.kept (t' := s3.toks) fun b ob q => Heap.get?_push_of_some _ q
  obtain ⟨T, id, hT, ht, hg⟩ := hr pins { s3 with heap := s3.heap.push { cls := .type "slice", data := .fields #[vl, vu, .none] } } σ H3 x v vl vu l u s3.heap.objs.size Q I4 r1 (Heap.IsSliceOf.new ..) pl pu q3
  show wpAny (model X.prog X.w) X.A (subscriptTail e (.Slice lo hi none p2) v (.ref s3.heap.objs.size)) (EP X pins σ Q) X.xe { s3 with heap := s3.heap.push { cls := .type "slice", data := .fields #[vl, vu, .none] } }
  exact tail_any (ops := [.ref s3.heap.objs.size, v]) ht hT hg (by with_unfolding_all rfl)
def cutV (xs : List V) (lo hi : Option Int) : List V := (xs.drop (HT.sIx xs.length 0 lo)).take (HT.sIx xs.length xs.length hi - HT.sIx xs.length 0 lo)
theorem cutV_length (xs : List V) (lo hi : Option Int) : (cutV xs lo hi).length ≤ xs.length := by
  unfold cutV
  rw [List.length_take, List.length_drop]
  omega
def rSlT (K : PySem.W.Frag) : V → Option Int → Option Int → Hp → VK → Prop := fun x lo hi H Q => ∃ a xs, x = .ref a ∧ SqT K H a xs ∧
  ¬ (HT.sIx xs.length 0 lo = 0 ∧ HT.sIx xs.length xs.length hi = xs.length) ∧ ∀ p, H p = none → Q (.ref p) (upd H p (.tup (cutV xs lo hi)))
theorem sl_tup : SlR X (rSlT X.K) := by
  intro pins s σ H x v vl vu lo hi sl Q I rx hs pl pu h
  obtain ⟨a, xs, rfl, hx, hw, q⟩ := h
  cases rx
  obtain ⟨its, r, ht, hz⟩ := I.tuple hx
  have hlen : its.toArray.size = xs.length := by rw [List.size_toArray]; exact r.length.symm
  refine ⟨"tuple", _, PyProof.Rows.slot_tuple_getitem.lookup, ht.typeIs, ?_⟩
  refine HT.getItem_tuple_cut ht hs pl pu (by rw [hlen]; exact hw) ?_ (by rw [hlen]; exact hz)
  rw [hlen]
  refine ⟨.ref s.heap.objs.size, _, I.laid (t' := s.toks) (o := .tup (cutV xs lo hi)) (fun b ob q => Heap.get?_push_of_some _ q) (Nat.le_refl _) ?_, rfl, q _ (I.hok.fresh (Nat.le_refl _))⟩
  exact ⟨Nat.le_trans (cutV_length xs lo hi) hz, _, (r.drop (HT.sIx xs.length 0 lo)).take (HT.sIx xs.length xs.length hi - HT.sIx xs.length 0 lo), IsTup.new _ _⟩
def rCatT (K : PySem.W.Frag) : R2 := fun x y H Q => ∃ a b xs ys, x = .ref a ∧ y = .ref b ∧ SqT K H a xs ∧ SqT K H b ys ∧ xs ≠ [] ∧ xs.length + ys.length ≤ sizeLine ∧
  (ys = [] → Q (.ref a) H) ∧ (ys ≠ [] → ∀ p, H p = none → Q (.ref p) (upd H p (.tup (xs ++ ys))))
theorem Vals.nil_iff {xs : List V} {us : List Value} (r : Vals xs us) : us = [] ↔ xs = [] := by
  cases r with
  | nil => simp
  | cons _ _ => simp
theorem op_catT : OpR X (binaryOp .Add) (rCatT X.K) := by
  intro pins s σ H x y v u Q I rx ry h
  obtain ⟨a, b, xs, ys, rfl, rfl, ha, hb, hx, hz, q1, q2⟩ := h
  cases rx
  cases ry
  obtain ⟨its, r1, p1, _⟩ := I.tuple ha
  obtain ⟨its2, r2, p2, _⟩ := I.tuple hb
  refine HT.cat_tup p1 p2 (fun z => hx (r1.nil_iff.mp z)) (fun z => ⟨.ref a, H, I, rfl, q1 (r2.nil_iff.mp z)⟩) (fun z => ?_) (by rw [← r1.length, ← r2.length]; exact hz)
  refine ⟨.ref s.heap.objs.size, _, I.laid (t' := s.toks) (o := .tup (xs ++ ys)) (fun b ob q => Heap.get?_push_of_some _ q) (Nat.le_refl _) ?_, rfl, q2 (fun w => z (r2.nil_iff.mpr w)) _ (I.hok.fresh (Nat.le_refl _))⟩
  exact ⟨by rw [List.length_append]; exact hz, _, r1.append r2, IsTup.new _ _⟩
end
end L2
namespace L2
open PySem PySem.Spec PyProof.Rows
def ixN (n : Nat) (i : Int) : Option Nat := if 0 ≤ i then (if i < n then some i.toNat else none) else if -(n : Int) ≤ i then some (i + n).toNat else none
def atI {α : Type} (xs : List α) (i : Int) : Option α := (ixN xs.length i).bind fun j => xs[j]?
theorem ixN_seq {n : Nat} {i : Int} {j : Nat} (h : ixN n i = some j) : seqIndex? i n = some j ∧ j < n ∧ -(n : Int) ≤ i ∧ i < n := by
  unfold ixN at h
  by_cases h0 : 0 ≤ i
  · rw [if_pos h0] at h
    by_cases h1 : i < n
    · rw [if_pos h1] at h
      have e : i.toNat = j := Option.some.inj h
      exact ⟨by rw [seqIndex_of h0 h1, e], by omega, by omega, h1⟩
    · rw [if_neg h1] at h; cases h
  · rw [if_neg h0] at h
    by_cases h1 : -(n : Int) ≤ i
    · rw [if_pos h1] at h
      have e : (i + n).toNat = j := Option.some.inj h
      exact ⟨by rw [seqIndex_neg (by omega) h1, e], by omega, h1, by omega⟩
    · rw [if_neg h1] at h; cases h
theorem atI_get {α : Type} {xs : List α} {i : Int} {v : α} (h : atI xs i = some v) : ∃ j, seqIndex? i xs.length = some j ∧ xs[j]? = some v ∧ j < xs.length ∧ -(xs.length : Int) ≤ i ∧ i < xs.length := by
  unfold atI at h
  cases e : ixN xs.length i with
  | none => rw [e] at h; cases h
  | some j =>
    rw [e] at h
    obtain ⟨h1, h2, h3, h4⟩ := ixN_seq e
    exact ⟨j, h1, h, h2, h3, h4⟩
theorem atI_nat {α : Type} {xs : List α} {j : Nat} {v : α} (h : xs[j]? = some v) : atI xs (j : Int) = some v := by
  have hj : j < xs.length := (List.getElem?_eq_some_iff.mp h).1
  have e : ixN xs.length (j : Int) = some j := by
    unfold ixN
    rw [if_pos (by omega), if_pos (by omega)]; simp
  unfold atI; rw [e]; exact h
def PlainIx (b : Expr) : Prop := ∀ o i, subscripted b false o i = operate [o, i] (getItem o i)
def IxR (X : Cx) (r : R2) : Prop :=
  ∀ (value slice : Expr) (pins : List (Addr × Obj)) (s : Shared) (σ : St) (H : Hp) (x y : V) (v u : Value) (Q : VK), Inv X pins σ H s → RelV x v → RelV y u → r x y H Q →
    subscripted slice false v u = operate [v, u] (getItem v u) → wpAny (model X.prog X.w) X.A (subscriptTail value slice v u) (EP X pins σ Q) X.xe s
def MtR (X : Cx) (id : String) (r : V → List V → Hp → VK → Prop) : Prop :=
  ∀ (pins : List (Addr × Obj)) (s : Shared) (σ : St) (H : Hp) (x : V) (xs : List V) (v : Value) (us : List Value) (Q : VK), Inv X pins σ H s → RelV x v → Vals xs us → r x xs H Q →
    wpAny (model X.prog X.w) X.A (call (.builtin id) (v :: us)) (EP X pins σ Q) X.xe s
section
variable {X : Cx} {a b : Expr} {ta tb : TE} {pos : Pos}
theorem IxR.or {r r' : R2} (h : IxR X r) (h' : IxR X r') : IxR X (fun x y H Q => r x y H Q ∨ r' x y H Q) := by
  intro value slice pins s σ H x y v u Q I rx ry q hs
  rcases q with q | q
  · exact h value slice pins s σ H x y v u Q I rx ry q hs
  · exact h' value slice pins s σ H x y v u Q I rx ry q hs
theorem pe_ix {r : R2} (hr : IxR X r) (ha : PE X a ta) (hb : PE X b tb) (hs : PlainIx b) : PE X (.Subscript a b pos) (tOp r ta tb) := by
  intro pins s σ H Q I h
  exact Subscript_ (binT ha hb I h fun v u s2 x y H2 I2 rx ry q => hr a b pins s2 σ H2 x y v u Q I2 rx ry q (hs _ _))
def rIxL (K : PySem.W.Frag) : R2 := fun x y H Q => ∃ p xs i v, x = .ref p ∧ y = .int i ∧ SqL K H p xs ∧ atI xs i = some v ∧ Q v H
def rIxT (K : PySem.W.Frag) : R2 := fun x y H Q => ∃ p xs i v, x = .ref p ∧ y = .int i ∧ SqT K H p xs ∧ atI xs i = some v ∧ Q v H
def rIxS : R2 := fun x y H Q => ∃ z i c, x = .str z ∧ y = .int i ∧ z.length ≤ sizeLine ∧ atI z.cps.toList i = some c ∧ Q (.str ⟨#[c]⟩) H
theorem ix_list : IxR X (rIxL X.K) := by
  intro value slice pins s σ H x y v u Q I rx ry h hs
  obtain ⟨p, xs, i, z, rfl, rfl, hq, he, q⟩ := h
  cases rx
  obtain ⟨t, rfl⟩ := ry
  obtain ⟨its, r, pl, hz⟩ := I.list hq
  obtain ⟨j, h1, h2, h3, h4, h5⟩ := atI_get he
  obtain ⟨w, ew, rw'⟩ := r.get h2
  have hl := r.length
  have hn := line63
  have fin : EP X pins σ Q w s := ⟨z, H, I, rw', q⟩
  by_cases h0 : 0 ≤ i
  · have hj : i.toNat = j := by
      rw [seqIndex_of h0 h5] at h1
      exact Option.some.inj h1
    exact item_listR pl.isList h0 (by omega) (by rw [hj]; simpa using ew) fin hs
  · have hj : (i + (its.toArray.size : Int)).toNat = j := by
      rw [seqIndex_neg (by omega) h4] at h1
      rw [List.size_toArray, ← hl]
      exact Option.some.inj h1
    exact subscriptTail_builtinR (x := w) pl.isList.typeIs slot_list_getitem.lookup
      (wpAny_getItem_list_neg (Q := fun r s' => r = w ∧ EP X pins σ Q r s') pl.isList (by omega) (by rw [List.size_toArray] <;> omega) (by omega) (by rw [hj]; simpa using ew) ⟨rfl, fin⟩) hs
theorem ix_tup : IxR X (rIxT X.K) := by
  intro value slice pins s σ H x y v u Q I rx ry h hs
  obtain ⟨p, xs, i, z, rfl, rfl, hq, he, q⟩ := h
  cases rx
  obtain ⟨t, rfl⟩ := ry
  obtain ⟨its, r, pl, hz⟩ := I.tuple hq
  obtain ⟨j, h1, h2, h3, h4, h5⟩ := atI_get he
  obtain ⟨w, ew, rw'⟩ := r.get h2
  have hl := r.length
  have hn := line63
  have fin : EP X pins σ Q w s := ⟨z, H, I, rw', q⟩
  exact subscriptTail_builtinR (x := w) pl.typeIs slot_tuple_getitem.lookup
    (getItem_tuple (j := j) (Q := fun r s' => r = w ∧ EP X pins σ Q r s') pl (by omega) (by omega) (by rw [List.size_toArray, ← hl]; exact h1) (by simpa using ew) ⟨rfl, fin⟩) hs
theorem ix_str : IxR X rIxS := by
  intro value slice pins s σ H x y v u Q I rx ry h hs
  obtain ⟨z, i, c, rfl, rfl, hz, he, q⟩ := h
  obtain ⟨t, rfl⟩ := rx
  obtain ⟨t', rfl⟩ := ry
  obtain ⟨j, h1, h2, h3, h4, h5⟩ := atI_get he
  have hl : z.cps.toList.length = z.length := by simp [Str.length]
  rw [hl] at h1 h4 h5
  have hn := line63
  exact tail_any (typeIs_str s z t) slot_str_getitem.lookup (getItem_str (c := c) (by
    have e1 : decide (i < -(2 ^ 63 : Int)) = false := decide_eq_false (by omega)
    have e2 : decide (i ≥ 2 ^ 63) = false := decide_eq_false (by omega)
    rw [e1, e2, Bool.or_false]) (by rw [h1]; simpa using h2) ⟨.str ⟨#[c]⟩, H, I.tok _, ⟨_, rfl⟩, q⟩) hs
def rIx (K : PySem.W.Frag) : R2 := fun x y H Q => rIxL K x y H Q ∨ rIxT K x y H Q ∨ rIxS x y H Q
theorem ix_seq : IxR X (rIx X.K) := ix_list.or (ix_tup.or ix_str)
theorem mapSeq_set (its : List Value) (n j : Nat) (u : Value) : Obj.mapSeq (·.setIfInBounds j u) { cls := .type "list", data := .seq its.toArray n } = { cls := .type "list", data := .seq (its.set j u).toArray n } := by
  simp [Obj.mapSeq]
theorem Inv.lst {pins : List (Addr × Obj)} {σ : St} {H : Hp} {s : Shared} {p : Addr} {xs : List V} (I : Inv X pins σ H s) (h : H p = some (.lst xs)) :
    ∃ (its : List Value) (n : Nat), Vals xs its ∧ s.heap.get? p = some { cls := .type "list", data := .seq its.toArray n } ∧ xs.length ≤ sizeLine := by
  obtain ⟨z, its, n, r, e⟩ := I.hok p _ h
  exact ⟨its, n, r, e, z⟩
theorem Inv.lstUpd {pins : List (Addr × Obj)} {σ : St} {H : Hp} {s : Shared} {p : Addr} {xs ys : List V} {its its' : List Value} {n n' : Nat} {f : Obj → Obj} (I : Inv X pins σ H s) (h : H p = some (.lst xs))
    (ho : s.heap.get? p = some { cls := .type "list", data := .seq its.toArray n }) (hf : f { cls := .type "list", data := .seq its.toArray n } = { cls := .type "list", data := .seq its'.toArray n' }) (r : Vals ys its') (hz : ys.length ≤ sizeLine) (t : Nat) :
    Inv X pins σ (upd H p (.lst ys)) { s with heap := s.heap.update p f, toks := t } := by
  have e : (s.heap.update p f).get? p = some { cls := .type "list", data := .seq its'.toArray n' } := by
    rw [Heap.get?_update_self f ho (by rw [hf] <;> rfl), hf]
  refine I.write (x := p) (e := p) (by rw [h]; trivial) (.inl rfl) (fun b u hb q => (Heap.get?_update_other _ _ (Ne.symm hb)).trans q) ⟨_, e⟩ ?_
  exact ⟨hz, its', n', r, e⟩
def rSetL : V → V → V → Hp → (Hp → Prop) → Prop := fun o i v H Q => ∃ p xs k j, o = .ref p ∧ i = .int k ∧ H p = some (.lst xs) ∧ ixN xs.length k = some j ∧ Q (upd H p (.lst (xs.set j v)))
theorem set_list : PSet X rSetL := by
  intro pins s σ H o i v ov iv u Q I ro ri rv h
  obtain ⟨p, xs, k, j, rfl, rfl, hp, hj, q⟩ := h
  cases ro
  obtain ⟨t, rfl⟩ := ri
  obtain ⟨its, n, r, ho, hz⟩ := I.lst hp
  obtain ⟨h1, h2, h3, h4⟩ := ixN_seq hj
  have hl := r.length
  have hn := line63
  have I' : Inv X pins σ (upd H p (.lst (xs.set j v))) { s with heap := s.heap.update p (Obj.mapSeq (·.setIfInBounds j u)) } :=
    I.lstUpd hp ho (mapSeq_set its n j u) (r.set rv j) (by rw [List.length_set]; exact hz) s.toks
  by_cases h0 : 0 ≤ k
  · have hk : k.toNat = j := by
      rw [seqIndex_of h0 h4] at h1
      exact Option.some.inj h1
    exact PySem.W.ki_setAt ho h0 (by omega) (by rw [List.size_toArray, ← hl]; exact h4) (by rw [hk]; exact ⟨_, I', q⟩)
  · have hk : (k + (its.toArray.size : Int)).toNat = j := by
      rw [seqIndex_neg (by omega) h3] at h1
      rw [List.size_toArray, ← hl]
      exact Option.some.inj h1
    exact PySem.W.ki_setBack ho (by omega) (by rw [List.size_toArray, ← hl]; exact h3) (by omega) (by rw [hk]; exact ⟨_, I', q⟩)
theorem slice_bounds (lo hi : Option Int) (n : Nat) : (sliceBounds lo hi none n).1 = ((HT.sIx n 0 lo : Nat) : Int) ∧ (sliceBounds lo hi none n).2.1 = ((HT.sIx n n hi : Nat) : Int) ∧ (sliceBounds lo hi none n).2.2 = 1 := by
  refine ⟨?_, ?_, rfl⟩
  · cases lo with
    | none => simp [sliceBounds, HT.sIx]
    | some i =>
      simp only [sliceBounds, HT.sIx, Option.getD_none, show (1 : Int) > 0 by decide, if_true]
      by_cases h : i < 0
      · simp only [h, if_true] <;> omega
      · simp only [h, if_false] <;> omega
  · cases hi with
    | none => simp [sliceBounds, HT.sIx]
    | some i =>
      simp only [sliceBounds, HT.sIx, Option.getD_none, show (1 : Int) > 0 by decide, if_true]
      by_cases h : i < 0
      · simp only [h, if_true] <;> omega
      · simp only [h, if_false] <;> omega
theorem slicePick_cut (its : List Value) (lo hi : Option Int) : slicePick its.toArray lo hi none = ((its.drop (HT.sIx its.length 0 lo)).take (HT.sIx its.length its.length hi - HT.sIx its.length 0 lo)).toArray := by
  obtain ⟨h1, h2, h3⟩ := slice_bounds lo hi its.toArray.size
  unfold slicePick
  rw [h1, h2, h3]
  simp only [sliceRange_one, pick_run, List.size_toArray] <;> rfl
def rSlL (K : PySem.W.Frag) : V → Option Int → Option Int → Hp → VK → Prop := fun x lo hi H Q => ∃ a xs, x = .ref a ∧ SqL K H a xs ∧ ∀ p, H p = none → Q (.ref p) (upd H p (.lst (cutV xs lo hi)))
theorem sl_list : SlR X (rSlL X.K) := by
  intro pins s σ H x v vl vu lo hi sl Q I rx hs pl pu h
  obtain ⟨a, xs, rfl, hx, q⟩ := h
  cases rx
  obtain ⟨its, r, ht, hz⟩ := I.list hx
  have hlen := r.length
  refine ⟨"list", _, slot_list_getitem.lookup, ht.isList.typeIs, ?_⟩
  refine wpAny_getItem_list_slice ht.isList hs pl pu .none (by simp) ?_ (by rw [List.size_toArray] <;> omega)
  rw [slicePick_cut, ← hlen]
  refine ⟨.ref s.heap.objs.size, _, I.laid (t' := s.toks) (o := .lst (cutV xs lo hi)) (fun b ob q => Heap.get?_push_of_some _ q) (Nat.le_refl _) ?_, rfl, q _ (I.hok.fresh (Nat.le_refl _))⟩
  exact ⟨Nat.le_trans (cutV_length xs lo hi) hz, _, 0, (r.drop (HT.sIx xs.length 0 lo)).take (HT.sIx xs.length xs.length hi - HT.sIx xs.length 0 lo), Heap.get?_push_size _ rfl⟩
def flatV : V → Bool
  | .non => true
  | .bl _ => true
  | .int _ => true
  | .str _ => true
  | _ => false
def eqV : V → V → Bool
  | .non, .non => true
  | .bl a, .bl b => a == b
  | .bl a, .int b => (if a then 1 else 0) == b
  | .int a, .bl b => a == (if b then 1 else 0)
  | .int a, .int b => a == b
  | .str a, .str b => a == b
  | _, _ => false
theorem eqAt_V {A : Around} {s : Shared} {y x : V} {u v : Value} (ry : RelV y u) (rx : RelV x v) (fy : flatV y = true) (fx : flatV x = true) : SeqAt.EqAt A s u v (eqV y x) := by
  cases y with
  | non =>
    cases ry
    cases x with
    | non => cases rx; exact SeqAt.EqAt.same _
    | bl b => cases rx; exact SeqAt.EqAt.none_bool b
    | int b => obtain ⟨t, rfl⟩ := rx; exact SeqAt.EqAt.none_int b t
    | str b => obtain ⟨t, rfl⟩ := rx; exact SeqAt.EqAt.none_str b t
    | _ => exact absurd (show false = true from fx) Bool.false_ne_true
  | bl a =>
    cases ry
    cases x with
    | non => cases rx; exact SeqAt.EqAt.bool_none a
    | bl b => cases rx; exact SeqAt.EqAt.bool_bool a b
    | int b => obtain ⟨t, rfl⟩ := rx; exact SeqAt.EqAt.bool_int a b t
    | str b => obtain ⟨t, rfl⟩ := rx; exact SeqAt.EqAt.bool_str a b t
    | _ => exact absurd (show false = true from fx) Bool.false_ne_true
  | int a =>
    obtain ⟨t', rfl⟩ := ry
    cases x with
    | non => cases rx; exact SeqAt.EqAt.int_none a t'
    | bl b => cases rx; exact SeqAt.EqAt.int_bool a t' b
    | int b => obtain ⟨t, rfl⟩ := rx; exact SeqAt.EqAt.int_int a t' b t
    | str b => obtain ⟨t, rfl⟩ := rx; exact SeqAt.EqAt.int_str a t' b t
    | _ => exact absurd (show false = true from fx) Bool.false_ne_true
  | str a =>
    obtain ⟨t', rfl⟩ := ry
    cases x with
    | non => cases rx; exact SeqAt.EqAt.str_none a t'
    | bl b => cases rx; exact SeqAt.EqAt.str_bool a t' b
    | int b => obtain ⟨t, rfl⟩ := rx; exact SeqAt.EqAt.str_int a t' b t
    | str b => obtain ⟨t, rfl⟩ := rx; exact SeqAt.EqAt.str_str a t' b t
    | _ => exact absurd (show false = true from fx) Bool.false_ne_true
  | _ => exact absurd (show false = true from fy) Bool.false_ne_true
def eqU (x : V) (u : Value) : Bool := match u with
  | .none => eqV .non x
  | .bool b => eqV (.bl b) x
  | .int i _ => eqV (.int i) x
  | .str z _ => eqV (.str z) x
  | _ => false
theorem eqU_of {x y : V} {u : Value} (r : RelV y u) (f : flatV y = true) : eqU x u = eqV y x := by
  cases y with
  | non => cases r; rfl
  | bl b => cases r; rfl
  | int i => obtain ⟨t, rfl⟩ := r; rfl
  | str z => obtain ⟨t, rfl⟩ := r; rfl
  | _ => exact absurd (show false = true from f) Bool.false_ne_true
theorem any_eqU {x : V} : ∀ {xs : List V} {us : List Value}, Vals xs us → xs.all flatV = true → us.any (eqU x) = xs.any fun y => eqV y x
  | _, _, .nil, _ => rfl
  | y :: xs, u :: us, .cons r t, f => by
    rw [List.all_cons, Bool.and_eq_true] at f
    rw [List.any_cons, List.any_cons, eqU_of r f.1, any_eqU t f.2]
theorem mem_eqAt {A : Around} {s : Shared} {x : V} {v : Value} (rx : RelV x v) (fx : flatV x = true) : ∀ {xs : List V} {us : List Value}, Vals xs us → xs.all flatV = true → ∀ u ∈ us, SeqAt.EqAt A s u v (eqU x u)
  | _, _, .nil, _ => fun u hu => by cases hu
  | y :: xs, u :: us, .cons r t, f => fun u' hu => by
    rw [List.all_cons, Bool.and_eq_true] at f
    rcases List.mem_cons.mp hu with rfl | hu
    · rw [eqU_of r f.1]; exact eqAt_V r rx f.1 fx
    · exact mem_eqAt rx fx t f.2 u' hu
def inV (x : V) (xs : List V) : Bool := xs.any fun y => eqV y x
def rIn (K : PySem.W.Frag) (neg : Bool) : R2 := fun x y H Q => ∃ p xs, y = .ref p ∧ (SqL K H p xs ∨ SqT K H p xs) ∧ flatV x = true ∧ xs.all flatV = true ∧ Q (.bl (if neg then !inV x xs else inV x xs)) H
theorem op_in_seq : OpR X (compareOp .In) (rIn X.K false) := by
  intro pins s σ H x y v u Q I rx ry h
  obtain ⟨p, xs, rfl, hq, fx, fs, q⟩ := h
  cases ry
  rcases hq with hq | hq
  · obtain ⟨its, r, pl, hz⟩ := I.list hq
    refine SeqAt.in_listAt (eqU x) pl.isList (fun w hw => mem_eqAt rx fx r fs w (by simpa using hw)) ⟨.bl _, H, I, rfl, ?_⟩
    rw [show its.toArray.any (eqU x) = its.any (eqU x) by simp, any_eqU r fs]
    exact q
  · obtain ⟨its, r, pl, hz⟩ := I.tuple hq
    refine SeqAt.in_tupleAt (eqU x) pl (fun w hw => mem_eqAt rx fx r fs w (by simpa using hw)) ⟨.bl _, H, I, rfl, ?_⟩
    rw [show its.toArray.any (eqU x) = its.any (eqU x) by simp, any_eqU r fs]
    exact q
theorem op_notIn_seq : OpR X (compareOp .NotIn) (rIn X.K true) := by
  intro pins s σ H x y v u Q I rx ry h
  obtain ⟨p, xs, rfl, hq, fx, fs, q⟩ := h
  cases ry
  rcases hq with hq | hq
  · obtain ⟨its, r, pl, hz⟩ := I.list hq
    refine SeqAt.notIn_listAt (eqU x) pl.isList (fun w hw => mem_eqAt rx fx r fs w (by simpa using hw)) ⟨.bl _, H, I, rfl, ?_⟩
    rw [show its.toArray.any (eqU x) = its.any (eqU x) by simp, any_eqU r fs]
    exact q
  · obtain ⟨its, r, pl, hz⟩ := I.tuple hq
    refine SeqAt.notIn_tupleAt (eqU x) pl (fun w hw => mem_eqAt rx fx r fs w (by simpa using hw)) ⟨.bl _, H, I, rfl, ?_⟩
    rw [show its.toArray.any (eqU x) = its.any (eqU x) by simp, any_eqU r fs]
    exact q
theorem call_len_seq : CallR X (.builtin "len") (fun xs H Q => ∃ p ys, xs = [.ref p] ∧ (SqL X.K H p ys ∨ SqT X.K H p ys) ∧ Q (.int ys.length) H) := by
  intro pins s σ H xs us Q I r h
  obtain ⟨p, ys, rfl, hq, q⟩ := h
  obtain ⟨u, rfl, rx⟩ := vals1 r
  cases rx
  have hn := line63
  rcases hq with hq | hq
  · obtain ⟨its, r', pl, hz⟩ := I.list hq
    have hlen := r'.length
    exact Calls.call_len_list pl.isList (by simp only [List.size_toArray] <;> omega) ⟨.int ys.length, H, I.tok _, ⟨s.toks + 1, by rw [List.size_toArray, hlen]⟩, q⟩
  · obtain ⟨its, r', pl, hz⟩ := I.tuple hq
    have hlen := r'.length
    exact len_tuple pl (by simp only [List.size_toArray] <;> omega) ⟨.int ys.length, H, I.tok _, ⟨s.toks + 1, by rw [List.size_toArray, hlen]⟩, q⟩
theorem call_len_str : CallR X (.builtin "len") (fun xs H Q => ∃ z, xs = [.str z] ∧ z.length ≤ sizeLine ∧ Q (.int z.length) H) := by
  intro pins s σ H xs us Q I r h
  obtain ⟨z, rfl, hz, q⟩ := h
  obtain ⟨u, rfl, t, rfl⟩ := vals1 r
  have hn := line63
  exact len_str (by omega) ⟨.int z.length, H, I.tok _, ⟨_, rfl⟩, q⟩
theorem call_list_of : CallR X (.type "list") (fun xs H Q => ∃ p ys, xs = [.ref p] ∧ (SqL X.K H p ys ∨ SqT X.K H p ys) ∧ ∀ l, H l = none → Q (.ref l) (upd H l (.lst ys))) := by
  intro pins s σ H xs us Q I r h
  obtain ⟨p, ys, rfl, hq, q⟩ := h
  obtain ⟨u, rfl, rx⟩ := vals1 r
  cases rx
  have fin : ∀ (its : List Value), Vals ys its → ys.length ≤ sizeLine → ∀ (h' : Heap) (c' : Nat), (∀ b o', s.heap.get? b = some o' → h'.get? b = some o') →
      h'.get? s.heap.objs.size = some { cls := .type "list", dict := none, data := .seq its.toArray c', slots := #[] } → EP X pins σ Q (.ref s.heap.objs.size) { s with heap := h' } := fun its r' hz h' c' kp e =>
    ⟨.ref s.heap.objs.size, _, I.laid (t' := s.toks) kp (Nat.le_refl _) (show ObjOk X.prog X.w _ h' _ (.lst ys) from ⟨hz, its, c', r', e⟩), rfl, q _ (I.hok.fresh (Nat.le_refl _))⟩
  rcases hq with hq | hq
  · obtain ⟨its, r', pl, hz⟩ := I.list hq
    have hlen := r'.length
    obtain ⟨o, ho, hc, n, hd⟩ := pl.isList
    exact call_list_seq p (.inl rfl) ho hc hd (fun h' c' kp e => fin its r' hz h' c' kp e) (by simp only [List.size_toArray] <;> omega)
  · obtain ⟨its, r', pl, hz⟩ := I.tuple hq
    have hlen := r'.length
    obtain ⟨o, ho, hc, n, hd⟩ := pl
    exact call_list_seq p (.inr rfl) ho hc hd (fun h' c' kp e => fin its r' hz h' c' kp e) (by simp only [List.size_toArray] <;> omega)
def tyV (K : PySem.W.Frag) (T : String) (x : V) (H : Hp) : Prop := match x with
  | .str _ => T = "str"
  | .int _ => T = "int"
  | .ref p => (T = "list" ∧ ∃ xs, SqL K H p xs) ∨ (T = "tuple" ∧ ∃ o, K.lookup p = some o ∧ o.cls = .type "tuple" ∧ o.dict = none) ∨
      (T = "dict" ∧ ((∃ kvs, H p = some (.dK kvs)) ∨ ∃ kvs, H p = some (.dT kvs))) ∨ (T = "set" ∧ ∃ S n, H p = some (.set S n))
  | _ => False
theorem tyV_is {pins : List (Addr × Obj)} {σ : St} {H : Hp} {s : Shared} {T : String} {x : V} {v : Value} (I : Inv X pins σ H s) (r : RelV x v) (ty : tyV X.K T x H) :
    s.TypeIs v T ∧ ∀ a, v = .ref a → ∃ ob, s.heap.get? a = some ob ∧ ob.dict = none := by
  cases x with
  | str z =>
    obtain ⟨t, rfl⟩ := r
    cases (show T = "str" from ty)
    exact ⟨typeIs_str s z t, fun _ e => nomatch e⟩
  | int i =>
    obtain ⟨t, rfl⟩ := r
    cases (show T = "int" from ty)
    exact ⟨typeIs_int s i t, fun _ e => nomatch e⟩
  | ref p =>
    cases r
    rcases ty with ⟨rfl, xs, hq⟩ | ⟨rfl, o, hk, hc, hd⟩ | ⟨rfl, hk⟩ | ⟨rfl, S, n, hk⟩
    · obtain ⟨its, _, pl, _⟩ := I.list hq
      refine ⟨pl.isList.typeIs, fun a e => ?_⟩
      cases e
      obtain ⟨o, n, e, c, hd, _⟩ := pl
      exact ⟨o, e, hd⟩
    · refine ⟨⟨o, I.kIn p o hk, hc⟩, fun a e => ?_⟩
      cases e
      exact ⟨o, I.kIn _ o hk, hd⟩
    · have z : ∃ o, s.heap.get? p = some o ∧ o.ExactDict := by
        rcases hk with ⟨kvs, hk⟩ | ⟨kvs, hk⟩
        · obtain ⟨_, _, _, _, o, _, _, e, ex, _⟩ := I.hok p _ hk
          exact ⟨o, e, ex⟩
        · obtain ⟨_, _, _, _, o, _, _, e, ex, _⟩ := I.hok p _ hk
          exact ⟨o, e, ex⟩
      obtain ⟨o, e, ex⟩ := z
      refine ⟨⟨o, e, ex.1⟩, fun a e2 => ?_⟩
      cases e2
      exact ⟨o, e, ex.2.1⟩
    · obtain ⟨o, _, _, _, e, ex, _⟩ := I.hok p _ hk
      refine ⟨⟨o, e, ex.1⟩, fun a e2 => ?_⟩
      cases e2
      exact ⟨o, e, ex.2.1⟩
  | _ => exact False.elim ty
def tBM0 (K : PySem.W.Frag) (T : String) (r : V → List V → Hp → VK → Prop) (to : TE) : TE := fun σ H Q => to σ H fun x H1 => tyV K T x H1 ∧ r x [] H1 Q
def tBM (K : PySem.W.Frag) (T : String) (r : V → List V → Hp → VK → Prop) (to : TE) (t : TA) : TE := fun σ H Q => to σ H fun x H1 => tyV K T x H1 ∧ t σ H1 fun xs H2 => r x xs H2 Q
variable {o e : Expr} {es : List Expr} {to : TE} {t : TA} {name : Str} {apos cpos : Pos} {T id : String} {r : V → List V → Hp → VK → Prop}
theorem pe_bm0 (pa : PlainAttrs T) (slot : Slot T name id) (hty : typeOf (.builtin id) = pure (.type "method_descriptor")) (hm : MtR X id r) (ho : PE X o to)
    (hbase : attributeBase o name X.env (eval o X.env) = eval o X.env := by rfl) (hline : (apos.endLine == cpos.line) = true := by rfl) : PE X (.Call (.Attribute o name apos) [] [] cpos) (tBM0 X.K T r to) := by
  intro pins s σ H Q I h
  refine wpAny_Call_method0_late hbase hline (thn (ho pins s σ H _ I h) fun v s1 ⟨x, H1, I1, r1, ty, q1⟩ => ?_)
  obtain ⟨h1, h2⟩ := tyV_is I1 r1 ty
  exact ⟨T, id, pa, slot, hty, h1, h2, Calls.callWith_builtin rfl (PySem.evalArgs_none (hm pins s1 σ H1 x [] v [] Q I1 r1 .nil q1))⟩
theorem pe_bm (pa : PlainAttrs T) (slot : Slot T name id) (hty : typeOf (.builtin id) = pure (.type "method_descriptor")) (hm : MtR X id r) (ho : PE X o to) (ha : PA X (e :: es) t)
    (hbase : attributeBase o name X.env (eval o X.env) = eval o X.env := by rfl)
    (hfew : ((backTo cpos (starEach (e :: es) X.env)).all (fun x => !x.1) && (backToKw cpos (keywordEach [] X.env)).all (fun x => x.1.isSome)
      && decide ((e :: es).length + ([] : List Keyword).length + (if ([] : List Keyword).isEmpty then 0 else 1) < 30)) = true := by rfl)
    (hline : (apos.endLine == cpos.line) = true := by rfl) (hs : starEach (e :: es) X.env = (false, eval e X.env) :: starEach es X.env := by rfl) (hplain : (backTo cpos (starEach es X.env)).any (·.1) = false := by rfl) :
    PE X (.Call (.Attribute o name apos) (e :: es) [] cpos) (tBM X.K T r to t) := by
  intro pins s σ H Q I h
  refine wpAny_Call_method_late hbase hfew hline rfl (thn (ho pins s σ H _ I h) fun v s1 ⟨x, H1, I1, r1, ty, q1⟩ => ?_)
  obtain ⟨h1, h2⟩ := tyV_is I1 r1 ty
  refine ⟨T, id, pa, slot, hty, h1, h2, ?_⟩
  have hA := ha cpos pins s1 σ H1 _ I1 q1
  rw [hs] at hA ⊢
  refine Calls.callWith_builtin (by show (false || (backTo cpos (starEach es X.env)).any (·.1)) = false; rw [hplain] <;> rfl) (Calls.evalArgs_plain ?_)
  exact thn hA fun us s2 ⟨vs, H2, I2, r2, q2⟩ => hm pins s2 σ H2 x vs v us Q I2 r1 r2 q2
/- xs.append(e), list.index on a module's tuple .. are MtR facts of 06m -/
end
end L2
namespace L2
open PySem PySem.Spec PyProof.Rows
def MtM (X : Cx) (id : String) (r : V → List V → Hp → VK → Prop) : Prop :=
  ∀ (pins : List (Addr × Obj)) (s : Shared) (σ : St) (H : Hp) (x : V) (xs : List V) (v : Value) (us : List Value) (Q : VK), Inv X pins σ H s → RelV x v → Vals xs us → r x xs H Q →
    wpAny (model X.prog X.w) X.A (call (.builtin id) (v :: us)) (EP X pins σ Q) X.xe s
theorem Vals.one : ∀ {x : V} {us : List Value}, Vals [x] us → ∃ u, us = [u] ∧ RelV x u
  | _, _, .cons r .nil => ⟨_, rfl, r⟩
theorem Vals.zero : ∀ {us : List Value}, Vals [] us → us = []
  | _, .nil => rfl
theorem Vals.dropLast {xs : List V} {us : List Value} (h : Vals xs us) : Vals xs.dropLast us.dropLast := by
  induction h with
  | nil => exact .nil
  | cons r t ih =>
    cases t with
    | nil => exact .nil
    | cons q t' => exact .cons r ih
theorem Vals.eraseIdx : ∀ {xs : List V} {us : List Value} (i : Nat), Vals xs us → Vals (xs.eraseIdx i) (us.eraseIdx i)
  | _, _, _, .nil => .nil
  | _, _, 0, .cons _ t => t
  | _, _, i + 1, .cons r t => .cons r (Vals.eraseIdx i t)
theorem Vals.reverse {xs : List V} {us : List Value} (h : Vals xs us) : Vals xs.reverse us.reverse := by
  induction h with
  | nil => exact .nil
  | cons r t ih => rw [List.reverse_cons, List.reverse_cons]; exact Vals.append ih (.cons r .nil)
theorem Vals.rep {xs : List V} {us : List Value} (h : Vals xs us) : ∀ k : Nat, Vals (List.replicate k xs).flatten (List.replicate k us).flatten
  | 0 => .nil
  | k + 1 => by
    rw [List.replicate_succ, List.replicate_succ, List.flatten_cons, List.flatten_cons]
    exact Vals.append h (Vals.rep h k)
theorem erase_last {α : Type} (l : List α) : l.eraseIdx (l.length - 1) = l.dropLast := by
  induction l with
  | nil => rfl
  | cons a r ih =>
    cases r with
    | nil => rfl
    | cons b r =>
      have e : (a :: b :: r).length - 1 = ((b :: r).length - 1) + 1 := by
        have h1 : (a :: b :: r).length = r.length + 2 := rfl
        have h2 : (b :: r).length = r.length + 1 := rfl
        omega
      rw [e, List.eraseIdx_cons_succ, ih]
      all_goals rfl
theorem len_erase {α : Type} : ∀ (l : List α) (i : Nat), (l.eraseIdx i).length ≤ l.length
  | [], _ => Nat.le_refl _
  | _ :: _, 0 => Nat.le_succ _
  | _ :: r, i + 1 => Nat.succ_le_succ (len_erase r i)
theorem foldl_rep (its : List Value) : ∀ (k : Nat) (acc : List Value),
    List.foldl (fun x1 x2 => x1 ++ x2) acc.toArray (List.replicate k its.toArray) = (acc ++ (List.replicate k its).flatten).toArray
  | 0, acc => by simp
  | k + 1, acc => by
    have e : acc.toArray ++ its.toArray = (acc ++ its).toArray := by simp
    have e2 : (acc ++ its) ++ (List.replicate k its).flatten = acc ++ (List.replicate (k + 1) its).flatten := by
      rw [List.replicate_succ, List.flatten_cons, List.append_assoc]
    rw [← e2, ← foldl_rep its k (acc ++ its), ← e, List.replicate_succ, List.foldl_cons]
section
variable {X : Cx} {pins : List (Addr × Obj)} {σ : St} {H : Hp} {s : Shared} {l b : Addr} {xs ys zs : List V}
theorem Inv.lset {its its' : List Value} {n : Nat} {f : Array Value → Array Value} {t' : Nat} (I : Inv X pins σ H s) (hH : H l = some (.lst xs))
    (e : s.heap.get? l = some { cls := .type "list", data := .seq its.toArray n }) (hf : f its.toArray = its'.toArray) (hv : Vals ys its') (hz : ys.length ≤ sizeLine) :
    Inv X pins σ (upd H l (.lst ys)) { s with heap := s.heap.update l (Obj.mapSeq f), toks := t' } := by
  have q := PySem.IsL.update e f
  rw [hf] at q
  refine I.write (x := l) (e := l) (by rw [hH]; exact trivial) (.inl rfl) (fun b' u hb hu => (Heap.get?_update_other s.heap (Obj.mapSeq f) (Ne.symm hb)).trans hu) ⟨_, q⟩ ?_
  exact ⟨hz, its', _, hv, q⟩
theorem Inv.lnew {its : List Value} {t' : Nat} (I : Inv X pins σ H s) (hv : Vals ys its) (hz : ys.length ≤ sizeLine) :
    Inv X pins σ (upd H s.heap.objs.size (.lst ys)) { s with heap := s.heap.push { cls := .type "list", data := .seq its.toArray }, toks := t' } :=
  I.laid (fun _ _ q => Heap.get?_push_of_some _ q) (Nat.le_refl _) ⟨hz, its, 0, hv, Heap.get?_push_size _ rfl⟩
theorem Inv.fresh (I : Inv X pins σ H s) : H s.heap.objs.size = none := I.hok.fresh (Nat.le_refl _)
theorem Inv.lstM (I : Inv X pins σ H s) (hH : H l = some (.lst xs)) : xs.length ≤ sizeLine ∧ ∃ (its : List Value) (n : Nat), Vals xs its ∧ xs.length = its.length ∧ s.heap.get? l = some { cls := .type "list", data := .seq its.toArray n } := by
  obtain ⟨z, its, n, r, e⟩ := I.hok l _ hH
  exact ⟨z, its, n, r, r.length, e⟩
theorem notLongL {n : Nat} (h : n ≤ sizeLine) : Builtin.List.listTooLong n = false := by
  unfold Builtin.List.listTooLong
  exact decide_eq_false (by omega)
end
section
variable {X : Cx}
def rAppend : V → List V → Hp → VK → Prop := fun x vs H Q => ∃ l xs y, x = .ref l ∧ vs = [y] ∧ H l = some (.lst xs) ∧ xs.length < sizeLine ∧ Q .non (upd H l (.lst (xs ++ [y])))
theorem mt_append : MtM X "list.append" rAppend := by
  intro pins s σ H x vs v us Q I rx rv h
  obtain ⟨l, xs, y, rfl, rfl, hH, hz, q⟩ := h
  cases rx
  obtain ⟨u, rfl, ru⟩ := rv.one
  obtain ⟨z, its, n, r, hl, e⟩ := I.lstM hH
  refine call_meets F.slot_list_append ⟨_, e, rfl⟩ F.entry_list_append (F.args_list_append_2 _ _) (PySem.list_append l its.toArray n u (by rw [List.size_toArray]; omega)) ⟨e, ?_⟩
  refine ⟨.non, _, I.lset (its' := its ++ [u]) hH e (by simp) (r.append (.cons ru .nil)) ?_, rfl, q⟩
  rw [List.length_append, List.length_singleton]
  omega
def rExtend : V → List V → Hp → VK → Prop := fun x vs H Q => ∃ l b xs zs, x = .ref l ∧ vs = [.ref b] ∧ H l = some (.lst xs) ∧ H b = some (.lst zs) ∧ xs.length + zs.length ≤ sizeLine ∧ Q .non (upd H l (.lst (xs ++ zs)))
theorem mt_extend : MtM X "list.extend" rExtend := by
  intro pins s σ H x vs v us Q I rx rv h
  obtain ⟨l, b, xs, zs, rfl, rfl, hH, hB, hz, q⟩ := h
  cases rx
  obtain ⟨u, rfl, ru⟩ := rv.one
  cases ru
  obtain ⟨z, its, n, r, hl, e⟩ := I.lstM hH
  obtain ⟨z2, its2, n2, r2, hl2, e2⟩ := I.lstM hB
  have hsz : its.toArray.size + its2.toArray.size ≤ sizeLine := by rw [List.size_toArray, List.size_toArray]; omega
  have hlong : ¬ (!its.toArray.isEmpty && Builtin.List.listTooLong (its.toArray.size + its2.toArray.size)) = true := by
    rw [notLongL hsz, Bool.and_false]
    exact Bool.false_ne_true
  refine call_meets F.slot_list_extend ⟨_, e, rfl⟩ F.entry_list_extend (F.args_list_extend_2 _ _)
    (AutoSeq1.list_extend_list_list_0 l its.toArray n b its2.toArray n2 hlong (by rw [List.size_toArray]; omega) (by omega)) ⟨e, e2, ?_⟩
  refine ⟨.non, _, I.lset (its' := its ++ its2) hH e (by simp) (r.append r2) ?_, rfl, q⟩
  rw [List.length_append]
  omega
def rPop : V → List V → Hp → VK → Prop := fun x vs H Q => ∃ l xs y, x = .ref l ∧ vs = [] ∧ H l = some (.lst xs) ∧ xs[xs.length - 1]? = some y ∧ Q y (upd H l (.lst xs.dropLast))
theorem mt_pop : MtM X "list.pop" rPop := by
  intro pins s σ H x vs v us Q I rx rv h
  obtain ⟨l, xs, y, rfl, rfl, hH, hy, q⟩ := h
  cases rx
  have hus := rv.zero
  subst hus
  obtain ⟨z, its, n, r, hl, e⟩ := I.lstM hH
  obtain ⟨u, hu, ru⟩ := r.get hy
  have hy' : its.toArray[its.toArray.size - 1]? = some u := by
    show its.toArray[its.length - 1]? = some u
    rw [← Array.getElem?_toList, ← hl]
    exact hu
  refine call_meets F.slot_list_pop ⟨_, e, rfl⟩ F.entry_list_pop (F.args_list_pop_1 _) (MeetsSeq.list_pop_last l its.toArray n u hy' (by rw [List.size_toArray]; omega)) ⟨e, ?_⟩
  refine ⟨y, _, I.lset (its' := its.dropLast) hH e ?_ r.dropLast ?_, ru, q⟩
  · show its.toArray.eraseIdxIfInBounds (its.toArray.size - 1) = its.dropLast.toArray
    rw [List.size_toArray, List.eraseIdxIfInBounds_toArray, erase_last]
  · rw [List.length_dropLast]
    omega
def rPopAt : V → List V → Hp → VK → Prop := fun x vs H Q => ∃ l xs i k y, x = .ref l ∧ vs = [.int i] ∧ H l = some (.lst xs) ∧ -(2 ^ 63) ≤ i ∧ i < 2 ^ 63 ∧ seqIndex? i xs.length = some k ∧ xs[k]? = some y ∧ Q y (upd H l (.lst (xs.eraseIdx k)))
theorem mt_popAt : MtM X "list.pop" rPopAt := by
  intro pins s σ H x vs v us Q I rx rv h
  obtain ⟨l, xs, i, k, y, rfl, rfl, hH, h1, h2, hk, hy, q⟩ := h
  cases rx
  obtain ⟨u, rfl, ru⟩ := rv.one
  obtain ⟨t, rfl⟩ := ru
  obtain ⟨z, its, n, r, hl, e⟩ := I.lstM hH
  obtain ⟨w, hw, rw'⟩ := r.get hy
  refine call_meets F.slot_list_pop ⟨_, e, rfl⟩ F.entry_list_pop (F.args_list_pop_2 _ _)
    (MeetsSeq.list_pop_at l its.toArray n i t k w (fitsIndex_both h1 h2) (by rw [List.size_toArray, ← hl]; exact hk) (by rw [← Array.getElem?_toList]; exact hw) (by rw [List.size_toArray]; omega)) ⟨e, ?_⟩
  refine ⟨y, _, I.lset (its' := its.eraseIdx k) hH e ?_ (r.eraseIdx k) ?_, rw', q⟩
  · show its.toArray.eraseIdxIfInBounds k = (its.eraseIdx k).toArray
    rw [List.eraseIdxIfInBounds_toArray]
  · have := len_erase xs k
    omega
def rReverse : V → List V → Hp → VK → Prop := fun x vs H Q => ∃ l xs, x = .ref l ∧ vs = [] ∧ H l = some (.lst xs) ∧ Q .non (upd H l (.lst xs.reverse))
theorem mt_reverse : MtM X "list.reverse" rReverse := by
  intro pins s σ H x vs v us Q I rx rv h
  obtain ⟨l, xs, rfl, rfl, hH, q⟩ := h
  cases rx
  have hus := rv.zero
  subst hus
  obtain ⟨z, its, n, r, hl, e⟩ := I.lstM hH
  refine call_meets F.slot_list_reverse ⟨_, e, rfl⟩ F.entry_list_reverse (F.args_list_reverse_1 _) (AutoSeq1.list_reverse_list_0 l its.toArray n (by rw [List.size_toArray]; omega)) ⟨e, ?_⟩
  refine ⟨.non, _, I.lset (its' := its.reverse) hH e (by simp) r.reverse ?_, rfl, q⟩
  rw [List.length_reverse]
  omega
def rCat : R2 := fun x y H Q => ∃ l b xs zs, x = .ref l ∧ y = .ref b ∧ H l = some (.lst xs) ∧ H b = some (.lst zs) ∧ xs.length + zs.length ≤ sizeLine ∧ ∀ p, H p = none → Q (.ref p) (upd H p (.lst (xs ++ zs)))
theorem op_cat : OpR X (binaryOp .Add) rCat := by
  intro pins s σ H x y v u Q I rx ry h
  obtain ⟨l, b, xs, zs, rfl, rfl, hH, hB, hz, q⟩ := h
  cases rx
  cases ry
  obtain ⟨z, its, n, r, hl, e⟩ := I.lstM hH
  obtain ⟨z2, its2, n2, r2, hl2, e2⟩ := I.lstM hB
  refine PySem.P.add_list e e2 ?_ (by rw [List.size_toArray, List.size_toArray]; omega)
  have ea : its.toArray ++ its2.toArray = (its ++ its2).toArray := by simp
  rw [ea]
  exact ⟨.ref _, _, I.lnew (t' := s.toks) (r.append r2) (by rw [List.length_append]; omega), rfl, q _ I.fresh⟩
def rRep : R2 := fun x y H Q => ∃ l k xs, x = .ref l ∧ y = .int k ∧ H l = some (.lst xs) ∧ -(2 ^ 63) ≤ k ∧ k < 2 ^ 63 ∧ xs.length * k.toNat ≤ sizeLine ∧
  ∀ p, H p = none → Q (.ref p) (upd H p (.lst (List.replicate k.toNat xs).flatten))
theorem len_rep {α : Type} (xs : List α) (k : Nat) : (List.replicate k xs).flatten.length = k * xs.length := by
  induction k with
  | zero => simp
  | succ k ih => rw [List.replicate_succ, List.flatten_cons, List.length_append, ih, Nat.succ_mul, Nat.add_comm]
theorem op_rep : OpR X (binaryOp .Mult) rRep := by
  intro pins s σ H x y v u Q I rx ry h
  obtain ⟨l, k, xs, rfl, rfl, hH, h1, h2, hz, q⟩ := h
  cases rx
  obtain ⟨t, rfl⟩ := ry
  obtain ⟨z, its, n, r, hl, e⟩ := I.lstM hH
  have hlen : its.toArray.size * k.toNat ≤ sizeLine := by rw [List.size_toArray, ← hl]; exact hz
  have hcap : ¬ its.toArray.size * k.toNat > (2 ^ 63 - 1) / 8 := by
    have : (sizeLine : Nat) ≤ (2 ^ 63 - 1) / 8 := by decide
    omega
  have hfit : ¬ (!Builtin.List.listFitsIndex k) = true := by
    rw [fitsIndex_both h1 h2]
    exact Bool.false_ne_true
  have hlong : ¬ Builtin.List.listTooLong (its.toArray.size * k.toNat) = true := by
    rw [notLongL hlen]
    exact Bool.false_ne_true
  have hnew : List.foldl (fun x1 x2 => x1 ++ x2) #[] (List.replicate (if its.toArray.isEmpty = true then 0 else k.toNat) its.toArray) = (List.replicate k.toNat its).flatten.toArray := by
    have f0 : ∀ m : Nat, List.foldl (fun x1 x2 => x1 ++ x2) #[] (List.replicate m its.toArray) = (List.replicate m its).flatten.toArray := fun m => by
      have := foldl_rep its m []
      rw [List.nil_append] at this
      exact this
    rw [f0]
    cases its with
    | nil => simp
    | cons a r' => rw [if_neg (by simp)]
  refine wpAny_binaryOp_repeat_ref (T := "list") (U := "int") (by decide) ⟨_, e, rfl⟩ (fun s' => typeIs_int s' k t) noFill_list_mul F.fills_int_mul F.slot_int_rmul repeat_list F.slot_int_index.lookup
    (call_meets F.slot_int_rmul (typeIs_int s k t) F.entry_int_rmul (F.args_int_rmul_2 _ _) (int___rmul___int_list k t l its.toArray n)
      ⟨e, rfl, ⟨_, e, rfl⟩, call_meets F.slot_list_mul ⟨_, e, rfl⟩ F.entry_list_mul (F.args_list_mul_2 _ _) (AutoListH.list___mul___list_int_3 l its.toArray n k t hfit hcap hlong) ⟨e, ?_⟩⟩)
  rw [hnew]
  exact ⟨.ref _, _, I.lnew (t' := s.toks) (r.rep k.toNat) (by rw [len_rep, Nat.mul_comm]; exact hz), rfl, q _ I.fresh⟩
end
section
variable {prog : Program} {w : World} {A : Around} {E : Value → Shared → Prop} {s : Shared}
set_option maxRecDepth 100000 in
end
section
variable {X : Cx}
end
end L2
namespace L2
open PySem PySem.Spec PyProof.Rows
section
variable {κ : Type} [DecidableEq κ]
def valV (kvs : List (κ × V)) (k : κ) : Option V := (kvs.find? fun kv => decide (kv.1 = k)).map (·.2)
def putK (kvs : List (κ × V)) (k : κ) (v : V) : List (κ × V) :=
  if (kvs.any fun kv => decide (kv.1 = k)) = true then kvs.map (fun kv => if kv.1 = k then (kv.1, v) else kv) else kvs ++ [(k, v)]
def dropK (kvs : List (κ × V)) (k : κ) : List (κ × V) := kvs.filter fun kv => decide (kv.1 ≠ k)
theorem valV_pos {p : κ × V} {r : List (κ × V)} {k : κ} (e : p.1 = k) : valV (p :: r) k = some p.2 := by simp [valV, List.find?_cons, e]
theorem valV_neg {p : κ × V} {r : List (κ × V)} {k : κ} (e : ¬ p.1 = k) : valV (p :: r) k = valV r k := by simp [valV, List.find?_cons, e]
theorem valV_any (k : κ) : ∀ kvs : List (κ × V), (kvs.any fun kv => decide (kv.1 = k)) = (valV kvs k).isSome
  | [] => rfl
  | p :: r => by
    rw [List.any_cons]
    by_cases e : p.1 = k
    · simp only [valV_pos e, decide_eq_true e, Bool.true_or, Option.isSome_some]
    · rw [valV_neg e, decide_eq_false e, Bool.false_or]; exact valV_any k r
theorem valV_map (k j : κ) (y : V) : ∀ kvs : List (κ × V), valV (kvs.map fun kv => if kv.1 = k then (kv.1, y) else kv) j = (valV kvs j).map fun x => if j = k then y else x
  | [] => rfl
  | p :: r => by
    have ih := valV_map k j y r
    rw [List.map_cons]
    by_cases h : p.1 = k
    · rw [if_pos h]
      by_cases e : p.1 = j
      · rw [valV_pos (p := (p.1, y)) e, valV_pos e, Option.map_some, if_pos (e.symm.trans h)]
      · rw [valV_neg (p := (p.1, y)) e, valV_neg e, ih]
    · rw [if_neg h]
      by_cases e : p.1 = j
      · rw [valV_pos (p := p) e, valV_pos e, Option.map_some, if_neg (fun z => h (e.trans z))]
      · rw [valV_neg (p := p) e, valV_neg e, ih]
theorem valV_snoc (k j : κ) (y : V) : ∀ kvs : List (κ × V), valV kvs k = none → valV (kvs ++ [(k, y)]) j = if j = k then some y else valV kvs j
  | [], _ => by
    by_cases e : k = j
    · rw [if_pos e.symm]; exact valV_pos (p := (k, y)) e
    · rw [if_neg (fun z => e z.symm)]; exact valV_neg (p := (k, y)) e
  | p :: r, hn => by
    rw [List.cons_append]
    have hk : ¬ p.1 = k := fun z => by rw [valV_pos z] at hn; cases hn
    rw [valV_neg hk] at hn
    have ih := valV_snoc k j y r hn
    by_cases e : p.1 = j
    · rw [valV_pos e, valV_pos e, if_neg (fun z => hk (e.trans z))]
    · rw [valV_neg e, valV_neg e, ih]
theorem valV_put (kvs : List (κ × V)) (k j : κ) (y : V) : valV (putK kvs k y) j = if j = k then some y else valV kvs j := by
  unfold putK
  by_cases a : (kvs.any fun kv => decide (kv.1 = k)) = true
  · rw [if_pos a, valV_map]
    rw [valV_any] at a
    by_cases e : j = k
    · obtain ⟨x, hx⟩ := Option.isSome_iff_exists.mp a
      rw [if_pos e, e, hx, Option.map_some, if_pos rfl]
    · rw [if_neg e]
      cases valV kvs j with
      | none => rfl
      | some x => rw [Option.map_some, if_neg e]
  · rw [if_neg a]
    refine valV_snoc k j y kvs ?_
    rw [valV_any] at a
    cases q : valV kvs k with
    | none => rfl
    | some x => rw [q] at a; exact (a rfl).elim
theorem length_putK (kvs : List (κ × V)) (k : κ) (v : V) : (putK kvs k v).length ≤ kvs.length + 1 := by
  unfold putK
  split
  · rw [List.length_map]; omega
  · rw [List.length_append, List.length_cons, List.length_nil]; omega
theorem putK_new {kvs : List (κ × V)} {k : κ} (v : V) (h : valV kvs k = none) : putK kvs k v = kvs ++ [(k, v)] := by
  unfold putK
  rw [valV_any, h]
  exact if_neg (by decide)
theorem RelO.isSome_eq {o : Option V} {u : Option Value} (r : RelO o u) : o.isSome = u.isSome := by
  cases o with
  | none => cases u with
    | none => rfl
    | some _ => exact (show False from r).elim
  | some _ => cases u with
    | none => exact (show False from r).elim
    | some _ => rfl
theorem KV.val {kvs : List (κ × V)} {vs : List (κ × Value)} (r : KV kvs vs) (k : κ) : RelO (valV kvs k) (valueAt vs k) := by
  unfold KV at r
  induction r with
  | nil => exact True.intro
  | @cons p q ps qs h t ih =>
    obtain ⟨h1, h2⟩ := h
    by_cases e : p.1 = k
    · have e' : q.1 = k := h1.symm.trans e
      have b : valueAt (q :: qs) k = some q.2 := by simp [valueAt, List.find?_cons, e']
      rw [valV_pos e, b]; exact h2
    · have e' : ¬ q.1 = k := fun z => e (h1.trans z)
      have b : valueAt (q :: qs) k = valueAt qs k := by simp [valueAt, List.find?_cons, e']
      rw [valV_neg e, b]; exact ih
theorem KV.any {kvs : List (κ × V)} {vs : List (κ × Value)} (r : KV kvs vs) (k : κ) : (kvs.any fun kv => decide (kv.1 = k)) = vs.any fun kv => decide (kv.1 = k) := by
  unfold KV at r
  induction r with
  | nil => rfl
  | cons h t ih => rw [List.any_cons, List.any_cons, ih, h.1]
theorem KV.repl {kvs : List (κ × V)} {vs : List (κ × Value)} (r : KV kvs vs) (k : κ) {y : V} {u : Value} (ry : RelV y u) :
    KV (kvs.map fun kv => if kv.1 = k then (kv.1, y) else kv) (vs.map fun kv => if kv.1 = k then (kv.1, u) else kv) := by
  unfold KV at r ⊢
  induction r with
  | nil => exact .nil
  | @cons p q ps qs h t ih =>
    rw [List.map_cons, List.map_cons]
    refine .cons ?_ ih
    obtain ⟨h1, h2⟩ := h
    by_cases e : p.1 = k
    · rw [if_pos e, if_pos (h1.symm.trans e)]; exact ⟨h1, ry⟩
    · rw [if_neg e, if_neg (fun z => e (h1.trans z))]; exact ⟨h1, h2⟩
theorem KV.put {kvs : List (κ × V)} {vs : List (κ × Value)} (r : KV kvs vs) (k : κ) {y : V} {u : Value} (ry : RelV y u) : KV (putK kvs k y) (stored vs k u) := by
  unfold putK stored
  rw [r.any k]
  by_cases e : (vs.any fun kv => decide (kv.1 = k)) = true
  · rw [if_pos e, if_pos e]; exact r.repl k ry
  · rw [if_neg e, if_neg e]; exact Paired.snoc r ⟨rfl, ry⟩
theorem KV.length {kvs : List (κ × V)} {vs : List (κ × Value)} (r : KV kvs vs) : kvs.length = vs.length := Paired.length r
end
theorem kV_is {P : Program} {w : World} {k : Key} {u : Value} (r : RelV (kV k) u) : (mixKind P w).is k u = true := by
  cases k with
  | inl i => obtain ⟨t, e⟩ := (show ∃ t, u = Value.int i t from r); subst e; exact mixKind_int P w i t
  | inr x => obtain ⟨t, e⟩ := (show ∃ t, u = Value.str x t from r); subst e; exact mixKind_str P w x t
theorem items_are {P : Program} {w : World} : ∀ {ks : List Key} {us : List Value}, Vals (ks.map kV) us → ItemsAre (mixKind P w) ks us
  | [], _, r => by rw [List.map_nil] at r; cases r; exact .nil
  | k :: ks, _, r => by
    rw [List.map_cons] at r
    cases r with
    | cons h t => exact .cons (kV_is h) (items_are t)
abbrev KT (H : Hp) : List (List Key × V) → List (List Key × Addr × Value) → Prop := Paired fun p q => p.1 = q.1 ∧ H q.2.1 = some (.tup (p.1.map kV)) ∧ RelV p.2 q.2.2
theorem KT.val {H : Hp} {kvs : List (List Key × V)} {xs : List (List Key × Addr × Value)} (r : KT H kvs xs) (k : List Key) : RelO (valV kvs k) ((atKey xs k).map (·.2)) := by
  induction r with
  | nil => exact True.intro
  | @cons p q ps qs h t ih =>
    obtain ⟨h1, _, h2⟩ := h
    by_cases e : p.1 = k
    · have e' : q.1 = k := h1.symm.trans e
      have b : atKey (q :: qs) k = some q.2 := by simp [atKey, List.find?_cons, e']
      rw [valV_pos e, b]; exact h2
    · have e' : ¬ q.1 = k := fun z => e (h1.trans z)
      have b : atKey (q :: qs) k = atKey qs k := by simp [atKey, List.find?_cons, e']
      rw [valV_neg e, b]; exact ih
theorem KT.repl {H : Hp} {kvs : List (List Key × V)} {xs : List (List Key × Addr × Value)} (r : KT H kvs xs) (k : List Key) {y : V} {u : Value} (ry : RelV y u) :
    KT H (kvs.map fun kv => if kv.1 = k then (kv.1, y) else kv) (xs.map (putAt k u)) := by
  induction r with
  | nil => exact .nil
  | @cons p q ps qs h t ih =>
    rw [List.map_cons, List.map_cons]
    refine .cons ?_ ih
    obtain ⟨h1, h2, h3⟩ := h
    unfold putAt
    by_cases e : p.1 = k
    · rw [if_pos e, if_pos (h1.symm.trans e)]; exact ⟨h1, h2, ry⟩
    · rw [if_neg e, if_neg (fun z => e (h1.trans z))]; exact ⟨h1, h2, h3⟩
theorem KT.put {H : Hp} {kvs : List (List Key × V)} {xs : List (List Key × Addr × Value)} (r : KT H kvs xs) (k : List Key) {b : Addr} {y : V} {u : Value} (hb : H b = some (.tup (k.map kV))) (ry : RelV y u) :
    KT H (putK kvs k y) (storedH xs k b u) := by
  have e : (kvs.any fun kv => decide (kv.1 = k)) = (atKey xs k).isSome := by
    rw [valV_any, (r.val k).isSome_eq, Option.isSome_map]
  unfold putK storedH
  rw [e]
  by_cases q : (atKey xs k).isSome = true
  · rw [if_pos q, if_pos q]; exact r.repl k ry
  · rw [if_neg q, if_neg q]; exact Paired.snoc r ⟨rfl, hb, ry⟩
theorem KT.keeps {H H' : Hp} {kvs : List (List Key × V)} {xs : List (List Key × Addr × Value)} (r : KT H kvs xs) (ht : ∀ b ys, H b = some (.tup ys) → H' b = some (.tup ys)) : KT H' kvs xs :=
  Paired.mapP r fun _ _ z => ⟨z.1, ht _ _ z.2.1, z.2.2⟩
section
variable {P : Program} {w : World} {H : Hp} {h : Heap} {a : Addr}
theorem rd_of {u : HO} (ok : HOk P w H h) (e : Rd H a u) : ObjOk P w H h a u := e.ok ok
theorem dk_rd {kvs : List (Key × V)} (ok : HOk P w H h) (e : Rd H a (.dK kvs)) : kvs.length ≤ sizeLine ∧ (a == sysModules) = false ∧ ∃ vs, KV kvs vs ∧ h.DictOf (mixKind P w) a vs :=
  show ObjOk P w H h a (.dK kvs) from rd_of ok e
theorem dk_of {kvs : List (Key × V)} (ok : HOk P w H h) (e : H a = some (.dK kvs)) : kvs.length ≤ sizeLine ∧ (a == sysModules) = false ∧ ∃ vs, KV kvs vs ∧ h.DictOf (mixKind P w) a vs := dk_rd ok (.inl e)
theorem key_of {ks : List Key} (ok : HOk P w H h) (e : H a = some (.tup (ks.map kV))) : (tupleKind (mixKind P w)).is h ks a := by
  obtain ⟨_, its, r, o, h1, h2, n, h3⟩ := (show ObjOk P w H h a (.tup (ks.map kV)) from ok a _ e)
  exact ⟨o, its.toArray, n, h1, h2, h3, by simpa using items_are r⟩
theorem dt_rd {kvs : List (List Key × V)} (ok : HOk P w H h) (e : Rd H a (.dT kvs)) : kvs.length ≤ sizeLine ∧ (a == sysModules) = false ∧
    ∃ xs, KT H kvs xs ∧ h.DictOfH (tupleKind (mixKind P w)) a xs := by
  obtain ⟨z, y, xs, r, o, es, ep, h1, h2, h3, h4, h5⟩ := (show ObjOk P w H h a (.dT kvs) from rd_of ok e)
  refine ⟨z, y, xs, r, o, es, ep, h1, h2, h3, h4, fun x hx => ?_, h5⟩
  have all : ∀ {l : List (List Key × V)} {m : List (List Key × Addr × Value)}, KT H l m → ∀ x ∈ m, (tupleKind (mixKind P w)).is h x.1 x.2.1 := by
    intro l m q
    induction q with
    | nil => intro x hx; exact nomatch hx
    | @cons p q ps qs hq t ih =>
      intro x hx
      rcases List.mem_cons.mp hx with e | hx
      · subst e
        exact key_of ok (by rw [← hq.1]; exact hq.2.1)
      · exact ih x hx
  exact all r x hx
theorem dt_of {kvs : List (List Key × V)} (ok : HOk P w H h) (e : H a = some (.dT kvs)) : kvs.length ≤ sizeLine ∧ (a == sysModules) = false ∧
    ∃ xs, KT H kvs xs ∧ h.DictOfH (tupleKind (mixKind P w)) a xs := dt_rd ok (.inl e)
end
def DGet (H : Hp) (a : Addr) (y : V) (r : Option V) : Prop :=
  (∃ kvs k, Rd H a (.dK kvs) ∧ y = kV k ∧ r = valV kvs k) ∨ ∃ kvs k b, Rd H a (.dT kvs) ∧ y = .ref b ∧ H b = some (.tup (k.map kV)) ∧ r = valV kvs k
def DPut (H : Hp) (a : Addr) (y v : V) (H' : Hp) : Prop :=
  (∃ kvs k, H a = some (.dK kvs) ∧ y = kV k ∧ kvs.length < sizeLine ∧ H' = upd H a (.dK (putK kvs k v))) ∨
  ∃ kvs k b, H a = some (.dT kvs) ∧ y = .ref b ∧ H b = some (.tup (k.map kV)) ∧ kvs.length < sizeLine ∧ H' = upd H a (.dT (putK kvs k v))
theorem DGet.k {H : Hp} {a : Addr} {kvs : List (Key × V)} {k : Key} (e : H a = some (.dK kvs)) : DGet H a (kV k) (valV kvs k) := .inl ⟨kvs, k, .inl e, rfl, rfl⟩
theorem DPut.k {H : Hp} {a : Addr} {kvs : List (Key × V)} {k : Key} {v : V} (e : H a = some (.dK kvs)) (hl : kvs.length < sizeLine) : DPut H a (kV k) v (upd H a (.dK (putK kvs k v))) := .inl ⟨kvs, k, e, rfl, hl, rfl⟩
section
variable {X : Cx} {pins : List (Addr × Obj)} {σ : St} {H : Hp} {s : Shared} {a : Addr} {y v : V} {u r : Value} {o : Option V} {A : Around} {E : Value → Shared → Prop}
theorem Inv.big (I : Inv X pins σ H s) : sysModules < s.heap.objs.size := by
  have h : mainGlobals < s.heap.objs.size := (I.mod.glob.keeps I.bk).lt
  exact Nat.lt_trans (by decide) h
theorem d_getItem {Q : Value → Shared → Prop} (hu : A.units + 1 < cLine) (I : Inv X pins σ H s) (g : DGet H a y (some v)) (ry : RelV y u) (h : ∀ w' s', Inv X pins σ H s' → RelV v w' → Q w' s') :
    wpAny (model X.prog X.w) A (getItem (.ref a) u) Q E s := by
  rcases g with ⟨kvs, k, e, ey, l⟩ | ⟨kvs, k, b, e, ey, eb, l⟩
  · subst ey
    obtain ⟨z, hd, vs, rel, dd⟩ := dk_rd I.hok e
    obtain ⟨w', hw, rw'⟩ := RelO.some_of (v := v) (o := valueAt vs k) (by rw [l]; exact rel.val k)
    exact wpAny_getItem_of (kV_is ry) dd.mapOf hw (h w' _ (I.tok _) rw')
  · subst ey
    cases (show u = Value.ref b from ry)
    obtain ⟨z, hd, xs, rel, dd⟩ := dt_rd I.hok e
    obtain ⟨w', hw, rw'⟩ := RelO.some_of (v := v) (o := (atKey xs k).map (·.2)) (by rw [l]; exact rel.val k)
    obtain ⟨p, hp, hp2⟩ := Option.map_eq_some_iff.mp hw
    refine wpAny_getItem_heap (tupleKind_room_in1 hu) (key_of I.hok eb) dd hp ?_
    rw [hp2]
    exact h w' _ (I.tok _) rw'
theorem d_in {Q : Value → Shared → Prop} (hu : A.units + 1 < cLine) (I : Inv X pins σ H s) (g : DGet H a y o) (ry : RelV y u) (h : ∀ s', Inv X pins σ H s' → Q (.bool o.isSome) s') :
    wpAny (model X.prog X.w) A (compareOp .In u (.ref a)) Q E s := by
  rcases g with ⟨kvs, k, e, ey, l⟩ | ⟨kvs, k, b, e, ey, eb, l⟩
  · subst ey
    obtain ⟨z, hd, vs, rel, dd⟩ := dk_rd I.hok e
    refine wpAny_in_of (kV_is ry) hd dd.mapOf ?_
    rw [← (rel.val k).isSome_eq, ← l]
    exact h _ (I.tok _)
  · subst ey
    cases (show u = Value.ref b from ry)
    obtain ⟨z, hd, xs, rel, dd⟩ := dt_rd I.hok e
    refine wpAny_in_heap (tupleKind_room_in1 hu) (key_of I.hok eb) hd dd ?_
    have q := (rel.val k).isSome_eq
    rw [Option.isSome_map] at q
    rw [← q, ← l]
    exact h _ (I.tok _)
theorem d_notIn {Q : Value → Shared → Prop} (hu : A.units + 1 < cLine) (I : Inv X pins σ H s) (g : DGet H a y o) (ry : RelV y u) (h : ∀ s', Inv X pins σ H s' → Q (.bool (!o.isSome)) s') :
    wpAny (model X.prog X.w) A (compareOp .NotIn u (.ref a)) Q E s := by
  rcases g with ⟨kvs, k, e, ey, l⟩ | ⟨kvs, k, b, e, ey, eb, l⟩
  · subst ey
    obtain ⟨z, hd, vs, rel, dd⟩ := dk_rd I.hok e
    refine wpAny_notIn_of (kV_is ry) hd dd.mapOf ?_
    rw [← (rel.val k).isSome_eq, ← l]
    exact h _ (I.tok _)
  · subst ey
    cases (show u = Value.ref b from ry)
    obtain ⟨z, hd, xs, rel, dd⟩ := dt_rd I.hok e
    refine wpAny_notIn_heap (tupleKind_room_in1 hu) (key_of I.hok eb) hd dd ?_
    have q := (rel.val k).isSome_eq
    rw [Option.isSome_map] at q
    rw [← q, ← l]
    exact h _ (I.tok _)
theorem d_write {h' : Heap} {t' : Nat} {ob : HO} (I : Inv X pins σ H s) (mu : Mut (H a)) (hs : Heap.SameBut a s.heap h') (he : ∃ q, h'.get? a = some q) (new : ObjOk X.prog X.w (upd H a ob) h' a ob) :
    Inv X pins σ (upd H a ob) { s with heap := h', toks := t' } :=
  I.write (x := a) (e := a) mu (.inl rfl) (fun b q hb z => (hs.2 b hb).trans z) he new
theorem dk_new {P : Program} {w : World} {H' : Hp} {h' : Heap} {kvs : List (Key × V)} {vs : List (Key × Value)} (z : kvs.length ≤ sizeLine) (hd : (a == sysModules) = false) (rel : KV kvs vs) (dd : h'.DictOf (mixKind P w) a vs) :
    ObjOk P w H' h' a (.dK kvs) := ⟨z, hd, vs, rel, dd⟩
theorem d_setItem {H' : Hp} {Q : Unit → Shared → Prop} (hu : A.units + 1 < cLine) (I : Inv X pins σ H s) (g : DPut H a y v H') (ry : RelV y u) (rv : RelV v r) (h : ∀ s', Inv X pins σ H' s' → Q () s') :
    wpAny (model X.prog X.w) A (setItem (.ref a) u r) Q E s := by
  rcases g with ⟨kvs, k, e, ey, l, eH⟩ | ⟨kvs, k, b, e, ey, eb, l, eH⟩
  · subst ey eH
    obtain ⟨z, hd, vs, rel, dd⟩ := dk_of I.hok e
    have hz : vs.length ≤ sizeLine := by rw [← rel.length]; exact z
    have hl : (putK kvs k v).length ≤ sizeLine := by have := length_putK kvs k v; omega
    refine wpAny_setItem_pairs (hsz := hz) (kV_is ry) dd fun h' dd' hs => h _ ?_
    have he : ∃ q, h'.get? a = some q := let ⟨q, _, _, hq, _⟩ := dd'; ⟨q, hq⟩
    exact d_write I (by rw [e]; exact True.intro) hs he (dk_new hl hd (rel.put k rv) dd')
  · subst ey eH
    cases (show u = Value.ref b from ry)
    obtain ⟨z, hd, xs, rel, dd⟩ := dt_of I.hok e
    have hz : xs.length ≤ sizeLine := by rw [← Paired.length rel]; exact z
    have hl : (putK kvs k v).length ≤ sizeLine := by have := length_putK kvs k v; omega
    refine wpAny_setItem_heap (hsz := hz) (tupleKind_room_in1 hu) (key_of I.hok eb) dd fun h' dd' hs => h _ ?_
    obtain ⟨q, es, ep, hq, h2, h3, h4, _, h5⟩ := dd'
    refine d_write I (by rw [e]; exact True.intro) hs ⟨q, hq⟩ ⟨hl, hd, _, (rel.put k eb rv).keeps fun c ys ec => ?_, q, es, ep, hq, h2, h3, h4, h5⟩
    rw [upd_ne (ne_of ec e (fun z => nomatch z))]
    exact ec
end
section
variable {X : Cx} {pins : List (Addr × Obj)} {σ : St} {H : Hp} {s : Shared} {a : Addr} {kvs : List (Key × V)} {k : Key} {u : Value} {A : Around} {E : Value → Shared → Prop}
theorem d_len {Q : Value → Shared → Prop} (I : Inv X pins σ H s) (e : Rd H a (.dK kvs)) (h : ∀ t s', Inv X pins σ H s' → Q (.int kvs.length t) s') : wpAny (model X.prog X.w) A (call (.builtin "len") [.ref a]) Q E s := by
  obtain ⟨z, hd, vs, rel, dd⟩ := dk_rd I.hok e
  refine call_len_dict hd dd (by rw [← rel.length]; rw [sizeLine_eq] at z; omega) ?_
  rw [← rel.length]
  exact h _ _ (I.tok _)
end
theorem dict_typeIs {X : Cx} {pins : List (Addr × Obj)} {σ : St} {H : Hp} {s : Shared} {a : Addr} {y : V} {o : Option V} (I : Inv X pins σ H s) (g : DGet H a y o) : s.TypeIs (.ref a) "dict" := by
  rcases g with ⟨kvs, k, e, _, _⟩ | ⟨kvs, k, b, e, _, _, _⟩
  · obtain ⟨_, _, vs, _, dd⟩ := dk_rd I.hok e
    exact dd.typeIs
  · obtain ⟨_, _, xs, _, dd⟩ := dt_rd I.hok e
    exact dd.typeIs
section
variable {X : Cx} {o i e value : Expr} {pos pos' tpos : Pos} {td ty tv : TE}
end
theorem dk_empty {P : Program} {w : World} {H : Hp} (h : Heap) (hb : sysModules < h.objs.size) : ObjOk P w H (h.push { cls := .type "dict", data := .dict #[] }) h.objs.size (.dK []) :=
  ⟨Nat.zero_le _, beq_eq_false_iff_ne.mpr (Ne.symm (Nat.ne_of_lt hb)), [], .nil, Heap.DictOf.new h⟩
def tDNewK : TE := fun _ H Q => ∀ p, H p = none → Q (.ref p) (upd H p (.dK []))
section
variable {X : Cx} {pos : Pos}
theorem pe_dnewK : PE X (.Dict [] [] pos) tDNewK := fun pins s σ H Q I h =>
  wpAny_Dict_empty ⟨.ref s.heap.objs.size, _, I.laid (a := s.heap.objs.size) (o := .dK []) (t' := s.toks) (fun _ _ q => Heap.get?_push_of_some _ q) (Nat.le_refl _) (dk_empty s.heap I.big), rfl, h _ (I.hok.fresh (Nat.le_refl _))⟩
end
structure M1 (X : Cx) (o : Expr) (m : Str) (apos : Pos) (e : Expr) (cpos : Pos) : Prop where
  base : attributeBase o m X.env (eval o X.env) = eval o X.env
  few : ((backTo cpos (starEach [e] X.env)).all (fun x => !x.1) && (backToKw cpos (keywordEach [] X.env)).all (fun x => x.1.isSome)
    && decide (([e] : List Expr).length + ([] : List Keyword).length + (if ([] : List Keyword).isEmpty then 0 else 1) < 30)) = true
  line : (apos.endLine == cpos.line) = true
  trees : backTo cpos (starEach [e] X.env) = [(false, eval e X.env)]
structure M2 (X : Cx) (o : Expr) (m : Str) (apos : Pos) (e f : Expr) (cpos : Pos) : Prop where
  base : attributeBase o m X.env (eval o X.env) = eval o X.env
  few : ((backTo cpos (starEach [e, f] X.env)).all (fun x => !x.1) && (backToKw cpos (keywordEach [] X.env)).all (fun x => x.1.isSome)
    && decide (([e, f] : List Expr).length + ([] : List Keyword).length + (if ([] : List Keyword).isEmpty then 0 else 1) < 30)) = true
  line : (apos.endLine == cpos.line) = true
  trees : backTo cpos (starEach [e, f] X.env) = [(false, eval e X.env), (false, eval f X.env)]
def IsD (H : Hp) (a : Addr) : Prop := (∃ kvs, Rd H a (.dK kvs)) ∨ ∃ kvs, Rd H a (.dT kvs)
section
variable {X : Cx} {pins : List (Addr × Obj)} {σ : St} {H : Hp} {s : Shared} {a : Addr} {y d : V} {u r : Value} {o : Option V} {A : Around} {E : Value → Shared → Prop}
end
def tDGet2 (td ty tx : TE) : TE := fun σ H Q => td σ H fun x H1 => ∃ a, x = .ref a ∧ IsD H1 a ∧ ty σ H1 fun y H2 => tx σ H2 fun z H3 => ∃ o, DGet H3 a y o ∧ Q (o.getD z) H3
section
variable {X : Cx} {o e f : Expr} {apos cpos : Pos} {td ty tx : TE}
end
section
variable {X : Cx} {pins : List (Addr × Obj)} {σ : St} {H : Hp} {s : Shared} {a : Addr} {kvs : List (Key × V)} {A : Around} {E : Value → Shared → Prop}
end
section
variable {X : Cx} {pins : List (Addr × Obj)} {σ : St} {H : Hp} {s : Shared} {a : Addr} {y : V} {u : Value} {A : Around} {E : Value → Shared → Prop}
end
end L2
namespace Att
open PySem PySem.W PySem.Calls PyProof.Rows
theorem ints_of_wellAll {P : Params} {h : Heap} : ∀ (ns : List Int) (vs : List Value), WellAll P h vs (ns.map WData.int) → IntsAre vs ns := by
  intro ns
  induction ns with
  | nil =>
    intro vs w
    rw [List.map_nil] at w
    cases w
    exact .nil
  | cons n ns ih =>
    intro vs w
    rw [List.map_cons] at w
    cases w with
    | cons a b =>
      cases a
      exact .cons _ _ (ih _ b)
theorem script_of {l : OpenLaw} {n : Nat} (hn : l.most = some n) {P : Params} {h : Heap} {args : List WData} {vals : List Value}
    (hpre : l.row.toRowW.claim.pre args = true) (hwl : WellAll P h vals args) :
    ∃ a vs ns, vals = [Value.ref a] ∧ args = [WData.list (ns.map WData.int)] ∧ h.get? a = some { cls := .type "list", data := .seq vs.toArray } ∧ IntsAre vs ns ∧ ns.length ≤ n := by
  have hsh : WShape.hasAll [] args [.list .int] = true := (pre_splitW hpre).1
  have hc : l.pre.holds [] { args := args } = true := (pre_splitW hpre).2
  obtain ⟨d, r, rfl, h1, h2⟩ := hasAllW_cons hsh
  obtain rfl := hasAllW_nil h2
  obtain ⟨xs, rfl, h3⟩ := hasW_list h1
  obtain ⟨ns, rfl⟩ := items_int h3
  have hlen : ns.length ≤ n := by
    unfold OpenLaw.pre at hc
    have h4 : (WTm.not (.lt (.lit (.int (n : Int))) (.len (.arg 0)))).holds [] { args := [.list (ns.map .int)] } = true := by
      have h4 := (holds_andW hc).1
      rw [hn] at h4
      exact h4
    have h5 := condW_of h4 (w_not (w_lt w_lit (w_len_list (w_arg rfl))))
    rw [List.length_map] at h5
    refine Nat.le_of_not_lt fun q => ?_
    have q' : (n : Int) < ((ns.length : Nat) : Int) := by omega
    first
      | (rw [decide_eq_true q'] at h5; exact absurd h5 (by decide))
      | (simp at h5; omega)
  cases hwl with
  | cons w1 w2 =>
    cases w2
    cases w1 with
    | list ho hall => exact ⟨_, _, ns, rfl, rfl, ho, ints_of_wellAll ns _ hall, hlen⟩
theorem post_true (l : OpenLaw) (args : List WData) : l.row.toRowW.claim.post args (.bool true) args = true :=
  postW_of (r := l.row.toRowW) (X := (true == true))
    (show WShape.has [] (.bool true) .bool = true by first | rfl | decide | simp [WShape.has, WShape.arms, WShape.armsAll])
    (show (WTm.eq .res (.lit (.bool true))).value [] { args := args, res := some (.bool true), after := args } = some (.bool (true == true)) from w_eq_bool (w_res rfl) w_lit) rfl
theorem attach_call {l : OpenLaw} {n : Nat} {q : Program} {loose : List Str} {XP : (Str → Option Value) → Heap → Prop} {YP : World → Heap → Prop} {d : DefRec}
    (hn : l.most = some n) (hdf : d.params.defaults = [])
    (call : ∀ (w : World) (s₀ s₁ : Shared) (mg mb : Str → Option Value) (fa : Addr) (o : Obj) (pm cd doc : Value) (a : Addr) (vs : List Value) (ns : List Int),
      Ground q loose [] XP w s₀ mg mb s₁.heap → YP w s₁.heap →
      s₁.heap.get? fa = some o → o.data = .func (docDef d.name d.params d.body d.scope pm cd doc) → s₁.heap.CodeRec cd d.name → mg d.name = some (.ref fa) →
      s₁.heap.get? a = some { cls := .type "list", data := .seq vs.toArray } → IntsAre vs ns → ns.length ≤ n → s₁.gens = #[] →
      codeAny (model l.prog w) callerA (.call (.ref fa) ⟨[.ref a], []⟩) (fun r s' => r = .ok (.ret (.bool true)) ∧ OldK s₁.heap s'.heap ∧ s'.os = s₁.os ∧ AllBare s'.gens) s₁) :
    WalkO q loose XP YP l.row.toRowW d [] (fun f vs => PySem.call f vs) := by
  intro w s₀ s₁ mg mb G Y fa o pm cd doc dV kV ho hd hcd hD hmg hg args vals as hpre hlay hrd hwl hlo
  obtain rfl : dV = .none := Dflts.none hD hdf
  obtain rfl : kV = .none := Dflts.noKw hD
  obtain ⟨a, vs, ns, rfl, rfl, hobj, hints, hlen⟩ := script_of hn hpre hwl
  refine enter_call (codeAny_mono (call w s₀ s₁ mg mb fa o pm cd doc a vs ns G Y ho (fd_plain hd) hcd hmg hobj hints hlen hg) fun r s' hq => ?_)
  obtain ⟨rfl, h2, h3, h4⟩ := hq
  exact ⟨.inl ⟨.bool true, .bool true, [], rfl, fun _ => rfl, .bool true, post_true l _, fun _ => ⟨List.Pairwise.nil, fun _ hm => (nomatch hm)⟩⟩, h2, h3, h4⟩
section
variable {prog : Program} {w : World} {A : Around} {E : Value → Shared → Prop} {s : Shared} {K : Frag}
def ledger (h : Heap) (L d : Addr) : List (Addr × Obj) := (List.range h.objs.size).filterMap fun a => if a = L ∨ a = d then none else (h.get? a).map fun o => (a, o)
end
end Att
namespace L2
open PySem PySem.Spec PyProof.Rows
theorem vals_ints : ∀ {vs : List Value} {ns : List Int}, IntsAre vs ns → Vals (ns.map V.int) vs
  | _, _, .nil => .nil
  | _, _, .cons n t h => .cons ⟨t, rfl⟩ (vals_ints h)
def Only (H : Hp) : Prop := ∀ b, H b = none ∨ ∃ o xs, H b = some (.frz o (.lst xs))
theorem law_call {P : Program} {w : World} {K : PySem.W.Frag} {mg mb : Str → Option Value} {CX : CXT} {k : Nat} {fa a : Addr} {fd : FuncData} {x : Str} {sp : Sp} {s₁ : Shared} {vs : List Value} {ns : List Int}
    (KX : K.In s₁.heap) (hns : s₁.heap.Ns mainGlobals mg) (hb : s₁.heap.Ns builtinsNs mb) (hbb : ∀ x : Str, x ≠ "__name__" → mb x = bootBuiltins x) (hlim : s₁.heap.NoLimit) (hg : s₁.gens = #[])
    (ha : s₁.heap.get? a = some { cls := .type "list", data := .seq vs.toArray }) (hi : IntsAre vs ns) (hl : ns.length ≤ sizeLine) (hr : Room k callerA)
    (F : ∀ base : Heap, K.In base → base.Ns mainGlobals mg → FnOk P w K mg base CX k fa fd [x] sp) (hbind : ∀ (s : Shared) (u : Value), BindsTo s fd ⟨[u], []⟩ [(x, u)])
    (hsp : ∀ H : Hp, Only H → SqL K H a (ns.map V.int) → sp [.ref a] H (fun v _ => v = .bl true) fun _ _ _ => False)
    (hCX : ∀ H e s', CX [] H s₁ (fun _ _ _ => False) e s' → False) :
    codeAny (model P w) callerA (.call (.ref fa) ⟨[.ref a], []⟩) (fun r s' => r = .ok (.ret (.bool true)) ∧ OldK s₁.heap s'.heap ∧ s'.os = s₁.os ∧ AllBare s'.gens) s₁ := by
  have rv := vals_ints hi
  have lenV := hi.length
  have core : ∀ H : Hp, Only H → SqL K H a (ns.map V.int) → HOk P w H s₁.heap → (∀ b, H b ≠ none → b = a) → (H a ≠ none → K.lookup a = none) →
      codeAny (model P w) callerA (.call (.ref fa) ⟨[.ref a], []⟩) (fun r s' => r = .ok (.ret (.bool true)) ∧ OldK s₁.heap s'.heap ∧ s'.os = s₁.os ∧ AllBare s'.gens) s₁ := by
    intro H hO hS hok hA hK
    have base_of : ∀ {b : Addr} {o : Obj}, s₁.heap.get? b = some o → H b = none → (hidT s₁.heap H).get? b = some o := fun e n => hidT_get e n
    have noA : ∀ {b : Addr} {o : Obj} {es : Array DictEntry} {ep : Nat}, s₁.heap.get? b = some o → o.data = .dict es ep → H b = none := fun {b o es ep} e d => by
      cases q : H b with
      | none => rfl
      | some u =>
        have e' : b = a := hA b (by rw [q]; simp)
        subst e'
        rw [ha] at e; cases e
        have d' : Data.seq vs.toArray _ = Data.dict es ep := d
        cases d'
    have nsK : ∀ {b : Addr} {m : Str → Option Value}, s₁.heap.Ns b m → (hidT s₁.heap H).Ns b m := fun {b m} ⟨o, es, ep, e, d, r⟩ => ⟨o, es, ep, base_of e (noA e d), d, r⟩
    have hKb : K.In (hidT s₁.heap H) := fun b o e => base_of (KX b o e) (by
      cases q : H b with
      | none => rfl
      | some u =>
        have e' : b = a := hA b (by rw [q]; simp)
        subst e'
        rw [hK (by rw [q]; simp)] at e; cases e)
    have hM : Mod K mg (hidT s₁.heap H) := ⟨hKb, nsK hns, ⟨mb, nsK hb, hbb⟩, let ⟨mc, h1, h2⟩ := hlim; ⟨mc, nsK h1, h2⟩⟩
    have e0 : Env0 P w K mg (hidT s₁.heap H) callerA [] s₁ H := ⟨rfl, hM, fun b o e => of_hidT e, Nat.le_of_eq (hidT_size _ _), trivial, fun b hb => absurd (show b ∈ ([] : List Addr) from hb) (by simp), hok, .of_eq hg⟩
    refine codeAny_mono ((F _ hKb (nsK hns)).run callerA [] s₁ H ⟨[.ref a], []⟩ [.ref a] [.ref a] _ _ hr e0 (hbind s₁ (.ref a)) (.cons rfl .nil) (hsp H hO hS)) fun r s' h => ?_
    cases r with
    | error e => exact (hCX H e s' h).elim
    | ok fl =>
      cases fl with
      | next => exact False.elim h
      | brk => exact False.elim h
      | cont => exact False.elim h
      | ret u =>
        obtain ⟨v, H', os, bare, un, hok', r', q⟩ := h
        have q' : v = .bl true := q
        subst q'
        obtain rfl : u = Value.bool true := r'
        refine ⟨rfl, OldK.of_keep fun b o e => ?_, os, bare⟩
        cases q : H b with
        | none => exact un.keep b o e q (by intro z; exact absurd (show b ∈ ([] : List Addr) from z) (by simp)) (by simp)
        | some u =>
          rcases hO b with z | ⟨ob, xs, z⟩
          · rw [q] at z; cases z
          · have z2 := un.frzs b ob _ z
            obtain ⟨e1, _⟩ := hok b _ z
            obtain ⟨e2, _⟩ := hok' b _ z2
            rw [e] at e1; cases e1
            exact e2
  cases hk : K.lookup a with
  | some o =>
    have e := KX a o hk
    rw [ha] at e
    cases e
    refine core (fun _ => none) (fun _ => .inl rfl) (.inr ⟨_, vs.toArray, _, hk, rfl, rfl, rfl, by rw [List.size_toArray, lenV]; exact hl, by simpa using rv⟩) (fun b u z => by have z' : (none : Option HO) = some u := z; cases z') (fun b z => absurd rfl z) fun z => absurd rfl z
  | none =>
    refine core (fun b => if b = a then some (.frz { cls := .type "list", data := .seq vs.toArray } (.lst (ns.map V.int))) else none) (fun b => ?_) (.inl (.inr ⟨{ cls := .type "list", data := .seq vs.toArray }, if_pos rfl⟩)) (fun b u z => ?_) (fun b z => ?_) fun _ => hk
    · by_cases hb : b = a
      · exact .inr ⟨_, _, if_pos hb⟩
      · exact .inl (if_neg hb)
    · by_cases hb : b = a
      · have z' := (if_pos hb).symm.trans z
        cases z'
        subst hb
        exact ⟨ha, by rw [List.length_map]; exact hl, vs, _, rv, ha⟩
      · have z' := (if_neg hb).symm.trans z
        cases z'
    · by_cases hb : b = a
      · exact hb
      · exact absurd (if_neg hb) z
end L2
namespace L2
open PySem PySem.Spec PyProof.Rows
abbrev KOf {K : PySem.W.Frag} {h : Heap} (_ : K.In h) : PySem.W.Frag := K
theorem walk_of {l : PySem.W.OpenLaw} {n k : Nat} {q : Program} {loose : List Str} {XP : (Str → Option Value) → Heap → Prop} {YP : World → Heap → Prop} {d : DefRec} {K : Params → PySem.W.Frag} {CX : World → CXT} {sp : World → Sp} {x : Str}
    (hn : l.most = some n) (hn2 : n ≤ sizeLine) (hdf : d.params.defaults = []) (hr : Room k callerA)
    (hY : ∀ (w : World) (h : Heap), YP w h → (K w.params).In h)
    (F : ∀ (w : World) (mg : Str → Option Value) (fa : Addr) (h : Heap), (K w.params).In h → h.Ns mainGlobals mg → mg d.name = some (.ref fa) →
      ∃ fd : FuncData, (∀ (s : Shared) (u : Value), BindsTo s fd ⟨[u], []⟩ [(x, u)]) ∧
        ∀ base : Heap, (K w.params).In base → base.Ns mainGlobals mg → FnOk l.prog w (K w.params) mg base (CX w) k fa fd [x] (sp w))
    (hsp : ∀ (w : World) (H : Hp) (a : Addr) (ns : List Int), ns.length ≤ n → Only H → SqL (K w.params) H a (ns.map V.int) → sp w [.ref a] H (fun v _ => v = .bl true) fun _ _ _ => False)
    (hCX : ∀ (w : World) (H : Hp) (s : Shared) (e : Value) (s' : Shared), CX w [] H s (fun _ _ _ => False) e s' → False) :
    PySem.W.WalkO q loose XP YP l.row.toRowW d [] (fun f vs => PySem.call f vs) := by
  refine Att.attach_call hn hdf fun w s₀ s₁ mg mb fa o pm cd doc a vs ns G Y ho hd hcd hmg hobj hints hlen hg => ?_
  have KX := hY w _ Y
  obtain ⟨fd, hb, hF⟩ := F w mg fa _ KX G.T.g hmg
  exact law_call KX G.T.g G.T.b G.T.builtins G.T.nolimit hg hobj hints (Nat.le_trans hlen hn2) hr hF hb (fun H hO hS => hsp w H a ns hlen hO hS) fun H e s' => hCX w H s₁ e s'
end L2
/- THE LAST THEOREM (shape; LID, My.* are yours):
   My.Adr: a structure of the addresses that your layer names (classes, functions); My.Txt K t: a structure (Prop) of the equations over K;
   My.txt_mk : {K} {implicit addresses ..} (e1 : nsIn K mainGlobals "law" = some (some (.ref f))) (e2 : K.lookup f = some ⟨oc, od, .func (fnOf "law" "law" params body scope dV kV doc pm an cdv ct), sl⟩) (e3 : codeIn K cdv "law" = true) .. : ∃ t, My.Txt K t
set_option maxRecDepth 100000 in
set_option maxHeartbeats 0 in
theorem PySem.Challenge.cw_LID_holds : PySem.Challenge.rw_LID.Holds := by
  w_on; o_law; k_head; (case hw => w_witness2)
  k_fill
  refine L2.walk_of (l := PySem.Challenge.rw_LID) (n := 63) (k := 40) (x := "script") (CX := fun w => ..) (sp := fun _ => My.sp_law) rfl (by decide) rfl ⟨rfl, by decide, by decide⟩ (fun w h Y => PySem.W.kIn_of Y) ?F ?S ?C
  case F =>
    intro w mg fa h KX G hmg
    have T : ∃ t, My.Txt (L2.KOf KX) t := by
      dsimp only [L2.KOf]                          -- K must stand as «<heap const> w.params» for k_is
      refine' My.txt_mk ?e1 ?e2 ?e3 ..
      (case e1 => PySem.W.k_is)                    -- in the order: a name -> its address -> its object -> its parts
      (case e2 => PySem.W.k_is)
      ..
    obtain ⟨t, T⟩ := T
    have e0 := hmg.symm.trans (PySem.W.mg_of KX G T.law)
    cases e0                                       -- fa is the law's own address
    exact ⟨_, fun s u => .of_eq rfl, fun base kb nb => My.law_fn T kb nb⟩     -- if «.of_eq rfl» comes too early: refine' ⟨_, ?b, fun base kb nb => My.law_fn T kb nb⟩; exact fun s u => .of_eq rfl
  case S => exact fun w H a ns hl hO hS => ..
  case C => exact ..
(the tactic k_is has no namespace: write k_is) -/
namespace L2
open PySem PySem.Spec PyProof.Rows
def inClass (s : Stmt) (j : Nat) : Stmt := match s with
  | .ClassDef _ _ _ body _ _ _ _ _ _ _ => body.getD j (.Pass ⟨0, 0, 0, 0⟩)
  | _ => .Pass ⟨0, 0, 0, 0⟩
def defArgs (s : Stmt) : Arguments := match s with
  | .FunctionDef _ a _ _ _ _ _ _ _ _ => a
  | _ => { posonlyargs := [], args := [], vararg := none, kwonlyargs := [], kw_defaults := [], kwarg := none, defaults := [] }
def defBody (s : Stmt) : List Stmt := match s with
  | .FunctionDef _ _ b _ _ _ _ _ _ _ => b
  | _ => []
def defScope (s : Stmt) : Scope := match s with
  | .FunctionDef _ _ _ _ _ _ sc _ _ _ => sc
  | _ => { kind := .function, names := [], isGenerator := false, isCoroutine := false }
abbrev CX0 : CXT := fun _ _ _ _ _ _ => False
abbrev E0 : XK := fun _ _ _ => False
theorem pass0 {X : Cx} : Passes CX0 X E0 := fun _ _ _ _ _ _ _ h => h.elim
structure Fun (K : PySem.W.Frag) (x qual : Str) (st : Stmt) (f : Addr) (fd : FuncData) : Prop where
  ex : ∃ (oc : Value) (od : Option Addr) (kV doc pm : Value) (an : Option Addr) (cdv ct : Value) (osl : Array (Option Value)),
    fd = PySem.W.fnOf x qual (defArgs st) (defBody st) (defScope st) .none kV doc pm an cdv ct ∧ K.lookup f = some ⟨oc, od, .func fd, osl⟩ ∧ PySem.W.codeIn K cdv qual = true
  kp : PySem.W.keepIn K (.ref f) = true
section
variable {P : Program} {w : World} {K : PySem.W.Frag} {mg : Str → Option Value} {base : Heap}
theorem Fun.ok {x qual : Str} {st : Stmt} {f : Addr} {fd : FuncData} {N ps : List Str} {k : Nat} {sp : Sp} (F : Fun K x qual st f fd) (S : FnScope N ps (defScope st)) (len : ∀ vs H Q E, sp vs H Q E → vs.length = ps.length)
    (hbody : ∀ (cdv : Value) (A : Around) (outer : List Env) (s : Shared) (H : Hp) (vs : List V) (Q : VK) (E : XK), Room k (A.deeper (envOfC qual (defScope st) s.heap.objs.size f cdv)) → sp vs H Q E →
      ∃ t, PSs (cxOf CX0 P w K mg base N qual (defScope st) f cdv A outer s H E).nox (defBody st) t ∧ t { nx := fun _ H' => Q .non H', rt := Q } (start N vs) H) : FnOk P w K mg base CX0 (k + 1) f fd ps sp := by
  obtain ⟨oc, od, kV, doc, pm, an, cdv, ct, osl, rfl, lk, hcd⟩ := F.ex
  refine fn_of lk hcd S len fun A outer s H vs Q E hr hsp => ?_
  obtain ⟨t, h, q⟩ := hbody cdv A outer s H vs Q E hr hsp
  exact ⟨t, h.nox, q⟩
theorem Fun.binds {x qual : Str} {st : Stmt} {f : Addr} {fd : FuncData} {ps : List Str} (F : Fun K x qual st f fd)
    (h : ∀ (kV doc pm : Value) (an : Option Addr) (cdv ct : Value) (us : List Value), us.length = ps.length → bindArgs (PySem.W.fnOf x qual (defArgs st) (defBody st) (defScope st) .none kV doc pm an cdv ct) ⟨us, []⟩ = pure (ps.zip us)) : Binds K fd ps [] := by
  obtain ⟨oc, od, kV, doc, pm, an, cdv, ct, osl, rfl, lk, hcd⟩ := F.ex
  exact .all (h kV doc pm an cdv ct)
theorem fun_mk {x qual : Str} {st : Stmt} {f : Addr} {oc : Value} {od an : Option Addr} {osl : Array (Option Value)} {kV doc pm cdv ct : Value} (l : K.lookup f = some ⟨oc, od, .func (PySem.W.fnOf x qual (defArgs st) (defBody st) (defScope st) .none kV doc pm an cdv ct), osl⟩)
    (c : PySem.W.codeIn K cdv qual = true) (k : PySem.W.keepIn K (.ref f) = true) : Fun K x qual st f (PySem.W.fnOf x qual (defArgs st) (defBody st) (defScope st) .none kV doc pm an cdv ct) := ⟨⟨oc, od, kV, doc, pm, an, cdv, ct, osl, rfl, l, c⟩, k⟩
end
theorem small1000 {n : Nat} (h : n ≤ 1000) : n < sizeLine := Nat.lt_of_le_of_lt h (by decide)
section
variable {X : Cx}
theorem pv (i : Nat) {x : Str} {pos : Pos} (hN : X.N[i]? = some x := by rfl) (hv : Vis X.env.scope x := by first | exact Or.inl rfl | exact Or.inr (Or.inl rfl) | exact Or.inr (Or.inr rfl)) (hd : (x == ("__debug__" : Str)) = false := by decide)
    (hcd : (x == ("__classdict__" : Str)) = false := by decide) : PE X (.Name x pos) (tVar i) := pe_var hN hv hd hcd
theorem call_lenD : CallR X (.builtin "len") (fun xs H Q => ∃ a kvs, xs = [V.ref a] ∧ H a = some (.dK kvs) ∧ Q (.int kvs.length) H) := by
  intro pins s σ H xs us Q I r h
  obtain ⟨a, kvs, rfl, ha, q⟩ := h
  obtain ⟨u, rfl, ru⟩ := vals1 r
  cases ru
  exact d_len I (.inl ha) fun t s' I' => ⟨.int kvs.length, H, I', ⟨t, rfl⟩, q⟩
end
theorem iteT {A B : Prop} (h : A) : if true = true then A else B := by
  rw [if_pos rfl]
  exact h
theorem ite2 {c A B : Prop} [Decidable c] (h1 : c → A) (h2 : ¬ c → B) : if c then A else B := by
  by_cases h : c
  · rw [if_pos h]
    exact h1 h
  · rw [if_neg h]
    exact h2 h
def Same (H H' : Hp) : Prop := ∀ b o, H b = some o → H' b = some o
theorem Same.refl (H : Hp) : Same H H := fun _ _ h => h
theorem Same.trans {H H1 H2 : Hp} (a : Same H H1) (b : Same H1 H2) : Same H H2 := fun c o h => b c o (a c o h)
theorem Same.free {H H' : Hp} (e : Same H H') {l : Addr} (h : H' l = Option.none) : H l = Option.none := by
  cases q : H l with
  | none => rfl
  | some o =>
    rw [e l o q] at h
    cases h
theorem Same.seq {K : PySem.W.Frag} {H H' : Hp} {a : Addr} {xs : List V} (e : Same H H') (h : SqL K H a xs) : SqL K H' a xs := by
  rcases h with (h | ⟨o, h⟩) | h
  · exact .inl (.inl (e _ _ h))
  · exact .inl (.inr ⟨o, e _ _ h⟩)
  · exact .inr h
section
variable {κ : Type} [DecidableEq κ]
end
end L2
set_option maxHeartbeats 4000000
namespace L2
open PySem PySem.Spec PyProof.Rows
section
variable {prog : Program} {w : World} {A : Around} {R : Result → Shared → Prop} {s : Shared}
theorem compLoop_own {elt target iter : Expr} {ifs : List Expr} {scope : Scope} {pos : Pos} {it acc : Value} {env : Env} (I : Nat → Shared → Prop)
    (turn : ∀ n s, I n s → wpAny (model prog w) A (pyNext it) (fun r s1 => match r with
      | none => R (.ok .next) s1
      | some v => wpAny (model prog w) A (letOwnedTupleGo target it v) (fun _ s1' => wpAny (model prog w) A (assign target env v) (fun _ s2 =>
          wpAny (model prog w) A (forIn ifs true fun c r => if r = true then do let ok ← isTrue c env (eval c env); pure (ForInStep.yield ok) else pure (ForInStep.yield r)) (fun ok s3 =>
            if ok = true then wpAny (model prog w) A (eval elt env) (fun x s4 =>
              wpAny (model prog w) A (call (.builtin "list.append") [acc, x]) (fun _ s5 => ∃ m, m < n ∧ I m s5) (fun _ _ => False) s4) (fun _ _ => False) s3
            else ∃ m, m < n ∧ I m s3) (fun _ _ => False) s2) (fun _ _ => False) s1') (fun _ _ => False) s1) (fun _ _ => False) s)
    (n : Nat) (h : I n s) :
    codeAny (model prog w) A (.compLoop (.ListComp elt [⟨target, iter, ifs, 0⟩] scope pos) 0 it acc env) R s := by
  refine codeAny_loop rfl I (fun n s hI => ?_) n h
  show wpAny _ A ((compTurn (.ListComp elt [⟨target, iter, ifs, 0⟩] scope pos) 0 it acc env).onRaise (fun x => do noteFrame x env; theTreesLotGoes x)) _ _ s
  refine wpAny_noted ?_
  rw [compTurn_list]
  refine wpAny_bind (wpAny_standAt (wpAny_bind (wpAny_mono (turn n s hI) (fun r s1 h1 => ?_) fun _ _ h' => h'.elim)))
  cases r with
  | none => exact wpAny_pure h1
  | some v =>
    refine wpAny_bind (wpAny_mono h1 (fun _ s1' h1' => ?_) fun _ _ h' => h'.elim)
    refine wpAny_bind (wpAny_mono h1' (fun _ s2 h2 => wpAny_bind (wpAny_mono h2 (fun ok s3 h3 => ?_) fun _ _ h' => h'.elim)) fun _ _ h' => h'.elim)
    cases ok with
    | false => exact wpAny_pure ⟨rfl, h3⟩
    | true =>
      exact wpAny_bind (wpAny_bind (wpAny_mono h3 (fun x s4 h4 => wpAny_bind (wpAny_mono h4 (fun _ s5 h5 => wpAny_pure (wpAny_pure ⟨rfl, h5⟩)) fun _ _ h' => h'.elim)) fun _ _ h' => h'.elim))
end
def compCells (env : Env) : List (Str × NameKind) → List (Str × Addr) → List (Str × Addr)
  | [], acc => acc
  | (n, k) :: r, acc => compCells env r (if (k == .free) = true then (n, (env.cells.lookup n).getD 0) :: acc else acc)
theorem compCells_mem {env : Env} : ∀ {names : List (Str × NameKind)} {acc : List (Str × Addr)} {x : Str} {c : Addr}, (compCells env names acc).lookup x = some c →
    ((x, NameKind.free) ∈ names ∧ c = (env.cells.lookup x).getD 0) ∨ acc.lookup x = some c
  | [], _, _, _, h => .inr h
  | (n, k) :: r, acc, x, c, h => by
    unfold compCells at h
    rcases compCells_mem h with ⟨h1, h2⟩ | h1
    · exact .inl ⟨List.mem_cons_of_mem _ h1, h2⟩
    · by_cases hk : (k == NameKind.free) = true
      · rw [if_pos hk, List.lookup_cons] at h1
        cases hx : x == n with
        | true =>
          rw [hx] at h1
          have e : x = n := beq_iff_eq.mp hx
          have e2 : k = .free := beq_iff_eq.mp hk
          subst e e2
          exact .inl ⟨List.mem_cons_self, (Option.some.inj h1).symm⟩
        | false =>
          rw [hx] at h1
          exact .inr h1
      · rw [if_neg hk] at h1
        exact .inr h1
theorem compCells_acc {env : Env} : ∀ {names : List (Str × NameKind)} {acc : List (Str × Addr)} {x : Str}, (∃ c, acc.lookup x = some c) → ∃ c, (compCells env names acc).lookup x = some c
  | [], _, _, h => h
  | (n, k) :: r, acc, x, h => by
    unfold compCells
    apply compCells_acc
    by_cases hk : (k == NameKind.free) = true
    · rw [if_pos hk, List.lookup_cons]
      cases hx : x == n with
      | true => exact ⟨_, rfl⟩
      | false => exact h
    · rw [if_neg hk]
      exact h
theorem compCells_has {env : Env} : ∀ {names : List (Str × NameKind)} {acc : List (Str × Addr)} {x : Str}, (x, NameKind.free) ∈ names → ∃ c, (compCells env names acc).lookup x = some c
  | [], _, _, h => by cases h
  | (n, k) :: r, acc, x, h => by
    unfold compCells
    rcases List.mem_cons.mp h with e | e
    · cases e
      apply compCells_acc
      rw [show (NameKind.free == NameKind.free) = true from rfl, if_pos rfl, List.lookup_cons, beq_self_eq_true]
      exact ⟨_, rfl⟩
    · exact compCells_has e
theorem closureFor_eq {scope : Scope} {env : Env} (h : ∀ n, (n, NameKind.free) ∈ scope.names → ∃ c, env.cells.lookup n = some c) : closureFor scope env = pure (compCells env scope.names []) := by
  have key : ∀ (names : List (Str × NameKind)) (acc : List (Str × Addr)), (∀ n, (n, NameKind.free) ∈ names → ∃ c, env.cells.lookup n = some c) →
      (forIn names acc (fun (x : Str × NameKind) (r : List (Str × Addr)) => (if (x.2 == NameKind.free) = true then (cellOf env x.1 >>= fun c => pure (ForInStep.yield ((x.1, c) :: r))) else pure (ForInStep.yield r) : Sem (ForInStep (List (Str × Addr)))))) = (pure (compCells env names acc) : Sem (List (Str × Addr))) := by
    intro names
    induction names with
    | nil => intro acc _; rfl
    | cons x r ih =>
      intro acc hn
      obtain ⟨n, k⟩ := x
      rw [List.forIn_cons]
      unfold compCells
      by_cases hk : (k == NameKind.free) = true
      · have e2 : k = .free := beq_iff_eq.mp hk
        subst e2
        obtain ⟨c, hc⟩ := hn n List.mem_cons_self
        have e3 : cellOf env n = pure c := by unfold cellOf; rw [hc]
        simp only [hk, if_true, e3, hc, Option.getD_some]
        exact ih _ fun m hm => hn m (List.mem_cons_of_mem _ hm)
      · simp only [hk, if_false]
        exact ih _ fun m hm => hn m (List.mem_cons_of_mem _ hm)
  have e := key scope.names [] h
  unfold closureFor
  exact Eq.trans (congrArg (fun m => m >>= pure) e) rfl
@[reducible] def Cx.comp (X : Cx) (N : List Str) (scope : Scope) (C : Addr) (s0 : Shared) (H0 : Hp) (ex : List Addr) : Cx where
  prog := X.prog
  w := X.w
  K := X.K
  mg := X.mg
  base := X.base
  A := X.A
  N := N
  s₀ := s0
  H₀ := H0
  env := compEnvC scope (compCells X.env scope.names []) C X.env
  outer := X.stack
  stack := X.stack
  ex := ex
  fn := fun _ => false
  calm := X.calm
  pn := []
  xe := fun _ _ => False
structure CompOk (sc scope : Scope) : Prop where
  kind : scope.kind = .function
  nocell : ∀ y ∈ scope.names, y.2 ≠ .cell
  loc : ∀ y ∈ scope.names, y.2 = .local → scope.names.lookup y.1 = some .local
  free : ∀ y ∈ scope.names, y.2 = .free → sc.names.lookup y.1 = some .cell ∨ sc.names.lookup y.1 = some .free
  once : ∀ y ∈ scope.names, y.2 = .free → scope.names.lookup y.1 = some .free
def compB (sc scope : Scope) : Bool := decide (scope.kind = .function) && scope.names.all fun y => match y.2 with
  | .local => scope.names.lookup y.1 == some .local
  | .free => (sc.names.lookup y.1 == some .cell || sc.names.lookup y.1 == some .free) && scope.names.lookup y.1 == some .free
  | .cell => false
  | _ => true
theorem compB_ok {sc scope : Scope} (h : compB sc scope = true) : CompOk sc scope := by
  unfold compB at h
  rw [Bool.and_eq_true] at h
  have ha := List.all_eq_true.mp h.2
  refine ⟨of_decide_eq_true h.1, fun y hy e => ?_, fun y hy e => ?_, fun y hy e => ?_, fun y hy e => ?_⟩
  · have := ha y hy
    rw [e] at this
    cases this
  · have := ha y hy
    rw [e] at this
    exact beq_iff_eq.mp this
  · have := ha y hy
    rw [e, Bool.and_eq_true, Bool.or_eq_true] at this
    exact this.1.imp beq_iff_eq.mp beq_iff_eq.mp
  · have := ha y hy
    rw [e, Bool.and_eq_true] at this
    exact beq_iff_eq.mp this.2
def capB (nl : Nat) (ixs : List Nat) (N XN : List Str) (names : List (Str × NameKind)) : Bool := (List.range ixs.length).all fun k => match ixs[k]?, N[nl + k]? with
  | some j, some x => XN[j]? == some x && names.any fun y => y.1 == x && y.2 == .free
  | _, _ => true
theorem capB_ok {nl : Nat} {ixs : List Nat} {N XN : List Str} {names : List (Str × NameKind)} (h : capB nl ixs N XN names = true) (k j : Nat) (x : Str) (h1 : ixs[k]? = some j) (h2 : N[nl + k]? = some x) : XN[j]? = some x ∧ (x, NameKind.free) ∈ names := by
  have hk : k < ixs.length := (List.getElem?_eq_some_iff.mp h1).1
  have := List.all_eq_true.mp h k (List.mem_range.mpr hk)
  rw [h1, h2] at this
  simp only [Bool.and_eq_true] at this
  refine ⟨beq_iff_eq.mp this.1, ?_⟩
  obtain ⟨⟨n, kd⟩, hy, e⟩ := List.any_eq_true.mp this.2
  rw [Bool.and_eq_true] at e
  have e1 : n = x := beq_iff_eq.mp e.1
  have e2 : kd = .free := beq_iff_eq.mp e.2
  subst e1 e2
  exact hy
def capS (nl : Nat) (ixs : List Nat) (σ : St) : St := List.replicate nl none ++ ixs.map fun j => (σ[j]?).getD none
theorem capS_len (nl : Nat) (ixs : List Nat) (σ : St) : (capS nl ixs σ).length = nl + ixs.length := by
  unfold capS; rw [List.length_append, List.length_replicate, List.length_map]
theorem capS_get {nl : Nat} {ixs : List Nat} {σ : St} {i : Nat} {v : V} (h : (capS nl ixs σ)[i]? = some (some v)) : nl ≤ i ∧ ∃ j, ixs[i - nl]? = some j ∧ σ[j]? = some (some v) := by
  unfold capS at h
  by_cases hi : i < nl
  · rw [List.getElem?_append_left (by rw [List.length_replicate]; exact hi), List.getElem?_replicate] at h
    split at h <;> cases h
  · rw [List.getElem?_append_right (by rw [List.length_replicate]; omega), List.length_replicate, List.getElem?_map] at h
    refine ⟨by omega, ?_⟩
    cases e : ixs[i - nl]? with
    | none => rw [e] at h; cases h
    | some j =>
      rw [e] at h
      have h' : (σ[j]?).getD none = some v := Option.some.inj h
      cases q : σ[j]? with
      | none => rw [q] at h'; cases h'
      | some u =>
        rw [q] at h'
        exact ⟨j, rfl, by rw [q]; exact congrArg some h'⟩
def relF (env : Env) (y : Str × NameKind) : Str × NameKind := if (y.2 == NameKind.free && env.scope.kind == .function && env.kindOf y.1 == some .cell) = true then (y.1, NameKind.cell) else (y.1, y.2)
theorem relF_fst (env : Env) (y : Str × NameKind) : (relF env y).1 = y.1 := by unfold relF; split <;> rfl
theorem relF_snd (env : Env) (y : Str × NameKind) : (relF env y).2 = y.2 ∨ ((relF env y).2 = .cell ∧ y.2 = .free) := by
  unfold relF
  split
  · rename_i h
    rw [Bool.and_eq_true, Bool.and_eq_true] at h
    exact .inr ⟨rfl, beq_iff_eq.mp h.1.1⟩
  · exact .inl rfl
theorem relabel_find {env : Env} : ∀ {names : List (Str × NameKind)} {x : Str} {k : NameKind}, (names.map (relF env)).lookup x = some k → ∃ k0, names.lookup x = some k0 ∧ (x, k0) ∈ names ∧ (k = k0 ∨ (k = .cell ∧ k0 = .free))
  | [], _, _, h => by cases h
  | (n, k1) :: r, x, k, h => by
    rw [List.map_cons, show relF env (n, k1) = ((relF env (n, k1)).1, (relF env (n, k1)).2) from rfl, List.lookup_cons, relF_fst] at h
    rw [List.lookup_cons]
    cases hx : x == n with
    | true =>
      have e : x = n := beq_iff_eq.mp hx
      subst e
      have hx' : (x == (x, k1).1) = true := hx
      rw [hx'] at h
      have h' := Option.some.inj h
      refine ⟨k1, rfl, List.mem_cons_self, ?_⟩
      rcases relF_snd env (x, k1) with z | ⟨z1, z2⟩
      · exact .inl (h'.symm.trans z)
      · exact .inr ⟨h'.symm.trans z1, z2⟩
    | false =>
      have hx' : (x == (n, k1).1) = false := hx
      rw [hx'] at h
      obtain ⟨k0, e1, e2, e3⟩ := relabel_find h
      exact ⟨k0, e1, List.mem_cons_of_mem _ e2, e3⟩
section
variable {X : Cx} {pins : List (Addr × Obj)} {σ : St} {H : Hp} {s : Shared}
theorem comp_free_of {scope : Scope} {x : Str} (O : CompOk X.env.scope scope) {C : Addr} {cl : List (Str × Addr)} (h : (compEnvC scope cl C X.env).kindOf x = some .cell ∨ (compEnvC scope cl C X.env).kindOf x = some .free) : (x, NameKind.free) ∈ scope.names := by
  rcases h with h | h
  · obtain ⟨k0, _, hm, e | ⟨_, e⟩⟩ := relabel_find (env := X.env) (names := scope.names) h
    · exact absurd e.symm (O.nocell _ hm)
    · rw [e] at hm
      exact hm
  · obtain ⟨k0, _, hm, e | ⟨e, _⟩⟩ := relabel_find (env := X.env) (names := scope.names) h
    · rw [← e] at hm
      exact hm
    · cases e
theorem Inv.comp {N : List Str} {scope : Scope} {nl : Nat} {ixs : List Nat} {C D : Addr} {fp : List Addr} {ob : Obj} {h1 : Heap} {tk : Nat} (I : Inv X pins σ H s) (O : CompOk X.env.scope scope)
    (hN : N.length = nl + ixs.length) (hcap : ∀ (k j : Nat) (x : Str), ixs[k]? = some j → N[nl + k]? = some x → X.N[j]? = some x ∧ (x, NameKind.free) ∈ scope.names)
    (hf : ∀ b ∈ fp, FpOk X pins H b) (hfl : ∀ b ∈ fp, b < s.heap.objs.size) (hC : s.heap.objs.size ≤ C) (hD : s.heap.objs.size ≤ D) (hDC : D ≠ C) (hns : h1.Ns C fun _ => none) (k : ∀ b o, s.heap.get? b = some o → h1.get? b = some o)
    (hob : h1.get? D = some ob) (hcl : ∀ v, ob.data ≠ .cell v) : Inv (X.comp N scope C s H fp) [(D, ob)] (capS nl ixs σ) H { s with heap := h1, toks := tk } := by
  have cells : ∀ x c, (compCells X.env scope.names []).lookup x = some c → X.env.cells.lookup x = some c ∧ (x, NameKind.free) ∈ scope.names := fun x c h => by
    rcases compCells_mem h with ⟨h1, h2⟩ | h1
    · obtain ⟨c', hc'⟩ := I.ok.has x (by
        rcases O.free _ h1 rfl with z | z
        · exact .inl z
        · exact .inr z)
      rw [hc'] at h2
      exact ⟨by rw [hc', h2]; rfl, h1⟩
    · cases h1
  refine ⟨⟨I.ok.mod, O.kind, I.ok.glob, I.ok.blt, hC, fun x y c h1 h2 => I.ok.inj x y c (cells x c h1).1 (cells y c h2).1, fun x hx => compCells_has (comp_free_of O hx), fun x c z _ => (by cases z), I.ok.hd, I.ok.frames, .inl rfl,
      fun b hb => ⟨Nat.ne_of_lt (Nat.lt_of_lt_of_le (hfl b hb) hC), fun x c e => (hf b hb).2.2.2.2.1 x c (cells x c e).1⟩, I.bs, Nat.le_trans I.ok.bsz I.sz, fun b o e hb => ?_, fun b hb z => ?_, I.stack, I.stkFree⟩,
    rfl, I.bare, Un.kept k, ⟨_, hns, fun i x v e1 e2 e3 => ?_⟩, fun x c e => ?_, I.hok.fresh hC, fun x c e => I.freeC x c (cells x c e).1, fun p hp => ?_, I.hok.kept k, ?_⟩
  · rcases (hf b hb).2.2.2.1 with z | z
    · exact I.ok.noex b o e z
    · have := (I.ok.bs b o e).1
      exact absurd (Nat.lt_of_lt_of_le (Heap.lt_size this) z) (Nat.lt_irrefl _)
  · rcases List.mem_cons.mp (I.stkSub b z) with e | e
    · exact (hf b hb).2.1 e
    · exact (hf b hb).2.2.1 e
  · obtain ⟨hi, j, hj, hv⟩ := capS_get e2
    obtain ⟨hx, hfr⟩ := hcap (i - nl) j x hj (by rw [Nat.add_sub_cancel' hi]; exact e1)
    obtain ⟨m, hn, hl⟩ := I.loc
    have hk := O.free _ hfr rfl
    obtain ⟨u, ru, lk⟩ := hl j x v hx hv (by
      rcases hk with z | z
      · exact .inr (.inl z)
      · exact .inr (.inr z))
    refine ⟨u, ru, ?_⟩
    rcases lk with ⟨hk2, _⟩ | ⟨_, c, hc, hcell⟩
    · have hk2' : X.env.scope.names.lookup x = some .local := hk2
      rcases hk with z | z <;> · rw [z] at hk2'; cases hk2'
    · obtain ⟨c', hc'⟩ := compCells_has (env := X.env) (acc := []) hfr
      have e : c' = c := by
        have := (cells x c' hc').1
        rw [hc] at this
        exact (Option.some.inj this).symm
      subst e
      refine .inr ⟨?_, c', hc', ?_⟩
      · rcases e3 with z | z | z
        · obtain ⟨k0, z3, _, e | ⟨e, _⟩⟩ := relabel_find (env := X.env) (names := scope.names) z
          · rw [O.once _ hfr rfl] at z3
            cases z3
            cases e
          · cases e
        · exact .inl z
        · exact .inr z
      · obtain ⟨o, ho, hd⟩ := hcell
        exact ⟨o, k _ _ ho, hd⟩
  · obtain ⟨v, o, ho, hd⟩ := I.cell x c (cells x c e).1
    exact ⟨v, o, k _ _ ho, hd⟩
  · have e : p = (D, ob) := by simpa using hp
    subst e
    refine ⟨hob, I.hok.fresh hD, hDC, fun z => ?_, hcl⟩
    rcases List.mem_cons.mp (I.stkSub D z) with e | e
    · exact absurd (show X.env.locals < D from Nat.lt_of_lt_of_le I.lt hD) (by rw [e]; exact Nat.lt_irrefl _)
    · exact I.nofs hD e
  · show (capS nl ixs σ).length = N.length
    rw [capS_len, hN]
theorem Inv.compBack {N : List Str} {scope : Scope} {C D : Addr} {fp : List Addr} {its : List Value} {n : Nat} {s' : Shared} {H' : Hp} {σ' : St} {ys : List V} (I : Inv X pins σ H s) (hf : ∀ b ∈ fp, FpOk X pins H b) (hC : s.heap.objs.size ≤ C) (hD : s.heap.objs.size ≤ D)
    (J : Inv (X.comp N scope C s H fp) [(D, { cls := .type "list", data := .seq its.toArray n })] σ' H' s') (hv : Vals ys its) (hz : ys.length ≤ sizeLine) : Inv X pins σ (upd H' D (.lst ys)) s' := by
  obtain ⟨pD, nD, neD, _, _⟩ := J.pin (D, { cls := .type "list", data := .seq its.toArray n }) (List.mem_append_right _ (List.mem_singleton.mpr rfl))
  have ltD : ∀ b o, s.heap.get? b = some o → b ≠ D := fun b o e => Nat.ne_of_lt (Nat.lt_of_lt_of_le (Heap.lt_size e) hD)
  have J0 := J.base
  refine I.call' (ch := fp) J.os ⟨J0.keep, J0.slot, fun b o e n hx => ?_, J0.there, fun b xs e => ?_, fun b o u e => ?_, fun b ps e => ?_⟩ (fun b u e => ?_) J.bare fun b hb => ⟨(hf b hb).2.2.2.1, (hf b hb).2.1, (hf b hb).2.2.2.2.1, (hf b hb).2.2.2.2.2⟩
  · rw [upd_ne (ltD b o e)]
    exact J0.free b o e n hx
  · have q := J0.tups b xs e
    rw [upd_ne (ne_of_none q nD)]
    exact q
  · have q := J0.frzs b o u e
    rw [upd_ne (ne_of_none q nD)]
    exact q
  · obtain ⟨more, q⟩ := J0.tbls b ps e
    exact ⟨more, by rw [upd_ne (ne_of_none q nD)]; exact q⟩
  · by_cases hb : b = D
    · subst hb
      rw [upd_same] at e
      cases e
      exact ⟨hz, its, n, hv, pD⟩
    · rw [upd_ne hb] at e
      exact (J.hok b u e).stay (fun c v _ q => q) (fun c q => by rw [upd_ne (ne_of_none q nD)]; exact q) fun c xs q => by rw [upd_ne (ne_of_none q nD)]; exact q
end
def tYes : TT := fun _ H Q => Q true H
def tComp (wi : TI) (g : TG) (tc : TT) (te : TE) (nl : Nat) (ixs : List Nat) : TE := fun σ H Q => wi σ H fun J H1 =>
  ∃ W : Nat → Nat → List V → Hp → Prop, (∃ m, W 0 m [] H1) ∧ ∀ i m ys H, W i m ys H →
    (J.stop i H ∧ ys.length ≤ sizeLine ∧ ∀ p, H p = none → Q (.ref p) (upd H p (.lst ys))) ∨
    (J.go i H ∧ ∃ M : List V → Hp → Prop, (∀ ys' H', M ys' H' → ∃ m', m' < m ∧ W (i + 1) m' ys' H') ∧ ∀ x H', J.yld i H x H' → g x (capS nl ixs σ) H' fun σ2 H2 => tc σ2 H2 fun b H3 =>
      if b = true then te σ2 H3 fun v H4 => ys.length < sizeLine ∧ M (ys ++ [v]) H4 else M ys H3)
def GKeep (nl : Nat) (g : TG) : Prop := ∀ x σ H Q, g x σ H Q → g x σ H fun σ2 H2 => Q σ2 H2 ∧ σ2.length = σ.length ∧ ∀ i, nl ≤ i → σ2[i]? = σ[i]?
theorem gk_name {nl i : Nat} (h : i < nl := by decide) : GKeep nl (gName i) := fun x σ H Q q => ⟨q, List.length_set .., fun j hj => List.getElem?_set_ne (by omega)⟩
def PIfs (X : Cx) (ifs : List Expr) (tc : TT) : Prop :=
  ∀ (pins : List (Addr × Obj)) (s : Shared) (σ : St) (H : Hp) (Q : Bool → Hp → Prop), Inv X pins σ H s → tc σ H Q →
    wpAny (model X.prog X.w) X.A (forIn ifs true fun c r => if r = true then do let ok ← isTrue c X.env (eval c X.env); pure (ForInStep.yield ok) else pure (ForInStep.yield r)) (TP X pins σ Q) X.xe s
theorem pifs_nil {X : Cx} : PIfs X [] tYes := fun pins s σ H Q I h => wpAny_tests_nil ⟨H, I, h⟩
theorem pifs_one {X : Cx} {c : Expr} {tc : TT} (h : PT X c tc) : PIfs X [c] tc := fun pins s σ H Q I q => wpAny_tests_one (h pins s σ H Q I q)
section
variable {X : Cx} {pins : List (Addr × Obj)} {σ : St} {H : Hp} {s : Shared}
theorem comp_block {N : List Str} {scope : Scope} {nl : Nat} {ixs : List Nat} {fp : List Addr} {it : Addr} {tn : Nat → Heap → Prop} {J : It} {tg elt iter : Expr} {ifs : List Expr} {pos : Pos} {g : TG} {tc : TT} {te : TE} {Q : V → Hp → Prop} {E : Value → Shared → Prop}
    {RR : Value → Addr → Result → Shared → Prop} (I : Inv X pins σ H s) (hc : X.calm = true) (O : CompOk X.env.scope scope)
    (hN : N.length = nl + ixs.length) (hcap : ∀ (k j : Nat) (x : Str), ixs[k]? = some j → N[nl + k]? = some x → X.N[j]? = some x ∧ (x, NameKind.free) ∈ scope.names)
    (T : Turn X.prog X.w X.K tg J fp it tn) (st : tn 0 s.heap) (hf : ∀ b ∈ fp, FpOk X pins H b)
    (hg : ∀ C s0 H0 ex, PG (X.comp N scope C s0 H0 ex) tg g) (gk : GKeep nl g) (hi : ∀ C s0 H0 ex, PIfs (X.comp N scope C s0 H0 ex) ifs tc) (he : ∀ C s0 H0 ex, PE (X.comp N scope C s0 H0 ex) elt te)
    (h : ∃ W : Nat → Nat → List V → Hp → Prop, (∃ m, W 0 m [] H) ∧ ∀ i m ys H, W i m ys H →
      (J.stop i H ∧ ys.length ≤ sizeLine ∧ ∀ p, H p = none → Q (.ref p) (upd H p (.lst ys))) ∨
      (J.go i H ∧ ∃ M : List V → Hp → Prop, (∀ ys' H', M ys' H' → ∃ m', m' < m ∧ W (i + 1) m' ys' H') ∧ ∀ x H', J.yld i H x H' → g x (capS nl ixs σ) H' fun σ2 H2 => tc σ2 H2 fun b H3 =>
        if b = true then te σ2 H3 fun v H4 => ys.length < sizeLine ∧ M (ys ++ [v]) H4 else M ys H3))
    (hRR : ∀ (D C : Addr) (s' : Shared) (H' : Hp) (σ' : St) (ys : List V) (its : List Value) (n : Nat), s.heap.objs.size ≤ C → s.heap.objs.size ≤ D → Inv (X.comp N scope C s H fp) [(D, { cls := .type "list", data := .seq its.toArray n })] σ' H' s' → Vals ys its → ys.length ≤ sizeLine →
      (∀ p, H' p = none → Q (.ref p) (upd H' p (.lst ys))) → RR (.ref D) C (.ok .next) s') :
    wpAny (model X.prog X.w) X.A (newList []) (fun acc s3 => wpAny (model X.prog X.w) X.A (newFunctionEnv scope X.env.globals (compCells X.env scope.names []) [] X.env.qual none .none (some X.env)) (fun cenv s4 =>
      codeAny (model X.prog X.w) X.A (.compStart (.ListComp elt [⟨tg, iter, ifs, 0⟩] scope pos) 0 (.ref it) acc { cenv with scope := relabel scope X.env }) (RR acc cenv.locals) s4) E s3) E s := by
  obtain ⟨W, ⟨m0, w0⟩, turn⟩ := h
  refine wpAny_newObj_type (wpAny_newFunctionEnv O.nocell (by intro y hy; simp at hy) (fun h1 hns1 hsb1 => ?_) O.kind)
  dsimp only at hns1 hsb1 ⊢
  generalize hH2 : s.heap.push { cls := .type "list", dict := none, data := .seq ([] : List Value).toArray } = H2 at hns1 hsb1 ⊢
  have hC : H2.objs.size = s.heap.objs.size + 1 := by rw [← hH2, Heap.size_push]
  have hDC : s.heap.objs.size ≠ H2.objs.size := by rw [hC]; exact Nat.ne_of_lt (Nat.lt_succ_self _)
  have hCle : s.heap.objs.size ≤ H2.objs.size := by rw [hC]; exact Nat.le_succ _
  have below : ∀ b, b < s.heap.objs.size → b ≠ H2.objs.size ∧ b ≠ s.heap.objs.size := fun b hb => ⟨by rw [hC]; exact Nat.ne_of_lt (Nat.lt_succ_of_lt hb), Nat.ne_of_lt hb⟩
  have old : ∀ b o, s.heap.get? b = some o → h1.get? b = some o := fun b o e => hsb1.extBut b o (below b (Heap.lt_size e)).1 (Heap.get?_push_of_some _ (hH2 ▸ Heap.get?_push_of_some _ e))
  have hacc : h1.get? s.heap.objs.size = some { cls := .type "list", data := .seq ([] : List Value).toArray } := hsb1.extBut _ _ hDC (Heap.get?_push_of_some _ (hH2 ▸ Heap.get?_push_size _ rfl))
  have hfl : ∀ b ∈ fp, b < s.heap.objs.size := fun b hb => by
    obtain ⟨o, ho, _⟩ := T.obj 0 _ st b hb
    exact Heap.lt_size ho
  have loop : ∀ s3 : Shared, s3 = { s with heap := h1, toks := s.toks + ([] : List (Str × Value)).length } →
      codeAny (model X.prog X.w) X.A (.compLoop (.ListComp elt [⟨tg, iter, ifs, 0⟩] scope pos) 0 (.ref it) (.ref s.heap.objs.size) (compEnvC scope (compCells X.env scope.names []) H2.objs.size X.env)) (RR (.ref s.heap.objs.size) H2.objs.size) s3 := by
    rintro s3 rfl
    have I0 := I.comp (N := N) (C := H2.objs.size) (D := s.heap.objs.size) (h1 := h1) (tk := s.toks + ([] : List (Str × Value)).length) O hN hcap hf hfl hCle (Nat.le_refl _) hDC hns1 old hacc (fun v z => by cases z)
    have stat : ∀ {H' : Hp} {σ' : St} {s' : Shared} {pl : List (Addr × Obj)}, Inv (X.comp N scope H2.objs.size s H fp) pl σ' H' s' → (∀ p ∈ pl, p.1 = s.heap.objs.size) → (∀ b ∈ fp, H' b = none) → ∀ b ∈ fp, FpOk (X.comp N scope H2.objs.size s H fp) pl H' b := fun {H' σ' s' pl} J hpl hn b hb =>
      ⟨hn b hb, (below b (hfl b hb)).1, fun z => (by
          rcases List.mem_cons.mp (I.stkSub b z) with e | e
          · exact (hf b hb).2.1 e
          · exact (hf b hb).2.2.1 e), .inl hb, J.ok.exf b hb |>.2, fun p hp z => by
        have e := hpl p (by simpa using hp)
        rw [e] at z
        exact (below b (hfl b hb)).2 z.symm⟩
    refine compLoop_own (fun k s' => ∃ i H' ys its n, Inv (X.comp N scope H2.objs.size s H fp) [(s.heap.objs.size, { cls := .type "list", data := .seq its.toArray n })] (capS nl ixs σ) H' s' ∧ tn i s'.heap ∧ (∀ b ∈ fp, H' b = none) ∧ Vals ys its ∧ W i k ys H') ?_ m0
      ⟨0, H, [], [], 0, I0, T.keep _ _ _ st fun b _ o e => old b o e, fun b hb => (hf b hb).1, .nil, w0⟩
    rintro k s' ⟨i, H', ys, its, n, J1, st1, fr1, v1, w1⟩
    have one : ∀ p ∈ [((s.heap.objs.size, { cls := .type "list", data := .seq its.toArray n }) : Addr × Obj)], p.1 = s.heap.objs.size := fun p hp => by
      have e : p = _ := List.mem_singleton.mp hp
      rw [e]
    rcases turn i k ys H' w1 with ⟨stop, hz, q⟩ | ⟨go, M, hM, step⟩
    · refine thn (T.done (X.comp N scope H2.objs.size s H fp) rfl rfl rfl hc i _ s' _ H' _ J1 (stat J1 one fr1) st1 stop) fun r s4 ⟨hr, J4⟩ => ?_
      subst hr
      exact hRR _ _ s4 H' _ ys its n hCle (Nat.le_refl _) J4 v1 hz q
    · refine thn (T.item (X.comp N scope H2.objs.size s H fp) rfl rfl rfl hc i _ s' _ H' _ J1 (stat J1 one fr1) st1 go) fun r s4 ⟨u, hr, h4⟩ => ?_
      subst hr
      refine thn h4 fun _ s5 ⟨x, H5, J5, r5, y5, st5, fr5⟩ => ?_
      have J5' := J5.pinned (stat J5 one fr5) (T.obj _ _ st5)
      refine thn (hg _ _ _ _ _ s5 _ H5 x u _ J5' r5 (gk _ _ _ _ (step x H5 y5))) fun _ s6 ⟨σ6, H6, J6, q6, l6, k6⟩ => ?_
      refine thn (hi _ _ _ _ _ s6 σ6 H6 _ J6 q6) fun ok s7 ⟨H7, J7, q7⟩ => ?_
      have again : ∀ {s8 : Shared} {H8 : Hp} {ys' : List V} {k' : Nat}, Inv (X.comp N scope H2.objs.size s H fp) ([((s.heap.objs.size, { cls := .type "list", data := .seq its.toArray n }) : Addr × Obj)] ++ pinsAt fp s5.heap) σ6 H8 s8 →
          (∀ b o, b ≠ s.heap.objs.size → s8.heap.get? b = some o → s8.heap.get? b = some o) → tn (i + 1) s8.heap ∧ ∀ b ∈ fp, H8 b = none := fun {s8 H8 ys' k'} J8 _ => by
        refine ⟨T.keep _ _ _ st5 fun b hb o e => (J8.pin (b, o) (List.mem_append_right _ (List.mem_append_right _ (mem_pinsAt hb e)))).1, fun b hb => ?_⟩
        obtain ⟨o, e, d⟩ := T.obj _ _ st5 b hb
        exact (J8.pin (b, o) (List.mem_append_right _ (List.mem_append_right _ (mem_pinsAt hb e)))).2.1
      have wk : ∀ (j : Nat) v, (capS nl ixs σ)[j]? = some (some v) → σ6[j]? = some (some v) := fun j v e => by
        obtain ⟨hj, _⟩ := capS_get e
        rw [k6 j hj]
        exact e
      cases ok with
      | false =>
        rw [if_neg Bool.false_ne_true] at q7 ⊢
        obtain ⟨m', hm, w7⟩ := hM _ _ q7
        obtain ⟨st7, fr7⟩ := again (ys' := ys) (k' := 0) J7 (fun _ _ _ e => e)
        exact ⟨m', hm, i + 1, H7, ys, its, n, J7.unpinned.weak l6.symm wk, st7, fr7, v1, w7⟩
      | true =>
        rw [if_pos rfl] at q7 ⊢
        refine thn (he _ _ _ _ _ s7 σ6 H7 _ J7 q7) fun y s8 ⟨v, H8, J8, r8, hlt, mq⟩ => ?_
        obtain ⟨m', hm, w8⟩ := hM _ _ mq
        obtain ⟨st8, fr8⟩ := again (ys' := ys) (k' := 0) J8 (fun _ _ _ e => e)
        have J9 := J8.unpinned
        obtain ⟨pD, nD, neD, nfD, _⟩ := J9.pin (s.heap.objs.size, { cls := .type "list", data := .seq its.toArray n }) (List.mem_append_right _ (List.mem_singleton.mpr rfl))
        refine wpAny_list_append_plain (hsz := by rw [List.size_toArray, ← v1.length]; omega) ⟨n, pD⟩ fun h9 hl9 hs9 => ?_
        obtain ⟨n9, hl9⟩ := hl9
        have e9 : (its.toArray.push y) = (its ++ [y]).toArray := by simp
        rw [e9] at hl9
        have Ja : Inv (X.comp N scope H2.objs.size s H fp) [] (capS nl ixs σ) H8 { s8 with heap := h9, toks := s8.toks } :=
          ((J9.pins_of (pins' := []) fun p hp => absurd hp (by simp)).turned (it := s.heap.objs.size) (h' := h9) (t' := s8.toks) (fun b o hb e => (hs9.2 b hb).trans e) nD neD (.inr (Nat.le_refl _))
            (fun x c e z => by
              obtain ⟨c0, o0, h0, _⟩ := I0.cell x c e
              have := compCells_mem e
              rcases this with ⟨hfr, hcc⟩ | hcc
              · obtain ⟨c', hc'⟩ := I.ok.has x (by
                  rcases O.free _ hfr rfl with q | q
                  · exact .inl q
                  · exact .inr q)
                rw [hc'] at hcc
                have hcc' : c = c' := hcc
                obtain ⟨_, q⟩ := I.cell x c' hc'
                rw [← hcc', z] at q
                exact absurd q.lt (Nat.lt_irrefl _)
              · cases hcc) (fun p hp => absurd hp (by simp))).weak l6.symm wk
        refine ⟨m', hm, i + 1, H8, ys ++ [v], its ++ [y], n9, Ja.pins_of fun p hp => ?_, ?_, fr8, v1.append (.cons r8 .nil), w8⟩
        · have e : p = _ := List.mem_singleton.mp hp
          subst e
          exact ⟨hl9, nD, neD, nfD, fun v z => by cases z⟩
        · exact T.keep _ _ _ st8 fun b hb o e => (hs9.2 b (below b (hfl b hb)).2).trans e
  exact codeAny_compStart_list (loop _ rfl) (T.self _ 0 _ _ _ (T.keep _ _ _ st fun b _ o e => old b o e) (loop _ rfl))
end
section
variable {X : Cx} {tg elt iter : Expr} {ifs : List Expr} {scope : Scope} {pos : Pos} {N : List Str} {nl : Nat} {ixs : List Nat} {wi : TI} {g : TG} {tc : TT} {te : TE}
theorem pe_comp {sc : Scope} {XN : List Str} (N : List Str) (nl : Nat) (ixs : List Nat) (hsc : X.env.scope = sc) (hXN : X.N = XN) (hc : X.calm = true) (O' : compB sc scope = true) (hN : N.length = nl + ixs.length) (hcap' : capB nl ixs N XN scope.names = true)
    (hi : PI X tg iter wi) (hg : ∀ C s0 H0 ex, PG (X.comp N scope C s0 H0 ex) tg g) (gk : GKeep nl g) (ht : ∀ C s0 H0 ex, PIfs (X.comp N scope C s0 H0 ex) ifs tc) (he : ∀ C s0 H0 ex, PE (X.comp N scope C s0 H0 ex) elt te)
    (hs : ∀ x, foldedSetIterable iter X.env x = pure x := by intro _; rfl) : PE X (.ListComp elt [⟨tg, iter, ifs, 0⟩] scope pos) (tComp wi g tc te nl ixs) := by
  intro pins s σ H Q I h
  subst hsc hXN
  have O := compB_ok O'
  have hcap := capB_ok hcap'
  rw [eval_ListComp]
  have hcl := closureFor_eq (scope := scope) (env := X.env) fun n hn => I.ok.has n (by
    rcases O.free _ hn rfl with z | z
    · exact .inl z
    · exact .inr z)
  refine wpAny_comprehension_free (use := none) rfl hs hcl O.kind O.loc (thn (hi pins s σ H _ I h) fun v s1 h1 => thn h1 fun itv s2 h2 => ?_)
  obtain ⟨it, fp, tn, J, H2, e, I2, T, st2, f2, hW⟩ := h2
  subst e
  refine comp_block (Q := Q) (RR := fun acc C => compPost (model X.prog X.w) X.A X.xe none (EP X pins σ Q) acc C) I2 hc O hN hcap T st2 f2 hg gk ht he hW ?_
  intro D C s' H' σ' ys its n hC hD J' hv hz q
  obtain ⟨m, hn, _⟩ := id J'.loc
  have B := I2.compBack f2 hC hD J' hv hz
  obtain ⟨_, nD, neD, _, _⟩ := J'.pin (D, { cls := .type "list", data := .seq its.toArray n }) (List.mem_append_right _ (List.mem_singleton.mpr rfl))
  refine ⟨m, hn, fun h' sb => ⟨.ref D, _, ?_, rfl, q D nD⟩⟩
  refine B.turned (it := C) (h' := h') (t' := s'.toks) (fun b o hb e => (sb.2 b hb).trans e) ((upd_ne (H := H') (a := D) (b := C) (o := .lst ys) (Ne.symm neD)).trans J'.free) (Nat.ne_of_gt (Nat.lt_of_lt_of_le I2.lt hC)) (.inr (Nat.le_trans I2.sz hC)) (fun x c e z => ?_) (fun p hp z => ?_)
  · obtain ⟨_, q⟩ := I2.cell x c e
    exact absurd (Nat.lt_of_lt_of_le q.lt (by rw [z]; exact hC)) (Nat.lt_irrefl _)
  · exact absurd (Nat.lt_of_lt_of_le (Heap.lt_size (I2.pin p hp).1) (by rw [z]; exact hC)) (Nat.lt_irrefl _)
end
end L2
namespace L2
open PySem PySem.Spec PyProof.Rows
def Its (x : Str) : It := ⟨fun i _ => i < x.cps.size, fun i H v H' => H' = H ∧ ∃ c, x.cps[i]? = some c ∧ v = .str ⟨#[c]⟩, fun i _ => i = x.cps.size⟩
theorem turn_str {P : Program} {w : World} {K : PySem.W.Frag} {tg : Expr} {it : Addr} {x : Str} {t : Tok} {T : String} (W : ∀ A : Around, A.handled = none → Walks P w A it [it] [it] x.cps.size (SignAt x) fun i h => h.IsStrIter it T x t i)
    (sf : ∀ (A : Around) (i : Nat) (s : Shared) (Q : Value → Shared → Prop) (E : Value → Shared → Prop), s.heap.IsStrIter it T x t i → Q (.ref it) s → wpAny (model P w) A (pyIter (.ref it)) Q E s)
    (htg : ∀ v, letOwnedTupleGo tg (.ref it) v = pure ()) : Turn P w K tg (Its x) [it] it (fun i h => h.IsStrIter it T x t i) where
  mem := by simp
  obj := fun i h st b hb => by
    have e : b = it := by simpa using hb
    subst e
    obtain ⟨o, e, c, d⟩ := st
    exact ⟨o, e, fun v z => by rw [d] at z; cases z⟩
  keep := fun i h h' st k => by
    obtain ⟨o, e, r⟩ := st
    exact ⟨o, k it (by simp) o e, r⟩
  item := by
    intro X hP hw hK hc i pins s σ H E I hf st hg
    subst hP hw hK
    obtain ⟨f0, f1, f2, f3, f4, f5⟩ := hf it (by simp)
    refine (W X.A (I.ok.hd hc)).item i s _ _ hg st fun v h' tk hv st' kk => ?_
    obtain ⟨c, u, hcx, rfl⟩ := hv
    have I1 : Inv X pins σ H { s with heap := h', toks := tk } := I.turned (fun b o hb e => kk b o (by simpa using hb) e) f0 f1 f3 f4 f5
    refine ⟨_, rfl, wpAny_of_eq (htg _) ⟨.str ⟨#[c]⟩, H, I1, ⟨u, rfl⟩, ⟨rfl, c, hcx, rfl⟩, st', fun b hb => (hf b hb).1⟩⟩
  done := by
    intro X hP hw hK hc i pins s σ H E I hf st hg
    subst hP hw hK
    obtain ⟨f0, f1, f2, f3, f4, f5⟩ := hf it (by simp)
    have e : i = x.cps.size := hg
    subst e
    exact (W X.A (I.ok.hd hc)).done s _ _ st fun h' tk kk => ⟨rfl, I.turned (fun b o hb e => kk b o (by simpa using hb) e) f0 f1 f3 f4 f5⟩
  self := sf
section
variable {X : Cx} {tg : Expr}
end
section
variable {K : PySem.W.Frag} {a : Addr} {xs : List V} {g : TG} {tc : TT} {te : TE} {σ' : St} {H1 : Hp} {Q : V → Hp → Prop}
def CompW (J : It) (g : TG) (tc : TT) (te : TE) (σ' : St) (H1 : Hp) (Q : V → Hp → Prop) : Prop :=
  ∃ W : Nat → Nat → List V → Hp → Prop, (∃ m, W 0 m [] H1) ∧ ∀ i m ys H, W i m ys H →
      (J.stop i H ∧ ys.length ≤ sizeLine ∧ ∀ p, H p = none → Q (.ref p) (upd H p (.lst ys))) ∨
      (J.go i H ∧ ∃ M : List V → Hp → Prop, (∀ ys' H', M ys' H' → ∃ m', m' < m ∧ W (i + 1) m' ys' H') ∧ ∀ x H', J.yld i H x H' → g x σ' H' fun σ2 H2 => tc σ2 H2 fun b H3 =>
        if b = true then te σ2 H3 fun v H4 => ys.length < sizeLine ∧ M (ys ++ [v]) H4 else M ys H3)
theorem comp_list (Pv : Nat → List V → Hp → Prop) (h0 : Pv 0 [] H1) (hl : ∀ i ys H, i ≤ xs.length → Pv i ys H → SqL K H a xs)
    (hs : ∀ i x ys H, xs[i]? = some x → Pv i ys H → g x σ' H fun σ2 H2 => tc σ2 H2 fun b H3 => if b = true then te σ2 H3 fun v H4 => ys.length < sizeLine ∧ Pv (i + 1) (ys ++ [v]) H4 else Pv (i + 1) ys H3)
    (hd : ∀ ys H, Pv xs.length ys H → ys.length ≤ sizeLine ∧ ∀ p, H p = none → Q (.ref p) (upd H p (.lst ys))) : CompW (Itl K a) g tc te σ' H1 Q := by
  refine ⟨fun i m ys H => m = xs.length - i ∧ i ≤ xs.length ∧ Pv i ys H, ⟨xs.length, by simp, Nat.zero_le _, h0⟩, ?_⟩
  rintro i m ys H ⟨rfl, hi, p⟩
  have q := hl i ys H hi p
  by_cases hlt : i < xs.length
  · refine .inr ⟨⟨xs, xs[i], q, by simp [hlt]⟩, Pv (i + 1), fun ys' H' p' => ⟨xs.length - (i + 1), by omega, rfl, hlt, p'⟩, fun x H' y => ?_⟩
    obtain ⟨e, y⟩ := y
    subst e
    exact hs i x ys _ (y xs q) p
  · have e : i = xs.length := by omega
    subst e
    exact .inl ⟨⟨xs, q, Nat.le_refl _⟩, hd ys H p⟩
theorem comp_range {lo : Int} {n : Nat} (Pv : Nat → List V → Hp → Prop) (h0 : Pv 0 [] H1)
    (hs : ∀ i ys H, i < n → Pv i ys H → g (.int (lo + i)) σ' H fun σ2 H2 => tc σ2 H2 fun b H3 => if b = true then te σ2 H3 fun v H4 => ys.length < sizeLine ∧ Pv (i + 1) (ys ++ [v]) H4 else Pv (i + 1) ys H3)
    (hd : ∀ ys H, Pv n ys H → ys.length ≤ sizeLine ∧ ∀ p, H p = none → Q (.ref p) (upd H p (.lst ys))) : CompW (Itr lo n) g tc te σ' H1 Q := by
  refine ⟨fun i m ys H => m = n - i ∧ i ≤ n ∧ Pv i ys H, ⟨n, by simp, Nat.zero_le _, h0⟩, ?_⟩
  rintro i m ys H ⟨rfl, hi, p⟩
  by_cases hlt : i < n
  · refine .inr ⟨hlt, Pv (i + 1), fun ys' H' p' => ⟨n - (i + 1), by omega, rfl, hlt, p'⟩, fun x H' y => ?_⟩
    obtain ⟨e, y⟩ := y
    subst e y
    exact hs i ys _ hlt p
  · have e : i = n := by omega
    subst e
    exact .inl ⟨Nat.le_refl _, hd ys H p⟩
theorem comp_str {x : Str} (Pv : Nat → List V → Hp → Prop) (h0 : Pv 0 [] H1)
    (hs : ∀ i c ys H, x.cps[i]? = some c → Pv i ys H → g (.str ⟨#[c]⟩) σ' H fun σ2 H2 => tc σ2 H2 fun b H3 => if b = true then te σ2 H3 fun v H4 => ys.length < sizeLine ∧ Pv (i + 1) (ys ++ [v]) H4 else Pv (i + 1) ys H3)
    (hd : ∀ ys H, Pv x.cps.size ys H → ys.length ≤ sizeLine ∧ ∀ p, H p = none → Q (.ref p) (upd H p (.lst ys))) : CompW (Its x) g tc te σ' H1 Q := by
  refine ⟨fun i m ys H => m = x.cps.size - i ∧ i ≤ x.cps.size ∧ Pv i ys H, ⟨x.cps.size, by simp, Nat.zero_le _, h0⟩, ?_⟩
  rintro i m ys H ⟨rfl, hi, p⟩
  by_cases hlt : i < x.cps.size
  · refine .inr ⟨hlt, Pv (i + 1), fun ys' H' p' => ⟨x.cps.size - (i + 1), by omega, rfl, hlt, p'⟩, fun v H' y => ?_⟩
    obtain ⟨e, c, hc, y⟩ := y
    subst e y
    exact hs i c ys _ hc p
  · have e : i = x.cps.size := by omega
    subst e
    exact .inl ⟨rfl, hd ys H p⟩
end
def clsVal : V → Option Value
  | .ty n => some (.type n)
  | .ref a => some (.ref a)
  | _ => none
theorem clsVal_rel {y : V} {c u : Value} (h : clsVal y = some c) (r : RelV y u) : u = c := by
  cases y with
  | ty n => cases h; exact r
  | ref a => cases h; exact r
  | _ => cases h
section
variable {X : Cx} {pins : List (Addr × Obj)} {σ : St} {H : Hp} {s : Shared}
theorem TyOf.kit {x : V} {u t : Value} (I : Inv X pins σ H s) (rx : RelV x u) (ty : TyOf X.K H x t) : ∃ P : Heap → Prop, PySem.W.KitX X.K u t P ∧ P s.heap ∧ u ≠ .builtin "__main__.__loader__#opaque" := by
  cases ty with
  | non => cases (show u = Value.none from rx); exact ⟨_, PySem.W.kitx_none, True.intro, (fun z => nomatch z)⟩
  | bl y => cases (show u = Value.bool y from rx); exact ⟨_, PySem.W.kitx_bool, True.intro, (fun z => nomatch z)⟩
  | int i => obtain ⟨t, q⟩ := (show ∃ t, u = Value.int i t from rx); cases q; exact ⟨_, PySem.W.kitx_int, True.intro, (fun z => nomatch z)⟩
  | str y => obtain ⟨t, q⟩ := (show ∃ t, u = Value.str y t from rx); cases q; exact ⟨_, PySem.W.kitx_str, True.intro, (fun z => nomatch z)⟩
  | flt y => obtain ⟨t, q⟩ := (show ∃ t, u = Value.float y t from rx); cases q; exact ⟨_, PySem.W.kitx_float, True.intro, (fun z => nomatch z)⟩
  | @lst a xs ea =>
    cases (show u = Value.ref a from rx)
    obtain ⟨_, _, n, _, h1⟩ := (show ObjOk X.prog X.w H s.heap a (.lst xs) from I.hok a _ ea)
    exact ⟨_, PySem.W.kitx_list, ⟨_, h1, rfl⟩, (fun z => nomatch z)⟩
  | @frz a ob xs ea =>
    cases (show u = Value.ref a from rx)
    obtain ⟨_, _, _, n, _, h1⟩ := (show ObjOk X.prog X.w H s.heap a (.frz ob (.lst xs)) from I.hok a _ ea)
    exact ⟨_, PySem.W.kitx_list, ⟨_, h1, rfl⟩, (fun z => nomatch z)⟩
  | @tup a xs ea =>
    cases (show u = Value.ref a from rx)
    obtain ⟨_, _, _, p⟩ := (show ObjOk X.prog X.w H s.heap a (.tup xs) from I.hok a _ ea)
    obtain ⟨o, h1, h2, _⟩ := p
    exact ⟨_, PySem.W.kitx_tuple, ⟨o, h1, h2⟩, (fun z => nomatch z)⟩
  | @dK a kvs ea =>
    cases (show u = Value.ref a from rx)
    obtain ⟨_, _, vs, _, p⟩ := (show ObjOk X.prog X.w H s.heap a (.dK kvs) from I.hok a _ ea)
    obtain ⟨o, es, ep, h1, h2, _⟩ := p
    exact ⟨_, PySem.W.kitx_dict, ⟨o, h1, h2.1⟩, (fun z => nomatch z)⟩
  | @dT a kvs ea =>
    cases (show u = Value.ref a from rx)
    obtain ⟨_, _, xs, _, o, es, ep, h1, h2, _⟩ := (show ObjOk X.prog X.w H s.heap a (.dT kvs) from I.hok a _ ea)
    exact ⟨_, PySem.W.kitx_dict, ⟨o, h1, h2.1⟩, (fun z => nomatch z)⟩
  | @ins a C dx fs ea cl ha hn htk hm =>
    cases (show u = Value.ref a from rx)
    obtain ⟨mA, O, _⟩ := ins_get I.hok ea
    obtain ⟨od, J, _⟩ := O.look
    exact ⟨_, PySem.W.kitx_own (cl.get _) cl.hd ha hn htk hm, J, (fun z => nomatch z)⟩
end
section
variable {X : Cx}
theorem clsVals_rel : ∀ {ys : List V} {cs us : List Value}, ys.map clsVal = cs.map some → Vals ys us → us = cs
  | [], [], _, _, .nil => rfl
  | [], _ :: _, _, h, _ => by cases h
  | y :: ys, [], _, h, _ => by cases h
  | y :: ys, c :: cs, _, h, .cons r t => by
    rw [List.map_cons, List.map_cons] at h
    injection h with h1 h2
    rw [clsVal_rel h1 r, clsVals_rel h2 t]
theorem bools_of : ∀ {bs : List Bool} {us : List Value}, Vals (bs.map V.bl) us → us = bs.map Value.bool
  | [], _, .nil => rfl
  | b :: bs, _, .cons r t => by
    have e := bools_of t
    rw [e]
    cases r
    rfl
def rAll (K : PySem.W.Frag) : List V → Hp → VK → Prop := fun xs H Q => ∃ (p : Addr) (bs : List Bool), xs = [.ref p] ∧ SqL K H p (bs.map V.bl) ∧ Q (.bl (bs.all id)) H
theorem call_all (hc : X.calm = true) : CallR X (.builtin "all") (rAll X.K) := by
  intro pins s σ H xs us Q I r h
  obtain ⟨p, bs, rfl, hp, q⟩ := h
  obtain ⟨u, rfl, ru⟩ := vals1 r
  cases ru
  obtain ⟨its, rv, pl, hz⟩ := I.list hp
  have e := bools_of rv
  subst e
  have hh : X.A.in1.handled = none := I.ok.hd hc
  refine call_all_walk (wpAny_pyIter_list pl.isList ?_)
  have hne : p ≠ s.heap.objs.size := by
    obtain ⟨o, ho, _⟩ := pl.isList
    exact Nat.ne_of_lt (Heap.lt_size ho)
  refine ⟨s.heap.objs.size, _, _, _, _, _, fun i => (bs[i]?).getD false, rfl, Walks.list hh s.heap.objs.size p hne (bs.map Value.bool).toArray, ⟨⟨_, Heap.get?_push_size _ rfl, rfl, rfl⟩, pl.isList.at fun o e => Heap.get?_push_of_some _ e⟩, fun i v s Q E hv hq => ?_, fun h' tk hk => ?_⟩
  · have hv' : (bs.map Value.bool)[i]? = some v := by simpa using hv
    rw [List.getElem?_map] at hv'
    cases e : bs[i]? with
    | none => rw [e] at hv'; cases hv'
    | some b =>
      rw [e] at hv'
      cases hv'
      have hq' : Q ((bs[i]?).getD false) s := hq
      rw [e] at hq'
      exact wpAny_pure hq'
  · have e : ((List.range (bs.map Value.bool).toArray.size).all fun i => (bs[i]?).getD false) = bs.all id := by
      rw [List.size_toArray, List.length_map]
      have key : ∀ bs : List Bool, ((List.range bs.length).all fun i => (bs[i]?).getD false) = bs.all id := by
        intro bs
        induction bs with
        | nil => rfl
        | cons b r ih =>
          rw [List.length_cons, List.range_succ_eq_map, List.all_cons, List.all_map, List.all_cons, ← ih]
          rfl
      exact key bs
    rw [e]
    refine ⟨.bl _, H, ?_, rfl, q⟩
    have I1 : Inv X pins σ H { s with heap := s.heap.push { cls := .type "list_iterator", data := .fields #[.ref p, .int 0 0] } } := I.kept (t' := s.toks) fun b o e => Heap.get?_push_of_some _ e
    have nf := I.fpOk (b := s.heap.objs.size) (Nat.le_refl _) (I.hok.fresh (Nat.le_refl _))
    exact I1.turned (it := s.heap.objs.size) (h' := h') (t' := tk) (fun b o hb e => hk b o (by simpa using hb) e) nf.1 nf.2.1 nf.2.2.2.1 nf.2.2.2.2.1 nf.2.2.2.2.2
theorem op_le_str : OpR X (compareOp .LtE) (fun x y H Q => ∃ i j, x = .str i ∧ y = .str j ∧ Q (.bl (!decide (j.cps.toList < i.cps.toList))) H) := by
  intro pins s σ H x y v u Q I rx ry h
  obtain ⟨i, j, rfl, rfl, q⟩ := h
  obtain ⟨t, rfl⟩ := rx
  obtain ⟨t', rfl⟩ := ry
  exact PySem.P.le_str (fin_bl I q (by rfl))
def rLeU : R2 := fun x y H Q => match x, y with
  | .int i, .int j => Q (.bl (decide (i ≤ j))) H
  | .str i, .str j => Q (.bl (!decide (j.cps.toList < i.cps.toList))) H
  | _, _ => False
theorem u_le : OpR X (compareOp .LtE) rLeU := by
  intro pins s σ H x y v u Q I rx ry h
  cases x with
  | int i => cases y with
    | int j => exact op_le pins s σ H _ _ v u Q I rx ry ⟨i, j, rfl, rfl, h⟩
    | _ => exact False.elim h
  | str i => cases y with
    | str j => exact op_le_str pins s σ H _ _ v u Q I rx ry ⟨i, j, rfl, rfl, h⟩
    | _ => exact False.elim h
  | _ => exact False.elim h
def rIsU : R2 := fun x y H Q => match x, y with
  | .bl i, .bl j => Q (.bl (i == j)) H
  | x, .non => Q (.bl (decide (x = .non))) H
  | _, _ => False
theorem op_rep_str : OpR X (binaryOp .Mult) (fun x y H Q => ∃ z k, x = .str z ∧ y = .int k ∧ MulOk z k ∧ Q (.str (Txt.mul z k)) H) := by
  intro pins s σ H x y v u Q I rx ry h
  obtain ⟨z, k, rfl, rfl, hm, q⟩ := h
  obtain ⟨t, rfl⟩ := rx
  obtain ⟨t', rfl⟩ := ry
  exact SB.mul hm fun t' k' => ⟨.str _, H, I.tok _, ⟨_, rfl⟩, q⟩
def rMulU : R2 := fun x y H Q => match x, y with
  | .int i, .int j => CMul i j ∧ Q (.int (i * j)) H
  | .str z, .int k => MulOk z k ∧ Q (.str (Txt.mul z k)) H
  | .ref a, .int k => rRep (.ref a) (.int k) H Q
  | _, _ => False
theorem u_mul : OpR X (binaryOp .Mult) rMulU := by
  intro pins s σ H x y v u Q I rx ry h
  cases y with
  | int j => cases x with
    | int i => exact op_mul pins s σ H _ _ v u Q I rx ry ⟨i, j, rfl, rfl, h.1, h.2⟩
    | str i => exact op_rep_str pins s σ H _ _ v u Q I rx ry ⟨i, j, rfl, rfl, h.1, h.2⟩
    | ref a => exact op_rep pins s σ H _ _ v u Q I rx ry h
    | _ => exact False.elim h
  | _ => cases x <;> exact False.elim h
def rAddU (K : PySem.W.Frag) : R2 := fun x y H Q => match x, y with
  | .int i, .int j => Q (.int (i + j)) H
  | .str i, .str j => i.length + j.length ≤ sizeLine ∧ Q (.str (i ++ j)) H
  | .ref a, .ref b => rCat (.ref a) (.ref b) H Q ∨ rCatT K (.ref a) (.ref b) H Q
  | _, _ => False
theorem u_add : OpR X (binaryOp .Add) (rAddU X.K) := by
  intro pins s σ H x y v u Q I rx ry h
  cases x with
  | int i => cases y with
    | int j => exact op_add pins s σ H _ _ v u Q I rx ry ⟨i, j, rfl, rfl, h⟩
    | _ => exact False.elim h
  | str i => cases y with
    | str j => exact op_add_str pins s σ H _ _ v u Q I rx ry ⟨i, j, rfl, rfl, h.1, h.2⟩
    | _ => exact False.elim h
  | ref a => cases y with
    | ref b => exact h.elim (fun h => op_cat pins s σ H _ _ v u Q I rx ry h) fun h => op_catT pins s σ H _ _ v u Q I rx ry h
    | _ => exact False.elim h
  | _ => exact False.elim h
def rLenU (K : PySem.W.Frag) : List V → Hp → VK → Prop := fun xs H Q => match xs with
  | [.str z] => z.length ≤ sizeLine ∧ Q (.int z.length) H
  | [.ref p] => (∃ ys, (SqL K H p ys ∨ SqT K H p ys) ∧ Q (.int ys.length) H) ∨ ∃ kvs, H p = some (.dK kvs) ∧ Q (.int kvs.length) H
  | _ => False
theorem call_lenU : CallR X (.builtin "len") (rLenU X.K) := by
  intro pins s σ H xs us Q I r h
  match xs, h with
  | [.str z], h => exact call_len_str pins s σ H _ us Q I r ⟨z, rfl, h.1, h.2⟩
  | [.ref p], .inl ⟨ys, h, q⟩ => exact call_len_seq pins s σ H _ us Q I r ⟨p, ys, rfl, h, q⟩
  | [.ref p], .inr ⟨kvs, h, q⟩ => exact call_lenD pins s σ H _ us Q I r ⟨p, kvs, rfl, h, q⟩
theorem sl_str : SlR X (fun x lo hi H Q => ∃ z, x = .str z ∧ z.length ≤ sizeLine ∧ Q (.str (Txt.slice z lo hi)) H) := by
  intro pins s σ H x v vl vu lo hi sl Q I rx hs pl pu h
  obtain ⟨z, rfl, hz, q⟩ := h
  obtain ⟨t, rfl⟩ := rx
  refine ⟨"str", _, F.slot_str_getitem.lookup, typeIs_str _ _ _, ?_⟩
  cases pl with
  | none =>
    cases pu with
    | none => exact wpAny_getItem_str_slice (l := none) (u := none) (st := none) hs rfl (post_val_or_str ⟨Nat.le_trans (Txt.slice_le z _ _) hz, fun t' k => ⟨.str _, H, I.tok _, ⟨_, rfl⟩, q⟩⟩)
    | int j uj => exact wpAny_getItem_str_slice (l := none) (u := some (j, uj)) (st := none) hs rfl (post_val_or_str ⟨Nat.le_trans (Txt.slice_le z _ _) hz, fun t' k => ⟨.str _, H, I.tok _, ⟨_, rfl⟩, q⟩⟩)
  | int i ui =>
    cases pu with
    | none => exact wpAny_getItem_str_slice (l := some (i, ui)) (u := none) (st := none) hs rfl (post_val_or_str ⟨Nat.le_trans (Txt.slice_le z _ _) hz, fun t' k => ⟨.str _, H, I.tok _, ⟨_, rfl⟩, q⟩⟩)
    | int j uj => exact wpAny_getItem_str_slice (l := some (i, ui)) (u := some (j, uj)) (st := none) hs rfl (post_val_or_str ⟨Nat.le_trans (Txt.slice_le z _ _) hz, fun t' k => ⟨.str _, H, I.tok _, ⟨_, rfl⟩, q⟩⟩)
def rSlU (K : PySem.W.Frag) : V → Option Int → Option Int → Hp → VK → Prop := fun x lo hi H Q => match x with
  | .str z => z.length ≤ sizeLine ∧ Q (.str (Txt.slice z lo hi)) H
  | .ref a => rSlL K (.ref a) lo hi H Q ∨ rSlT K (.ref a) lo hi H Q
  | _ => False
theorem u_sl : SlR X (rSlU X.K) := by
  intro pins s σ H x v vl vu lo hi sl Q I rx hs pl pu h
  cases x with
  | str z => exact sl_str pins s σ H _ v vl vu lo hi sl Q I rx hs pl pu ⟨z, rfl, h.1, h.2⟩
  | ref a => exact h.elim (fun h => sl_list pins s σ H _ v vl vu lo hi sl Q I rx hs pl pu h) fun h => sl_tup pins s σ H _ v vl vu lo hi sl Q I rx hs pl pu h
  | _ => exact False.elim h
def iAny (K : PySem.W.Frag) (te : TE) : TI := fun σ H R => te σ H fun v H1 => match v with
  | .str x => R (Its x) H1
  | .ref a => ((∃ xs, SqL K H1 a xs) ∧ R (Itl K a) H1) ∨ ((∃ xs, SqT K H1 a xs) ∧ R (Itt K a) H1)
  | _ => False
theorem pi_any {tg e : Expr} {te : TE} (he : PE X e te) (htg : ∀ it v, letOwnedTupleGo tg it v = pure () := by intro _ _; rfl) : PI X tg e (iAny X.K te) := by
  intro pins s σ H R I h
  refine thn (he pins s σ H _ I h) fun v s1 ⟨y, H1, I1, r1, q1⟩ => ?_
  cases y with
  | str x =>
    obtain ⟨t, rfl⟩ := r1
    have fp : ∀ b ∈ [s1.heap.objs.size], FpOk X pins H1 b := fun b hb => by
      have e : b = s1.heap.objs.size := by simpa using hb
      subst e
      exact I1.fpOk (Nat.le_refl _) (I1.hok.fresh (Nat.le_refl _))
    cases ha : x.cps.all (· < 128)
    · exact wpAny_pyIter_wide ha ⟨s1.heap.objs.size, [s1.heap.objs.size], _, _, H1, rfl, I1.kept (t' := s1.toks) fun b o e => Heap.get?_push_of_some _ e,
        turn_str (T := "str_iterator") (fun A hA => Walks.strWide hA _ x t) (fun A i s Q E st h => wpAny_pyIter_striter_wide st h) (htg _), ⟨_, Heap.get?_push_size _ rfl, rfl, rfl⟩, fp, q1⟩
    · exact wpAny_pyIter_ascii ha ⟨s1.heap.objs.size, [s1.heap.objs.size], _, _, H1, rfl, I1.kept (t' := s1.toks) fun b o e => Heap.get?_push_of_some _ e,
        turn_str (T := "str_ascii_iterator") (fun A hA => Walks.strAscii hA _ x t) (fun A i s Q E st h => wpAny_pyIter_striter_ascii st h) (htg _), ⟨_, Heap.get?_push_size _ rfl, rfl, rfl⟩, fp, q1⟩
  | ref a =>
    cases r1
    have fp : ∀ b ∈ [s1.heap.objs.size], FpOk X pins H1 b := fun b hb => by
      have e : b = s1.heap.objs.size := by simpa using hb
      subst e
      exact I1.fpOk (Nat.le_refl _) (I1.hok.fresh (Nat.le_refl _))
    rcases q1 with ⟨⟨xs, hq⟩, q⟩ | ⟨⟨xs, hq⟩, q⟩
    · obtain ⟨its, rv, p, hz⟩ := I1.list hq
      exact wpAny_pyIter_list p.isList ⟨s1.heap.objs.size, [s1.heap.objs.size], _, _, H1, rfl, I1.kept (t' := s1.toks) fun b o e => Heap.get?_push_of_some _ e, turn_list a _, ⟨_, Heap.get?_push_size _ rfl, rfl, rfl⟩, fp, q⟩
    · obtain ⟨its, rv, p, hz⟩ := I1.tuple hq
      exact wpAny_pyIter_tuple (show s1.heap.IsTuple a its.toArray from p) ⟨s1.heap.objs.size, [s1.heap.objs.size], _, _, H1, rfl, I1.kept (t' := s1.toks) fun b o e => Heap.get?_push_of_some _ e, turn_tuple a _, ⟨_, Heap.get?_push_size _ rfl, rfl, rfl⟩, fp, q⟩
  | _ => exact False.elim q1
end
end L2
namespace L2
open PySem PySem.Spec PyProof.Rows
section
variable {D : Ends} {σ : St} {H : Hp} {Q : VK} {QT : Bool → Hp → Prop} {QA : List V → Hp → Prop} {t u : TS} {te ta tb tc : TE} {c c' : TT} {tr tas : TA} {r r' : R2} {K : PySem.W.Frag}
theorem vSeq (h : t { D with nx := u D } σ H) : tSeq t u D σ H := h
theorem vAsg {i : Nat} (h : te σ H fun x H1 => D.nx (σ.set i (some x)) H1) : tAsg te (gName i) D σ H := h
theorem vAsgS {to ti : TE} {s : TSet} (h : te σ H fun x H1 => to σ H1 fun o H2 => ti σ H2 fun i H3 => s o i x H3 fun H4 => D.nx σ H4) : tAsg te (gSub to ti s) D σ H := h
theorem vIfS (h : c σ H fun b H1 => if b = true then t D σ H1 else u D σ H1) : tIfS c t u D σ H := h
theorem vRet (h : te σ H D.rt) : tRet te D σ H := h
theorem vRetN (h : D.rt .non H) : tRetN D σ H := h
theorem vDrop (h : te σ H fun _ H1 => D.nx σ H1) : tDrop te D σ H := h
theorem vNext (h : D.nx σ H) : tNext D σ H := h
theorem vC {v : V} (h : Q v H) : tC v σ H Q := h
theorem vVar {i : Nat} {v : V} (e : σ[i]? = some (some v)) (h : Q v H) : tVar i σ H Q := ⟨v, e, h⟩
theorem vOp (h : ta σ H fun x H1 => tb σ H1 fun y H2 => r x y H2 Q) : tOp r ta tb σ H Q := h
theorem vUn {f : V → Hp → VK → Prop} (h : ta σ H fun x H1 => f x H1 Q) : tUn f ta σ H Q := h
theorem vChain (h : ta σ H fun x H1 => tb σ H1 fun y H2 => r x y H2 fun z H3 => ∃ k, z = .bl k ∧ if k = true then tc σ H3 fun z2 H4 => r' y z2 H4 Q else Q (.bl false) H3) : tChain r r' ta tb tc σ H Q := h
theorem vNil (h : QA [] H) : tNil σ H QA := h
theorem vCons (h : ta σ H fun x H1 => tr σ H1 fun xs H2 => QA (x :: xs) H2) : tCons ta tr σ H QA := h
theorem vCB {f : List V → Hp → VK → Prop} (h : tas σ H fun vs H1 => f vs H1 Q) : tCB f tas σ H Q := h
theorem vCall {sp : Sp} {E : XK} (h : tas σ H fun vs H1 => sp (vs ++ []) H1 Q E) : tCall sp [] E tas σ H Q := h
theorem vLst (h : tas σ H fun xs H1 => xs.length ≤ sizeLine ∧ ∀ p, H1 p = none → Q (.ref p) (upd H1 p (.lst xs))) : tLst tas σ H Q := h
theorem vTup (h : tas σ H fun xs H1 => xs.length ≤ sizeLine ∧ ∀ p, H1 p = none → Q (.ref p) (upd H1 p (.tup xs))) : tTup tas σ H Q := h
theorem vTest (h : te σ H fun x H' => ∃ k, x = .bl k ∧ QT k H') : tTest te σ H QT := h
theorem vB (h : te σ H fun x H' => ∃ k, x = .bl k ∧ QT k H') : tB te σ H QT := h
theorem vNot (h : c σ H fun b H1 => QT (!b) H1) : tNot c σ H QT := h
theorem vAnd (h : c σ H fun b H1 => if b = true then c' σ H1 QT else QT false H1) : tAnd c c' σ H QT := h
theorem vOr (h : c σ H fun b H1 => if b = true then QT true H1 else c' σ H1 QT) : tOr c c' σ H QT := h
theorem vAndV (h : ta σ H fun x H1 => ∃ k, x = .bl k ∧ if k = true then tb σ H1 Q else Q (.bl false) H1) : tAndV ta tb σ H Q := h
theorem vOrV (h : ta σ H fun x H1 => ∃ k, x = .bl k ∧ if k = true then Q (.bl true) H1 else tb σ H1 Q) : tOrV ta tb σ H Q := h
theorem vNotV (h : ta σ H fun x H1 => ∃ k, x = .bl k ∧ Q (.bl (!k)) H1) : tNotV ta σ H Q := h
theorem vIf (h : c σ H fun b H1 => if b = true then ta σ H1 Q else tb σ H1 Q) : tIf c ta tb σ H Q := h
theorem vYes (h : QT true H) : tYes σ H QT := h
theorem vI0 {g : Int → Int → V} {i j : Int} (h : Q (g i j) H) : rI0 g (.int i) (.int j) H Q := ⟨i, j, rfl, rfl, h⟩
theorem vI {C : Int → Int → Prop} {g : Int → Int → V} {i j : Int} (hc : C i j) (h : Q (g i j) H) : rI C g (.int i) (.int j) H Q := ⟨i, j, rfl, rfl, hc, h⟩
theorem vU {g : Int → V} {i : Int} (h : Q (g i) H) : rU g (.int i) H Q := ⟨i, rfl, h⟩
theorem vEqI {i j : Int} (h : Q (.bl (decide (i = j))) H) : rEq (.int i) (.int j) H Q := ⟨rfl, by
  have e : decide (V.int i = V.int j) = decide (i = j) := by
    by_cases h : i = j
    · subst h; simp
    · rw [decide_eq_false h, decide_eq_false (fun e => h (V.int.inj e))]
  rw [e]; exact h⟩
theorem vEqB {i j : Bool} (h : Q (.bl (i == j)) H) : rEq (.bl i) (.bl j) H Q := ⟨rfl, by rw [dec_bl]; exact h⟩
theorem vIxL {p : Addr} {xs : List V} {i : Int} {v : V} (hp : H p = some (.lst xs)) (ha : atI xs i = some v) (h : Q v H) : rIx K (.ref p) (.int i) H Q := .inl ⟨p, xs, i, v, rfl, rfl, SqL.of hp, ha, h⟩
theorem vIxLs {p : Addr} {xs : List V} {i : Int} {v : V} (hp : SqL K H p xs) (ha : atI xs i = some v) (h : Q v H) : rIx K (.ref p) (.int i) H Q := .inl ⟨p, xs, i, v, rfl, rfl, hp, ha, h⟩
theorem vIxT {p : Addr} {xs : List V} {i : Int} {v : V} (hp : H p = some (.tup xs)) (ha : atI xs i = some v) (h : Q v H) : rIx K (.ref p) (.int i) H Q := .inr (.inl ⟨p, xs, i, v, rfl, rfl, SqT.of hp, ha, h⟩)
theorem vIxS {z : Str} {i : Int} {ch : Nat} (hz : z.length ≤ sizeLine) (ha : atI z.cps.toList i = some ch) (h : Q (.str ⟨#[ch]⟩) H) : rIx K (.str z) (.int i) H Q := .inr (.inr ⟨z, i, ch, rfl, rfl, hz, ha, h⟩)
theorem vSetL {p : Addr} {xs : List V} {k : Int} {v : V} {j : Nat} {QH : Hp → Prop} (hp : H p = some (.lst xs)) (hj : ixN xs.length k = some j) (h : QH (upd H p (.lst (xs.set j v)))) : rSetL (.ref p) (.int k) v H QH := ⟨p, xs, k, j, rfl, rfl, hp, hj, h⟩
theorem vEx {k : Bool} {P : Bool → Prop} (h : P k) : ∃ k', V.bl k = .bl k' ∧ P k' := ⟨k, rfl, h⟩
theorem vLeI {i j : Int} (h : Q (.bl (decide (i ≤ j))) H) : rLeU (.int i) (.int j) H Q := h
theorem vLeS {i j : Str} (h : Q (.bl (!decide (j.cps.toList < i.cps.toList))) H) : rLeU (.str i) (.str j) H Q := h
theorem vIsB {i j : Bool} (h : Q (.bl (i == j)) H) : rIsU (.bl i) (.bl j) H Q := h
theorem vAddI {i j : Int} (h : Q (.int (i + j)) H) : rAddU K (.int i) (.int j) H Q := h
theorem vAddS {i j : Str} (hz : i.length + j.length ≤ sizeLine) (h : Q (.str (i ++ j)) H) : rAddU K (.str i) (.str j) H Q := ⟨hz, h⟩
theorem vMulI {i j : Int} (hc : CMul i j) (h : Q (.int (i * j)) H) : rMulU (.int i) (.int j) H Q := ⟨hc, h⟩
theorem vLenS {z : Str} (hz : z.length ≤ sizeLine) (h : Q (.int z.length) H) : rLenU K [.str z] H Q := ⟨hz, h⟩
theorem vLenL {p : Addr} {ys : List V} (hp : H p = some (.lst ys)) (h : Q (.int ys.length) H) : rLenU K [.ref p] H Q := .inl ⟨ys, .inl (SqL.of hp), h⟩
theorem vLenLs {p : Addr} {ys : List V} (hp : SqL K H p ys) (h : Q (.int ys.length) H) : rLenU K [.ref p] H Q := .inl ⟨ys, .inl hp, h⟩
theorem vLenT {p : Addr} {ys : List V} (hp : H p = some (.tup ys)) (h : Q (.int ys.length) H) : rLenU K [.ref p] H Q := .inl ⟨ys, .inr (SqT.of hp), h⟩
theorem vSlS {z : Str} {lo hi : Option Int} (hz : z.length ≤ sizeLine) (h : Q (.str (Txt.slice z lo hi)) H) : rSlU K (.str z) lo hi H Q := ⟨hz, h⟩
theorem vSl {f : V → Option Int → Option Int → Hp → VK → Prop} {tl th : TO} (h : te σ H fun x H1 => tl σ H1 fun l H2 => th σ H2 fun u H3 => f x l u H3 Q) : tSl f te tl th σ H Q := h
theorem vNoPart {QO : Option Int → Hp → Prop} (h : QO none H) : tNoPart σ H QO := h
theorem vPart {QO : Option Int → Hp → Prop} (h : te σ H fun x H1 => ∃ i, x = .int i ∧ QO (some i) H1) : tPart te σ H QO := h
theorem vExI {i : Int} {P : Int → Prop} (h : P i) : ∃ j, V.int i = .int j ∧ P j := ⟨i, rfl, h⟩
theorem vBM {T : String} {f : V → List V → Hp → VK → Prop} (h : te σ H fun x H1 => tyV K T x H1 ∧ tas σ H1 fun xs H2 => f x xs H2 Q) : tBM K T f te tas σ H Q := h
theorem vBM0 {T : String} {f : V → List V → Hp → VK → Prop} (h : te σ H fun x H1 => tyV K T x H1 ∧ f x [] H1 Q) : tBM0 K T f te σ H Q := h
theorem vComp {wi : TI} {g : TG} {nl : Nat} {ixs : List Nat} (h : wi σ H fun J H1 => CompW J g c te (capS nl ixs σ) H1 Q) : tComp wi g c te nl ixs σ H Q := h
theorem vFor {wi : TI} {g : TG} (h : wi σ H fun J H1 => ∃ W : Nat → Nat → St → Hp → Prop, (∃ m, W 0 m σ H1) ∧ ∀ i m σ H, W i m σ H →
  (J.stop i H ∧ D.nx σ H) ∨ (J.go i H ∧ ∃ N : St → Hp → Prop, (∀ σ' H', N σ' H' → ∃ m', m' < m ∧ W (i + 1) m' σ' H') ∧ ∀ x H', J.yld i H x H' → g x σ H' fun σ2 H2 => t { D with nx := N, ct := N, bk := D.nx } σ2 H2)) : tFor wi g t D σ H := h
theorem vRng1 {R : It → Hp → Prop} (h : tas σ H fun vs H1 => ∃ j : Int, vs = [.int j] ∧ -(2 ^ 62) ≤ j ∧ j < 2 ^ 62 ∧ R (Itr 0 j.toNat) H1) : iRng1 tas σ H R := h
theorem vAny {R : It → Hp → Prop} (h : te σ H fun v H1 => match v with
  | .str x => R (Its x) H1
  | .ref a => ((∃ xs, SqL K H1 a xs) ∧ R (Itl K a) H1) ∨ ((∃ xs, SqT K H1 a xs) ∧ R (Itt K a) H1)
  | _ => False) : iAny K te σ H R := h
theorem vGN {i : Nat} {v : V} {QS : St → Hp → Prop} (h : QS (σ.set i (some v)) H) : gName i v σ H QS := h
theorem atI_lt {α : Type} {xs : List α} {i : Int} (h0 : 0 ≤ i) (h1 : i < xs.length) : ∃ v, atI xs i = some v ∧ xs[i.toNat]? = some v := by
  obtain ⟨n, rfl⟩ := Int.eq_ofNat_of_zero_le h0
  have hn : n < xs.length := by omega
  exact ⟨xs[n], atI_nat (by simp [hn]), by simp [hn]⟩
end
section
variable {X : Cx} {K : PySem.W.Frag} {o e : Expr} {es : List Expr} {to ta : TE} {t : TA} {name f : Str} {apos cpos pos : Pos} {T id : String} {r : V → List V → Hp → VK → Prop} {tg : Expr}
theorem k_len (hK : X.K = K) : CallR X (.builtin "len") (rLenU K) := by subst hK; exact call_lenU
theorem k_all (hK : X.K = K) (hc : X.calm = true) : CallR X (.builtin "all") (rAll K) := by subst hK; exact call_all hc
theorem k_sl (hK : X.K = K) : SlR X (rSlU K) := by subst hK; exact u_sl
theorem k_add (hK : X.K = K) : OpR X (binaryOp .Add) (rAddU K) := by subst hK; exact u_add
theorem ki_any (hK : X.K = K) (he : PE X e ta) (htg : ∀ it v, letOwnedTupleGo tg it v = pure () := by intro _ _; rfl) : PI X tg e (iAny K ta) := by subst hK; exact pi_any he htg
theorem k_bm0 (hK : X.K = K) (pa : PlainAttrs T) (slot : Slot T name id) (hty : typeOf (.builtin id) = pure (.type "method_descriptor")) (hm : MtR X id r) (ho : PE X o to)
    (hbase : attributeBase o name X.env (eval o X.env) = eval o X.env := by rfl) (hline : (apos.endLine == cpos.line) = true := by rfl) : PE X (.Call (.Attribute o name apos) [] [] cpos) (tBM0 K T r to) := by
  subst hK
  exact pe_bm0 pa slot hty hm ho hbase hline
theorem k_bm (hK : X.K = K) (pa : PlainAttrs T) (slot : Slot T name id) (hty : typeOf (.builtin id) = pure (.type "method_descriptor")) (hm : MtR X id r) (ho : PE X o to) (ha : PA X (e :: es) t)
    (hbase : attributeBase o name X.env (eval o X.env) = eval o X.env := by rfl)
    (hfew : ((backTo cpos (starEach (e :: es) X.env)).all (fun x => !x.1) && (backToKw cpos (keywordEach [] X.env)).all (fun x => x.1.isSome)
      && decide ((e :: es).length + ([] : List Keyword).length + (if ([] : List Keyword).isEmpty then 0 else 1) < 30)) = true := by rfl)
    (hline : (apos.endLine == cpos.line) = true := by rfl) (hs : starEach (e :: es) X.env = (false, eval e X.env) :: starEach es X.env := by rfl) (hplain : (backTo cpos (starEach es X.env)).any (·.1) = false := by rfl) :
    PE X (.Call (.Attribute o name apos) (e :: es) [] cpos) (tBM K T r to t) := by
  subst hK
  exact pe_bm pa slot hty hm ho ha hbase hfew hline hs hplain
end
structure DefOk (P : Program) (w : World) (K : PySem.W.Frag) (mg : Str → Option Value) (base : Heap) (CX : CXT) (k : Nat) (x : Str) (ps : List Str) (sp : Sp) : Prop where
  ex : ∃ f fd, FnOk P w K mg base CX k f fd ps sp ∧ mg x = some (.ref f) ∧ PySem.W.keepIn K (.ref f) = true ∧ Binds K fd ps []
section
variable {X : Cx} {CX : CXT} {k : Nat} {ps : List Str} {sp : Sp} {E : XK} {x : Str} {p pos : Pos} {e : Expr} {es : List Expr} {t : TA}
theorem pe_def (D : DefOk X.prog X.w X.K X.mg X.base CX k x ps sp) (hr : Room k X.A) (hx : Passes CX X E) (ha : PA X (e :: es) t) (hg : Gl X x := by rfl) (hdb : (x == ("__debug__" : Str)) = false := by decide)
    (he : starEach (e :: es) X.env = (false, eval e X.env) :: starEach es X.env := by rfl) (hpl : (backTo pos (starEach es X.env)).any (·.1) = false := by rfl) : PE X (.Call (.Name x p) (e :: es) [] pos) (tCall sp [] E t) := by
  obtain ⟨f, fd, F, hm, hk, hb⟩ := D.ex
  exact pe_call F hr hg hm hk hb .nil hx ha hdb he hpl
theorem pe_globI {i : Int} (hg : Gl X x) (hm : ∃ tk, X.mg x = some (.int i tk)) (hd : (x == ("__debug__" : Str)) = false := by decide) : PE X (.Name x pos) (tC (.int i)) := by
  obtain ⟨tk, hm⟩ := hm
  exact pe_glob hg hm ⟨tk, rfl⟩ hd
end
def isaT (t c : String) : Bool := t == c || (t == "bool" && c == "int")
theorem kit_tab (K : PySem.W.Frag) : ∀ t ∈ ["NoneType", "bool", "int", "str", "list", "tuple", "dict"], ∀ c ∈ ["bool", "int", "str", "list", "tuple", "dict"], PySem.W.kitOne K (.type t) (.type c) = some (isaT t c) := by
  intro t ht c hc
  simp only [List.mem_cons, List.not_mem_nil, or_false] at ht hc
  rcases ht with rfl | rfl | rfl | rfl | rfl | rfl | rfl <;> rcases hc with rfl | rfl | rfl | rfl | rfl | rfl <;> rfl
end L2
namespace L2
open PySem PySem.Spec PyProof.Rows
def xMro : List Value → Bool
  | [.type a, .type b, .type c, .type d] => a == "ValueError" && b == "Exception" && c == "BaseException" && d == "object"
  | .ref _ :: r => xMro r
  | _ => false
def xcIn (K : PySem.W.Frag) (C : Addr) : Bool := match K.lookup C with
  | some ⟨.type "type", _, .cls cd, sl⟩ => (match cd.mro, sl.toList with
    | .ref D :: bm, [_, _, _, _, some (.builtin n), _] => D == C && !cd.hasDel && xMro bm && n == "ValueError.__new__"
    | _, _ => false)
  | _ => false
theorem xc_cls {K : PySem.W.Frag} {h : Heap} {C : Addr} (X : K.In h) (q : xcIn K C = true) : ∃ nm qn N bs bm hdct sn sub ab col dd k0 k1 k2 k3 k5,
    h.get? C = some (excClassObj nm qn C N bs bm hdct sn sub ab col dd k0 k1 k2 k3 k5 "ValueError.__new__") ∧ xMro bm = true := by
  unfold xcIn at q
  split at q
  · rename_i dd cd sl ho
    split at q
    · rename_i D bm k0 k1 k2 k3 n k5 hm hs
      simp only [Bool.and_eq_true, beq_iff_eq, Bool.not_eq_true'] at q
      obtain ⟨⟨⟨e1, e2⟩, e3⟩, e4⟩ := q
      subst e1 e4
      obtain ⟨nm, bs, mro, ns, qn, hd, sn, sub, ab, col, del⟩ := cd
      dsimp only at hm e2
      subst hm e2
      obtain ⟨l⟩ := sl
      dsimp only at hs
      subst hs
      exact ⟨nm, qn, ns, bs, bm, hd, sn, sub, ab, col, dd, k0, k1, k2, k3, k5, X _ _ ho, e3⟩
    · cases q
  · cases q
structure XAt (K : PySem.W.Frag) (C : Addr) : Prop where
  ga : PySem.W.findIn K (.ref C) "__getattribute__" = some (some (.builtin "BaseException.__getattribute__"))
  gn : PySem.W.findIn K (.ref C) "__getattr__" = some none
  bx : PySem.W.mroIn K C (.type "BaseException") = some true
  ob : PySem.W.mroIn K C (.type "object") = some true
  hd : PySem.W.hasDictIn K C = true
  cl : PySem.W.findIn K (.ref C) "__class__" = some (some (.builtin "object.__class__"))
  cg : PySem.W.specialIn K (.builtin "object.__class__") "__get__" = some (some (.builtin "getset_descriptor.__get__"))
  ct : PySem.W.takesIn K (.builtin "object.__class__") = some true
  sa : PySem.W.findIn K (.ref C) "__setattr__" = some (some (.builtin "object.__setattr__"))
  mr : (PySem.W.clsIn K C).any (fun cd => xMro cd.mro) = true
  xc : xcIn K C = true
theorem bexc_ga_slot : Slot "ValueError" "__getattribute__" "BaseException.__getattribute__" := PySem.F.attr_ValueError.ga
section
variable {prog : Program} {w : World} {A : Around} {E : Value → Shared → Prop} {s : Shared} {K : PySem.W.Frag} {x C : Addr} {ox : Obj} {od : Option Obj} {name : Str} {v : Value}
theorem xga_value {tk : Tok} {Q : Fin → Shared → Prop} (X : K.In s.heap) (I : PySem.W.InstAt s.heap x ox C od) (hf : PySem.W.findObj K C od name = some (.value v)) (h : Q (.done (.ret v)) s) :
    wpAny (model prog w) A (Builtin.«object.__getattribute__» ⟨[.ref x, .str name tk], []⟩) Q E s := by
  have F := PySem.W.looks_find (M := model prog w) X I hf
  refine wpAny_bind (wpAny_pure (wpAny_bind (wpAny_pure (wpAny_bind (I.type.here (wpAny_bind (F.here ?_)))))))
  exact wpAny_pure h
theorem xga_call {tk : Tok} {R : Result → Shared → Prop} (X : K.In s.heap) (I : PySem.W.InstAt s.heap x ox C od) (hb : PySem.W.mroIn K C (.type "BaseException") = some true)
    (h : wpAny (model prog w) A.in1 (Builtin.«object.__getattribute__» ⟨[.ref x, .str name tk], []⟩) (fun fin s' => match fin with | .done f => R (.ok f) s' | .again c' => c'.quiet = true ∧ codeAny (model prog w) A c' R s') (fun e s' => R (.error e) s') s) :
    codeAny (model prog w) A (.call (.builtin "BaseException.__getattribute__") ⟨[.ref x, .str name tk], []⟩) R s := by
  refine codeAny_call_builtin bexc_ga_slot.plain PySem.F.entry_bexc_ga ?_
  exact @PySem.W.check_slot (model prog w) _ _ s "BaseException.__getattribute__" "BaseException" "__getattribute__" (.ref x) [.str name tk] [] _ (by decide +kernel) (by decide +kernel) (I.type.andThen (PySem.W.looks_mroIn X hb)) (PySem.F.args_bexc_ga _ _) h
theorem xget_by {fill expr : Bool} {tk : Tok} {Q : Value → Shared → Prop} (X : K.In s.heap) (I : PySem.W.InstAt s.heap x ox C od) (c : XAt K C)
    (h : wpAny (model prog w) A.in1 (Builtin.«object.__getattribute__» ⟨[.ref x, .str name tk], []⟩) (fun fin s' => match fin with | .done (.ret v) => wpAny (model prog w) A (handedOut v) Q E s' | _ => False) (fun _ _ => False) s) :
    wpAny (model prog w) A (getAttrBy (.ref x) (.str name tk) fill expr) Q E s := by
  unfold getAttrBy
  refine wpAny_holding (wpAny_bind (I.type.here (wpAny_bind ((PySem.W.looks_findIn X c.ga).here ?_))))
  have e1 : (onTheHeap (Value.ref C) && Value.builtin "BaseException.__getattribute__" == Value.builtin "object.__getattribute__") = false := by
    rw [show (Value.builtin "BaseException.__getattribute__" == Value.builtin "object.__getattribute__") = false by decide +kernel]
    rfl
  dsimp only
  rw [e1, if_neg (by decide)]
  unfold getAttrByItsOwn hookBefore
  rw [if_pos (show onTheHeap (Value.ref C) = true from rfl)]
  refine wpAny_bind ((PySem.W.looks_findIn X c.gn).here (wpAny_bind (wpAny_attempt (wpAny_holding ?_))))
  have e2 : (expr && onTheHeap (Value.builtin "BaseException.__getattribute__")) = false := by cases expr <;> rfl
  unfold callGetattribute
  rw [e2, if_neg (by decide)]
  unfold boundAndCalled
  rw [bexc_ga_slot.bind]
  refine wpAny_bind (wpAny_pure ?_)
  show wpAny _ _ (call (.builtin "BaseException.__getattribute__") [.ref x, .str name tk]) _ _ _
  refine wpAny_call (xga_call X I c.bx (wpAny_mono h (fun fin s' z => ?_) fun _ _ z => z.elim))
  rcases fin with (_ | _ | _ | _) | _ <;> first | exact z | exact z.elim
theorem xget {expr : Bool} {Q : Value → Shared → Prop} (X : K.In s.heap) (I : PySem.W.InstAt s.heap x ox C od) (c : XAt K C) (hf : PySem.W.findObj K C od name = some (.value v)) (hh : PySem.W.handedIn v = true)
    (h : Q v { s with toks := s.toks + 1 }) : wpAny (model prog w) A (getAttr (.ref x) name expr) Q E s := by
  unfold getAttr
  refine wpAny_bind (wpAny_mkText (xget_by (s := { s with toks := s.toks + 1 }) X I c (xga_value (s := { s with toks := s.toks + 1 }) X I hf ?_)))
  show wpAny _ _ (handedOut v) _ _ _
  rw [PySem.W.handedOut_of hh]
  exact wpAny_pure h
theorem xclass {Q : Option Value → Shared → Prop} (X : K.In s.heap) (I : PySem.W.InstAt s.heap x ox C od) (c : XAt K C) (hf : PySem.W.findObj K C od "__class__" = some (.bind (.builtin "getset_descriptor.__get__") (.builtin "object.__class__")))
    (h : Q (some (.ref C)) { s with toks := s.toks + 1 }) : wpAny (model prog w) A (getAttr? (.ref x) "__class__") Q E s := by
  unfold getAttr? getAttrBy?
  refine wpAny_bind (wpAny_mkText (wpAny_bind (wpAny_attempt (xget_by (s := { s with toks := s.toks + 1 }) X I c ?_))))
  have F := PySem.W.looks_find (M := model prog w) X I hf
  refine wpAny_bind (wpAny_pure (wpAny_bind (wpAny_pure (wpAny_bind (I.type.here (s := { s with toks := s.toks + 1 }) (wpAny_bind (F.here (s := { s with toks := s.toks + 1 }) ?_)))))))
  show wpAny _ _ (holding [Value.builtin "object.__class__"] (call (.builtin "getset_descriptor.__get__") [.builtin "object.__class__", .ref x, .ref C]) >>= ret) _ _ _
  refine wpAny_bind (wpAny_holding (wpAny_call (PySem.W.class_get (s := { s with toks := s.toks + 1 }) X I c.ob ?_)))
  refine wpAny_pure ?_
  show wpAny _ _ (handedOut (.ref C)) _ _ _
  exact wpAny_pure (wpAny_pure h)
theorem findObj_class (c : XAt K C) : PySem.W.findObj K C od "__class__" = some (.bind (.builtin "getset_descriptor.__get__") (.builtin "object.__class__")) := by
  obtain ⟨cd, hc, _⟩ := PySem.W.any_some c.hd
  unfold PySem.W.findObj
  rw [hc, Option.bind_some, c.cl, Option.bind_some]
  simp [c.cg, c.ct]
theorem kitx_exc {od : Option Obj} (c : XAt K C) : PySem.W.KitX K (.ref x) (.ref C) (fun h => PySem.W.InstAt h x ox C od) where
  ty := fun _ _ _ I => I.type
  it := fun _ _ X _ => by
    obtain ⟨cd, hc, _⟩ := PySem.W.any_some c.hd
    unfold PySem.W.clsIn at hc
    split at hc
    · rename_i c1 d1 cd1 sl1 ho
      intro A' Q' E' s' k q
      unfold isType loadHead
      exact wpAny_bind (wpAny_loadPart (k _ _ (X _ _ ho)) (wpAny_pure q))
    · cases hc
  ne := fun h tp dd its n sl X htp => by
    obtain ⟨cd, hc, _⟩ := PySem.W.any_some c.hd
    refine Bool.eq_false_iff.mpr fun q => ?_
    have e : C = tp := Value.ref.inj (beq_iff_eq.mp q)
    subst e
    unfold PySem.W.clsIn at hc
    split at hc
    · rename_i c1 d1 cd1 sl1 ho
      have z := (X _ _ ho).symm.trans htp
      cases z
    · cases hc
  ca := fun X I k => xclass X I c (findObj_class c) k
end
end L2
namespace L2
open PySem PySem.Spec PyProof.Rows
theorem xMro_cons {c : Addr} {r : List Value} (e : xMro (.ref c :: r) = true) : xMro r = true := by
  cases r with
  | nil => cases e
  | cons a r => exact e
theorem xMro_line : ∀ {l : List Value}, xMro l = true → ∃ rs : List Addr, l = rs.map Value.ref ++ [.type "ValueError", .type "Exception", .type "BaseException", .type "object"]
  | [], e => by cases e
  | .ref c :: r, e => by
    obtain ⟨rs, q⟩ := xMro_line (xMro_cons e)
    exact ⟨c :: rs, by rw [q]; rfl⟩
  | .type a :: r, e => by
    match r, e with
    | [.type b, .type c, .type d], e =>
      simp only [xMro, Bool.and_eq_true, beq_iff_eq] at e
      obtain ⟨⟨⟨rfl, rfl⟩, rfl⟩, rfl⟩ := e
      exact ⟨[], rfl⟩
theorem refuse_exc (self : Value) {l : List Value} (e : xMro l = true) : refuseLoop self "__setattr__" l = pure () := by
  obtain ⟨rs, rfl⟩ := xMro_line e
  induction rs with
  | nil => exact PySem.F.store_ValueError.passes self
  | cons c rs ih => rw [List.map_cons, List.cons_append, refuseLoop_ref]; exact ih (xMro_cons e)
theorem xMro_has {l : List Value} (e : xMro l = true) {T : String} (h : T ∈ ["ValueError", "Exception", "BaseException", "object"]) : l.contains (.type T) = true := by
  obtain ⟨rs, rfl⟩ := xMro_line e
  rw [List.contains_iff_mem]
  refine List.mem_append_right _ ?_
  simp only [List.mem_cons, List.not_mem_nil, or_false] at h ⊢
  rcases h with rfl | rfl | rfl | rfl <;> simp
section
variable {prog : Program} {w : World} {A : Around} {E : Value → Shared → Prop} {s : Shared} {K : PySem.W.Frag} {x C : Addr} {name : Str} {v : Value} {R : Result → Shared → Prop}
theorem xosa {tk : Tok} {ox : Obj} {od : Option Obj} (X : K.In s.heap) (I : PySem.W.InstAt s.heap x ox C od) (c : XAt K C) (n : NoAttr K C name)
    (h : wpAny (model prog w) A.in1 (Builtin.ObjectAttr.storeInOwnDict (.ref x) (.ref C) (.str name tk) name v false)
      (fun fin s' => match fin with | .done f => R (.ok f) s' | .again c' => c'.quiet = true ∧ codeAny (model prog w) A c' R s') (fun e s' => R (.error e) s') s) :
    codeAny (model prog w) A (.call (.builtin "object.__setattr__") ⟨[.ref x, .str name tk, v], []⟩) R s := by
  have SF := PySem.F.store_object
  obtain ⟨cd, hc, ho⟩ := PySem.W.any_some c.mr
  have hm : PySem.W.Looks (model prog w) s.heap (mroOf (.ref C)) cd.mro := (PySem.W.looks_clsIn X hc).andThen .now
  refine codeAny_call_builtin SF.slot.plain SF.entry (@PySem.W.check_slot (model prog w) _ _ s "object.__setattr__" "object" "__setattr__" (.ref x) [.str name tk, v] [] _ SF.kind SF.split (I.type.andThen (PySem.W.looks_mroIn X c.ob)) (SF.args (.ref x) (.str name tk) v) ?_)
  rw [PySem.W.osa_eq, refuse_eq]
  refine wpAny_bind (wpAny_bind (I.type.here (wpAny_bind (hm.here ?_))))
  rw [refuse_exc _ ho]
  refine wpAny_pure (wpAny_bind (I.type.here (wpAny_bind ((PySem.W.looks_findIn X n).here (wpAny_bind (wpAny_pure ?_))))))
  exact h
theorem xset {vs : Array Value} (X : K.In s.heap) (hx : s.heap.get? x = some ⟨.ref C, none, .fields vs, #[]⟩) (c : XAt K C) (n : NoAttr K C name) {Q : Unit → Shared → Prop}
    (h : ∀ h', h'.get? x = some ⟨.ref C, some s.heap.objs.size, .fields vs, #[]⟩ → h'.Ns1 s.heap.objs.size (fun y => if y = name then some v else none) → (∀ b o, b ≠ x → s.heap.get? b = some o → h'.get? b = some o) →
      Q () { s with heap := h', toks := s.toks + 2 }) : wpAny (model prog w) A (setAttr (.ref x) name v) Q E s := by
  have I : PySem.W.InstAt s.heap x ⟨.ref C, none, .fields vs, #[]⟩ C none := ⟨hx, rfl, rfl, True.intro⟩
  obtain ⟨cd, hc, hd⟩ := PySem.W.any_some c.hd
  refine PySem.W.set_plain X I c.sa (xosa (s := { s with toks := s.toks + 1 }) X I c n ?_)
  refine wpAny_bind (wpAny_pure (wpAny_bind (wpAny_bind (wpAny_loadPart hx (wpAny_bind ((PySem.W.looks_clsIn X hc).here (s := { s with toks := s.toks + 1 }) ?_))))))
  rw [hd]
  obtain ⟨hh, g, dr, tk, os⟩ := s
  show wpAny _ _ (alloc { cls := .type "dict", data := .dict #[] } >>= fun d => update x (fun o => { cls := o.cls, dict := some d, data := o.data, slots := o.slots }) >>= fun _ => pure (some d)) _ _ _
  have hxs : x ≠ hh.objs.size := Nat.ne_of_lt (Heap.lt_size hx)
  have hx1 := Heap.get?_push_of_some { cls := .type "dict", data := .dict #[] } hx
  refine wpAny_bind (wpAny_alloc' (wpAny_bind (wpAny_update' hx1 (wpAny_pure ?_))))
  have hx2 := Heap.get?_update_self (fun o : Obj => { cls := o.cls, dict := some hh.objs.size, data := o.data, slots := o.slots }) hx1 rfl
  have hd2 := (Heap.get?_update_ne (hh.push { cls := .type "dict", data := .dict #[] }) hh.objs.size x (fun o : Obj => { cls := o.cls, dict := some hh.objs.size, data := o.data, slots := o.slots }) hxs.symm).trans (Heap.get?_push_at rfl rfl)
  generalize hg : (hh.push { cls := .type "dict", data := .dict #[] }).update x (fun o : Obj => { cls := o.cls, dict := some hh.objs.size, data := o.data, slots := o.slots }) = h2 at hx2 hd2 ⊢
  have nd : h2.Ns hh.objs.size (fun _ => none) := ⟨_, #[], _, hd2, rfl, fun e he => absurd he (by simp), fun _ => rfl⟩
  show wpAny _ _ (Builtin.ObjectAttr.storeInDict hh.objs.size (.str name tk) name v) _ _ _
  unfold Builtin.ObjectAttr.storeInDict Builtin.ObjectAttr.newKeyGuard
  refine wpAny_bind (wpAny_pure (wpAny_bind (wpAny_nsSet1 (Heap.Ns1.of_empty nd) fun h' n2 sb => ?_)))
  obtain ⟨oD, esD, epD, hoD, hdD, hcD⟩ := n2.count (PySem.Within.cons name v PySem.Within.nil)
  have hz : esD.size ≤ sizeLine := Nat.le_trans hcD (by rw [List.length_cons, List.length_nil, sizeLine_eq]; omega)
  refine wpAny_bind (wpAny_lookBehind hoD (by rw [hdD]; exact pastItsLine_dict (Nat.le_succ_of_le hz)) ?_)
  refine wpAny_pure (h h' ((sb.2 x hxs).trans hx2) n2 fun b o hb e => (sb.2 b (Nat.ne_of_lt (Heap.lt_size e))).trans ?_)
  rw [← hg]
  exact (Heap.get?_update_ne _ _ _ _ hb).trans (Heap.get?_push_of_some _ e)
theorem ve_check {M : Model} {ox : Obj} {u : Value} {Q : Unit → Shared → Prop} (X : K.In s.heap) (c : XAt K C) (hx : s.heap.get? x = some ox) (hcls : ox.cls = .ref C) (q : Q () s) :
    wpAny M A (checkBuiltinCall "ValueError.__init__" ⟨[.ref x, u], []⟩) Q E s := by
  have F := PySem.F.excBase_ValueError
  have hshort := F.noStar
  obtain ⟨nm, qn, N, bs, bm, hdct, sn, sub, ab, col, dd, k0, k1, k2, k3, k5, hC, hm⟩ := xc_cls X c.xc
  have hcB : (Value.ref C :: bm).contains (.type "ValueError") = true := by rw [List.contains_cons, xMro_has hm (by simp), Bool.or_true]
  obtain ⟨hh, g, dr, tk, os⟩ := s
  simp only [checkBuiltinCall, F.initKind, F.initSplit, F.initRow]
  repeat (first | (with_reducible refine wpAny_loadPart_at hx ?_; rw [hcls]) | with_reducible refine wpAny_loadPart_at hC ?_ | (with_reducible refine wpAny_isSubtype_exc hC ?_; rw [hcB]) | wp_step)
  exact q
abbrev xfs (a0 : Addr) : Array Value := #[.ref a0, .none, .none, .none, .bool false, .none]
theorem xbase_init {a0 : Addr} {u : Value} (X : K.In s.heap) (hx : s.heap.get? x = some ⟨.ref C, none, .fields (xfs a0), #[]⟩) (c : XAt K C) {Q : Value → Shared → Prop}
    (h : ∀ h' a1, h'.get? x = some ⟨.ref C, none, .fields (xfs a1), #[]⟩ → (∀ b o, b ≠ x → s.heap.get? b = some o → h'.get? b = some o) → Q .none { s with heap := h' }) :
    wpAny (model prog w) A (call (.builtin "ValueError.__init__") [.ref x, u]) Q E s := by
  have F := PySem.F.excBase_ValueError
  refine wpAny_call (codeAny_call_builtin F.init.plain F.initEntry (ve_check X c hx rfl ?_))
  obtain ⟨hh, g, dr, tk, os⟩ := s
  wp_walk
  refine h _ hh.objs.size ?_ fun b o hb e => ?_
  · rw [Heap.get?_update_self _ (Heap.get?_push_of_some _ hx) rfl]
    rfl
  · rw [Heap.get?_update_other _ _ (Ne.symm hb)]
    exact Heap.get?_push_of_some _ e
end
end L2
namespace L2
open PySem PySem.Spec PyProof.Rows
theorem xMro_not {l : List Value} (e : xMro l = true) {T : String} (h : T ∉ ["ValueError", "Exception", "BaseException", "object"]) : l.contains (.type T) = false := by
  obtain ⟨rs, rfl⟩ := xMro_line e
  refine Bool.eq_false_iff.mpr fun q => ?_
  rcases List.mem_append.mp (List.contains_iff_mem.mp q) with z | z
  · obtain ⟨a, _, q⟩ := List.mem_map.mp z
    cases q
  · simp only [List.mem_cons, List.not_mem_nil, or_false, Value.type.injEq] at z h
    exact h z
section
variable {prog : Program} {w : World} {A : Around} {R : Result → Shared → Prop} {E : Value → Shared → Prop} {h : Heap} {g : Array GenState} {d : Drawn} {t : Nat} {os : OsState}
variable {nm q : Str} {C N : Addr} {bs bm : List Value} {hdct : Bool} {sn : List Str} {sub : List Value} {ab : Bool} {col : Option Bool} {dd : Option Addr} {k0 k1 k2 k3 k5 : Option Value}
theorem xnew_check {M : Model} {rest : List Value} {Q : Unit → Shared → Prop} (hC : h.get? C = some (excClassObj nm q C N bs bm hdct sn sub ab col dd k0 k1 k2 k3 k5 "ValueError.__new__")) (hm : xMro bm = true) (hq : Q () ⟨h, g, d, t, os⟩) :
    wpAny M A (checkBuiltinCall "ValueError.__new__" ⟨.ref C :: rest, []⟩) Q E ⟨h, g, d, t, os⟩ := by
  have F := PySem.F.excBase_ValueError
  have hcont : (Value.ref C :: bm).contains (.type "ValueError") = true := by rw [List.contains_cons, xMro_has hm (by simp), Bool.or_true]
  have hstar := F.noStar
  simp only [checkBuiltinCall, F.newKind, F.newSplit, F.newRow]
  repeat (first | refine wpAny_loadPart_at hC ?_ | (refine wpAny_isSubtype_exc hC ?_; rw [hcont]) | refine wpAny_staticBase_exc hC ?_ | refine wpAny_madeBy_exc hC ?_ | simp only [bne_self_eq_false, Bool.false_eq_true, if_false] | wp_step)
  exact hq
theorem xnew {rest : List Value} (hC : h.get? C = some (excClassObj nm q C N bs bm hdct sn sub ab col dd k0 k1 k2 k3 k5 "ValueError.__new__")) (hm : xMro bm = true) (hrest : rest.length ≤ sizeLine)
    (hq : R (.ok (.ret (.ref (h.objs.size + 1)))) ⟨(h.push { cls := .type "tuple", data := .seq rest.toArray }).push { cls := .ref C, data := .fields (xfs h.objs.size) }, g, d, t, os⟩) :
    codeAny (model prog w) A (.builtin "ValueError.__new__" ⟨.ref C :: rest, []⟩) R ⟨h, g, d, t, os⟩ := by
  have F := PySem.F.excBase_ValueError
  have hends := F.ends
  have hcB : (Value.ref C :: bm).contains (.type "ValueError") = true := by rw [List.contains_cons, xMro_has hm (by simp), Bool.or_true]
  have hcA : (Value.ref C :: bm).contains (.type "AttributeError") = false := by rw [List.contains_cons, xMro_not hm (by simp)]; rfl
  have hcN : (Value.ref C :: bm).contains (.type "NameError") = false := by rw [List.contains_cons, xMro_not hm (by simp)]; rfl
  refine codeAny_builtinAt F.entry ?_
  unfold Builtin.«BaseException.__new__»
  refine PySem.wpAt_bind ?_
  show PySem.wpAt _ _ _ (stack >>= _) _ _ _
  refine PySem.wpAt_bind (PySem.wpAt_stack fun p0 below0 => PySem.wpAt_of_wpAny ?_)
  wp_walk
  refine PySem.wpAt_of_wpAny ?_
  rw [F.owner]
  repeat (first | with_reducible refine wpAny_madeHere_exc F.canon hC ?_ | with_reducible refine wpAny_loadPart_at hC ?_ | (with_reducible refine wpAny_isSubtype_exc hC ?_; first | rw [hcB] | rw [hcA] | rw [hcN]) | wp_step)
  show R _ _
  rw [Heap.size_push]
  exact hq
theorem xtype_call {K : PySem.W.Frag} {f : Addr} {rest : List Value} {Q : Fin → Shared → Prop} (X : K.In h) (hC : h.get? C = some (excClassObj nm q C N bs bm hdct sn sub ab col dd k0 k1 k2 k3 k5 "ValueError.__new__")) (hm : xMro bm = true)
    (hi : PySem.W.findIn K (.ref C) "__init__" = some (some (.ref f))) (hf : PySem.W.isFn K (.ref f) = true) (hrest : rest.length ≤ sizeLine)
    (hq : wpAny (model prog w) A (call (.ref f) (.ref (h.objs.size + 1) :: rest)) (fun r s' => r = .none ∧ Q (.done (.ret (.ref (h.objs.size + 1)))) s') E
      ⟨(h.push { cls := .type "tuple", data := .seq rest.toArray }).push { cls := .ref C, data := .fields (xfs h.objs.size) }, g, d, t, os⟩) :
    wpAny (model prog w) A (Builtin.«type.__call__» ⟨.ref C :: rest, []⟩) Q E ⟨h, g, d, t, os⟩ := by
  have F := PySem.F.excBase_ValueError
  repeat (first | with_reducible refine wpAny_loadPart_at hC ?_ | with_reducible refine wpAny_madeBy_exc hC ?_ | wp_step)
  refine codeAny_call_builtin_code (Code.quiet_builtin _ F.quiet) (xnew_check hC hm (xnew hC hm hrest ?_))
  show wpAny _ _ _ _ _ _
  have up : ∀ b o, h.get? b = some o → ((h.push { cls := .type "tuple", data := .seq rest.toArray }).push { cls := .ref C, data := .fields (xfs h.objs.size) }).get? b = some o := fun b o e => Heap.get?_push_of_some _ (Heap.get?_push_of_some _ e)
  have hC1 := up _ _ hC
  have hget : ((h.push { cls := .type "tuple", data := .seq rest.toArray }).push { cls := .ref C, data := .fields (xfs h.objs.size) }).get? (h.objs.size + 1) = some { cls := .ref C, data := .fields (xfs h.objs.size) } := Heap.get?_push_at (by rw [Heap.size_push]) rfl
  have X1 : K.In ((h.push { cls := .type "tuple", data := .seq rest.toArray }).push { cls := .ref C, data := .fields (xfs h.objs.size) }) := X.keeps up
  have hcC : (Value.ref C :: bm).contains (.ref C) = true := by simp
  unfold isInstance
  repeat (first | with_reducible refine wpAny_loadPart_at hget ?_ | (with_reducible refine wpAny_isSubtype_exc hC1 ?_; rw [hcC]) | wp_step)
  show wpAny _ _ (typeLookup (.ref C) _) _ _ _
  refine (PySem.W.looks_findIn X1 hi).at (wpAny_holding (wpAny_bind ((PySem.W.bind_fn X1 _ (beq_iff_eq.mp hf)).at (wpAny_bind (wpAny_mono hq (fun r s' hr => ?_) fun _ _ z => z)))))
  obtain ⟨rfl, hQ⟩ := hr
  wp_walk
  exact hQ
theorem xcall {K : PySem.W.Frag} {f : Addr} {rest : List Value} {s : Shared} {Q : Value → Shared → Prop} (X : K.In s.heap) (c : XAt K C) (hi : PySem.W.findIn K (.ref C) "__init__" = some (some (.ref f))) (hf : PySem.W.isFn K (.ref f) = true) (hrest : rest.length ≤ sizeLine)
    (hq : wpAny (model prog w) (A.under (.builtin "type.__call__" ⟨.ref C :: rest, []⟩)) (call (.ref f) (.ref (s.heap.objs.size + 1) :: rest)) (fun r s' => r = .none ∧ Q (.ref (s.heap.objs.size + 1)) s') E
      { s with heap := (s.heap.push { cls := .type "tuple", data := .seq rest.toArray }).push { cls := .ref C, data := .fields (xfs s.heap.objs.size) } }) :
    wpAny (model prog w) A (call (.ref C) rest) Q E s := by
  obtain ⟨nm, qn, N, bs, bm, hdct, sn, sub, ab, col, dd, k0, k1, k2, k3, k5, hC, hm⟩ := xc_cls X c.xc
  obtain ⟨h, g, d, t, os⟩ := s
  have f1 := tc_lookup
  have f2 := tc_bind (.ref C)
  have hT : (⟨h, g, d, t, os⟩ : Shared).TypeIs (.ref C) "type" := ⟨_, hC, rfl⟩
  refine wpAny_call (codeAny_of_tree ?_)
  show wpAny _ _ (callAny (.ref C) _) _ _ _
  repeat (any_goals (first | assumption | with_reducible refine wpAny_loadPart_at hC ?_ | wp_step))
  refine ⟨rfl, ?_⟩
  exact codeAny_call_builtin_at (Code.quiet_builtin _ (by decide +kernel)) entry_typeCall (wpAny_check_type_call_sub hC (xtype_call X hC hm hi hf hrest hq))
end
end L2
namespace L2
open PySem PySem.Spec PyProof.Rows
def XN (e C : Addr) (dx : Option Addr) : HO := .ext fun h => ∃ a0, h.get? e = some ⟨.ref C, dx, .fields (xfs a0), #[]⟩
def XO (e C : Addr) (dx : Option Addr) : HO := .ext fun h => ∃ vs, h.get? e = some ⟨.ref C, dx, .fields vs, #[]⟩
theorem XN.ok {P : Program} {w : World} {H : Hp} {h : Heap} {e C a0 : Addr} {dx : Option Addr} (q : h.get? e = some ⟨.ref C, dx, .fields (xfs a0), #[]⟩) : ObjOk P w H h e (XN e C dx) :=
  ⟨⟨a0, q⟩, ⟨_, q⟩, fun _ _ ⟨a, x⟩ k => ⟨a, k _ x⟩⟩
theorem XO.ok {P : Program} {w : World} {H : Hp} {h : Heap} {e C : Addr} {vs : Array Value} {dx : Option Addr} (q : h.get? e = some ⟨.ref C, dx, .fields vs, #[]⟩) : ObjOk P w H h e (XO e C dx) :=
  ⟨⟨vs, q⟩, ⟨_, q⟩, fun _ _ ⟨a, x⟩ k => ⟨a, k _ x⟩⟩
def IsX (H : Hp) (e C : Addr) (dx : Option Addr) : Prop := H e = some (XN e C dx) ∨ H e = some (XO e C dx)
theorem IsX.get {P : Program} {w : World} {H : Hp} {h : Heap} {e C : Addr} {dx : Option Addr} (q : IsX H e C dx) (hok : HOk P w H h) : ∃ vs, h.get? e = some ⟨.ref C, dx, .fields vs, #[]⟩ := by
  rcases q with q | q
  · obtain ⟨⟨a, x⟩, _⟩ := (show ObjOk P w H h e (XN e C dx) from hok e _ q)
    exact ⟨_, x⟩
  · obtain ⟨⟨a, x⟩, _⟩ := (show ObjOk P w H h e (XO e C dx) from hok e _ q)
    exact ⟨_, x⟩
theorem upd_id {H : Hp} {a : Addr} {o : HO} (h : H a = some o) : upd H a o = H := by
  funext b
  unfold upd
  split
  · rename_i e; subst e; exact h.symm
  · rfl
section
variable {X : Cx} {pins : List (Addr × Obj)} {σ : St} {H : Hp} {s : Shared} {e C : Addr} {dx : Option Addr}
theorem xd_get (I : Inv X pins σ H s) {d : Addr} {fs : List (Str × V)} (h : H d = some (.xd fs)) : ∃ (od : Obj) (mA : Str → Option Value), s.heap.get? d = some od ∧ (∀ name, PySem.W.lookIn name od = some (mA name)) ∧ ∀ f, RelO (fs.lookup f) (mA f) := by
  obtain ⟨mA, n, r⟩ := (show ObjOk X.prog X.w H s.heap d (.xd fs) from I.hok d _ h)
  obtain ⟨od, h1, h2⟩ := lookIn_ns n
  exact ⟨od, mA, h1, h2, r⟩
end
section
variable {X : Cx} {pins : List (Addr × Obj)} {σ : St} {H : Hp} {s : Shared} {a d : Addr} {h' : Heap} {o u : HO} {t' : Nat}
theorem Inv.both (I : Inv X pins σ H s) (mu : Mut (H a)) (hd : s.heap.objs.size ≤ d) (k : ∀ b v, b ≠ a → s.heap.get? b = some v → h'.get? b = some v) (ha : ∃ v, h'.get? a = some v)
    (n1 : ObjOk X.prog X.w (upd (upd H d u) a o) h' a o) (n2 : ObjOk X.prog X.w (upd (upd H d u) a o) h' d u) (ne : d ≠ a) : Inv X pins σ (upd (upd H d u) a o) { s with heap := h', toks := t' } := by
  have nd : H d = none := I.hok.fresh hd
  have na : ∀ b q, H b = some q → ¬ Mut (some q) → b ≠ a := fun b q e nm z => by subst z; rw [e] at mu; exact nm mu
  have nn : ∀ b, H b = none → b ≠ a := fun b e z => by subst z; rw [e] at mu; exact mu
  have big : ∀ b v, s.heap.get? b = some v → b ≠ d := fun b v e => Nat.ne_of_lt (Nat.lt_of_lt_of_le (Heap.lt_size e) hd)
  have up : ∀ b q, H b = some q → b ≠ a → upd (upd H d u) a o b = some q := fun b q e n => by rw [upd_ne n, upd_ne (ne_of_none e nd)]; exact e
  refine I.un ⟨fun b v e n _ _ => k b v (nn b n) e, fun b v e n _ _ => ⟨v.slots, k b v (nn b n) e⟩, fun b v e n _ => by rw [upd_ne (nn b n), upd_ne (big b v e)]; exact n, fun b v e _ => ?_, fun b xs e => up b _ e (na b _ e fun z => z), fun b q xs e => up b _ e (na b _ e fun z => z),
    fun b ps e => ⟨#[], by rw [up b _ e (na b _ e fun z => z)]; simp⟩⟩ fun b q e => ?_
  · by_cases hb : b = a
    · subst hb; exact ha
    · exact ⟨v, k b v hb e⟩
  · by_cases hb : b = a
    · subst hb
      rw [upd_same] at e
      cases e
      exact n1
    · rw [upd_ne hb] at e
      by_cases hbd : b = d
      · subst hbd
        rw [upd_same] at e
        cases e
        exact n2
      · rw [upd_ne hbd] at e
        refine (I.hok b q e).stay (fun c v hc r => k c v ?_ r) (fun c r => up c _ r (na c _ r fun z => z)) fun c xs r => up c _ r (na c _ r fun z => z)
        rcases hc with rfl | hc
        · exact hb
        · exact na c _ hc fun z => z
end
def tFldU (K : PySem.W.Frag) (ta : TE) (f : Str) : TE := fun σ H Q => ta σ H fun x H1 => (∃ a C dx fs v, x = .ref a ∧ H1 a = some (.ins C dx fs) ∧ Cls K C ∧ NoAttr K C f ∧ fs.lookup f = some v ∧ Q v H1) ∨
  (∃ a C dx fs v, x = .ref a ∧ IsX H1 a C (some dx) ∧ XAt K C ∧ NoAttr K C f ∧ H1 dx = some (.xd fs) ∧ fs.lookup f = some v ∧ Q v H1)
def sFldU (K : PySem.W.Frag) (ta tv : TE) (f : Str) : TS := fun D σ H => tv σ H fun y H1 => ta σ H1 fun x H2 => (∃ a C dx fs, x = .ref a ∧ H2 a = some (.ins C dx fs) ∧ Cls K C ∧ NoAttr K C f ∧ fs.length < 1000 ∧
    D.nx σ (upd H2 a (.ins C dx (putF f y fs)))) ∨
  (∃ a C, x = .ref a ∧ H2 a = some (XN a C none) ∧ XAt K C ∧ NoAttr K C f ∧ ∀ dx, H2 dx = none → D.nx σ (upd (upd H2 dx (.xd [(f, y)])) a (XN a C (some dx))))
section
variable {X : Cx} {o e value : Expr} {f : Str} {pos pos' : Pos} {ta tv : TE} {K : PySem.W.Frag}
theorem k_fldU (hK : X.K = K) (he : PE X e ta) (hb : attributeBase e f X.env (eval e X.env) = eval e X.env) : PE X (.Attribute e f pos) (tFldU K ta f) := by
  subst hK
  intro pins s σ H Q I h
  refine attr_of hb (thn (he pins s σ H _ I h) fun u s1 ⟨x, H1, I1, rx, hx⟩ => ?_)
  rcases hx with ⟨a, C, dx, fs, v, rfl, ea, c, n, l, q⟩ | ⟨a, C, dx, fs, v, rfl, ea, c, n, hd, l, q⟩
  · obtain rfl : u = Value.ref a := rx
    exact getattr_ok I1 ea c n l fun u' s2 I2 ru => ⟨v, H1, I2, ru, q⟩
  · obtain rfl : u = Value.ref a := rx
    obtain ⟨vs, hx⟩ := ea.get I1.hok
    obtain ⟨od, mA, h1, h2, r⟩ := xd_get I1 hd
    obtain ⟨u', hu, ru⟩ := RelO.some_of (v := v) (o := mA f) (by rw [← l]; exact r f)
    exact xget I1.kIn (od := some od) ⟨hx, rfl, rfl, h1⟩ c (PySem.W.findObj_own c.hd n rfl (by rw [h2, hu])) (handed_of ru) ⟨v, H1, I1.tok _, ru, q⟩
theorem k_sfldU (hK : X.K = K) (ha : PE X o ta) (hv : PE X value tv) (hs : swapsWith value (some (.Attribute o f pos')) pos.line X.env = pure false) : PS X (.Assign [.Attribute o f pos'] value pos) (sFldU K ta tv f) := by
  subst hK
  intro pins s σ H D I h
  refine plainObj_wpAny_Assign_Attribute (thn (hv pins s σ H _ I h) fun u s1 ⟨y, H1, I1, ry, q⟩ => thn (ha pins s1 σ H1 _ I1 q) fun ov s2 ⟨x, H2, I2, rx, hx⟩ => ?_) hs
  rcases hx with ⟨a, C, dx, fs, rfl, ea, c, n, l, q2⟩ | ⟨a, C, rfl, ea, c, n, q2⟩
  · obtain rfl : ov = Value.ref a := rx
    exact setattr_ok I2 ea c n l ry fun s3 I3 => ⟨σ, _, I3, q2⟩
  · obtain rfl : ov = Value.ref a := rx
    obtain ⟨⟨a0, hx⟩, _⟩ := (show ObjOk X.prog X.w H2 s2.heap a (XN a C none) from I2.hok a _ ea)
    refine xset I2.kIn hx c n fun h' g1 g2 g3 => ?_
    have nd : H2 s2.heap.objs.size = none := I2.hok.fresh (Nat.le_refl _)
    have ne : s2.heap.objs.size ≠ a := Nat.ne_of_gt (Heap.lt_size hx)
    refine ⟨σ, _, I2.both (o := XN a C (some s2.heap.objs.size)) (u := .xd [(f, y)]) (by rw [ea]; exact True.intro) (Nat.le_refl _) g3 ⟨_, g1⟩ (XN.ok g1) ⟨_, g2, fun g => ?_⟩ ne, q2 _ nd⟩
    by_cases hg : g = f
    · subst hg
      simp only [List.lookup, beq_self_eq_true, if_true]
      exact ry
    · have hb : (g == f) = false := beq_eq_false_iff_ne.mpr hg
      simp only [List.lookup, hb, if_neg hg]
      exact True.intro
end
def tXMake (C : Addr) (sp : Sp) (E : XK) (t : TA) : TE := fun σ H Q => t σ H fun vs H1 => vs.length ≤ 1000 ∧ ∀ x, H1 x = none → sp (.ref x :: vs) (upd H1 x (XN x C none)) (fun v H2 => v = .non ∧ Q (.ref x) H2) E
structure XMk (K : PySem.W.Frag) (C f : Addr) : Prop where
  at_ : XAt K C
  init : PySem.W.findIn K (.ref C) "__init__" = some (some (.ref f))
  fn : PySem.W.isFn K (.ref f) = true
  kp : PySem.W.keepIn K (.ref C) = true
section
variable {X : Cx} {CX : CXT} {k : Nat} {f C : Addr} {fd : FuncData} {ps : List Str} {sp : Sp} {E : XK} {x m : Str} {p pos apos : Pos} {e o : Expr} {es : List Expr} {ta : TE} {t : TA}
theorem run_xmake {pins : List (Addr × Obj)} {σ : St} {H : Hp} {s : Shared} {Q : VK} {us : List Value} {vs : List V} (M : XMk X.K C f) (F : FnOk X.prog X.w X.K X.mg X.base CX k f fd ps sp) (hr : Room (k + 1) X.A) (hb : Binds X.K fd ps [])
    (hx : Passes CX X E) (I : Inv X pins σ H s) (r : Vals vs us) (hl0 : vs.length ≤ 1000) (h : ∀ x, H x = none → sp (.ref x :: vs) (upd H x (XN x C none)) (fun v H2 => v = .non ∧ Q (.ref x) H2) E) :
    wpAny (model X.prog X.w) X.A (call (.ref C) us) (EP X pins σ Q) X.xe s := by
  have hq := h (s.heap.objs.size + 1) (I.hok.fresh (Nat.le_succ _))
  have up : ∀ b o, s.heap.get? b = some o → ((s.heap.push { cls := .type "tuple", data := .seq us.toArray }).push { cls := .ref C, data := .fields (xfs s.heap.objs.size) }).get? b = some o := fun b o q => Heap.get?_push_of_some _ (Heap.get?_push_of_some _ q)
  have hget : ((s.heap.push { cls := .type "tuple", data := .seq us.toArray }).push { cls := .ref C, data := .fields (xfs s.heap.objs.size) }).get? (s.heap.objs.size + 1) = some ⟨.ref C, none, .fields (xfs s.heap.objs.size), #[]⟩ := Heap.get?_push_at (by rw [Heap.size_push]) rfl
  have I2 := I.laid (a := s.heap.objs.size + 1) (o := XN (s.heap.objs.size + 1) C none) (t' := s.toks) up (Nat.le_succ _) (XN.ok hget)
  have r2 : Vals (V.ref (s.heap.objs.size + 1) :: vs) (Value.ref (s.heap.objs.size + 1) :: us) := .cons rfl r
  have hl : (Value.ref (s.heap.objs.size + 1) :: us ++ []).length = ps.length := by
    have q := r2.length
    rw [F.len _ _ _ _ hq] at q
    rw [List.append_nil]
    exact q.symm
  have hus : us.length ≤ sizeLine := by rw [← r.length]; exact Nat.le_of_lt (small1000 hl0)
  refine xcall I.kIn M.at_ M.init M.fn hus (wpAny_call (codeAny_mono (F.run _ X.stack _ _ ⟨Value.ref (s.heap.objs.size + 1) :: us, []⟩ (Value.ref (s.heap.objs.size + 1) :: us) _ _ E (hr.make C us [])
    (I2.env0.make C us []) (by have z := hb _ (Value.ref (s.heap.objs.size + 1) :: us) I2.kIn hl; rw [List.append_nil] at z; exact z) r2 hq) fun r s' hq' => ?_))
  cases r with
  | error e => exact hx pins σ _ _ e s' I2 hq'
  | ok fl =>
    cases fl with
    | ret u =>
      obtain ⟨v, H', I3, rv, ev, q3⟩ := I2.after hq'
      subst ev
      exact ⟨rv, ⟨V.ref (s.heap.objs.size + 1), H', I3, rfl, q3⟩⟩
    | next => exact False.elim hq'
    | brk => exact False.elim hq'
    | cont => exact False.elim hq'
theorem pe_xmake (M : XMk X.K C f) (F : FnOk X.prog X.w X.K X.mg X.base CX k f fd ps sp) (hr : Room (k + 1) X.A) (hg : Gl X x) (hm : X.mg x = some (.ref C)) (hb : Binds X.K fd ps []) (hx : Passes CX X E)
    (ha : PA X (e :: es) t) (hdb : (x == ("__debug__" : Str)) = false := by decide) (he : starEach (e :: es) X.env = (false, eval e X.env) :: starEach es X.env := by rfl) (hpl : (backTo pos (starEach es X.env)).any (·.1) = false := by rfl) :
    PE X (.Call (.Name x p) (e :: es) [] pos) (tXMake C sp E t) := by
  intro pins s σ H Q I h
  refine wpAny_Call_Name_kw (ld_glob I hg hm ?_ hdb)
  refine PySem.W.callWith_K (h₀ := X.base) I.ok.mod.kin M.kp (thn (ha pos pins s σ H _ I h) fun us s1 ⟨vs, H1, I1, r, z, q⟩ => ⟨I1.kIn, ?_⟩) he hpl
  exact run_xmake M F hr hb hx I1 r z q
structure CMeth (K : PySem.W.Frag) (C : Addr) (m : Str) (f : Addr) : Prop where
  rd : PySem.W.readsIn K C (.type "type") = true
  at_ : PySem.W.findCls K (.ref C) (.type "type") m = some (.val (.ref f))
  ga : PySem.W.specialIn K (.ref C) "__getattribute__" = some (some (.builtin "type.__getattribute__"))
  kp : PySem.W.keepIn K (.ref f) = true
theorem pe_clsm {pl : Sem Bool} (M : CMeth X.K C m f) (F : FnOk X.prog X.w X.K X.mg X.base CX k f fd ps sp) (hr : Room k X.A) (hg : Gl X x) (hm : X.mg x = some (.ref C)) (hb : Binds X.K fd ps []) (hx : Passes CX X E) (ha : PA X (e :: es) t)
    (hdb : (x == ("__debug__" : Str)) = false := by decide) (hst : starEach (e :: es) X.env = (false, eval e X.env) :: starEach es X.env := by rfl) (hpl : (backTo pos (starEach es X.env)).any (·.1) = false := by rfl)
    (ht : eval (.Call (.Attribute (.Name x p) m apos) (e :: es) [] pos) X.env = (do
      let ov ← eval (.Name x p) X.env
      standAt apos.atName
      let (f, first) ← holding [ov] (getMethod ov m pl)
      callWith pos f first (backTo pos (starEach (e :: es) X.env)) (backToKw pos (keywordEach [] X.env))) := by rfl) :
    PE X (.Call (.Attribute (.Name x p) m apos) (e :: es) [] pos) (tCall sp [] E t) := by
  intro pins s σ H Q I h
  refine PySem.W.methodCall_KW (pl := pl) (ld_glob I hg hm ?_ hdb) ht
  refine PySem.W.method_cls I.kIn M.ga (PySem.W.cls_value I.kIn M.rd M.at_ rfl ?_)
  refine PySem.W.callWith_K (first := []) (h₀ := X.base) I.ok.mod.kin M.kp (thn (ha pos pins _ σ H _ (I.tok (s.toks + 1)) h) fun us s2 ⟨vs, H2, I2, r, q2⟩ => ⟨I2.kIn, ?_⟩) hst hpl
  exact run_fn F hr hb .nil hx I2 r q2
end
end L2
namespace L2
open PySem PySem.Spec PyProof.Rows
def tVinit (K : PySem.W.Frag) (t : TA) : TE := fun σ H Q => t σ H fun vs H1 => ∃ a C y, vs = [.ref a, y] ∧ H1 a = some (XN a C none) ∧ XAt K C ∧ Q .non H1
theorem ve_type {M : Model} {h : Heap} : PySem.W.Looks M h (typeOf (.type "ValueError")) (.type "type") := PySem.W.Looks.of_pure (by kernel_rfl)
theorem ve_opaque {M : Model} {h : Heap} : PySem.W.Looks M h (opaqueClassAbove (.type "ValueError")) none := PySem.W.Looks.of_pure (by kernel_rfl)
structure VInit (K : PySem.W.Frag) : Prop where
  ga : PySem.W.findIn K (.type "type") "__getattribute__" = some (some (.builtin "type.__getattribute__"))
  su : PySem.W.subIn K (.type "type") (.type "type") = some true
  at_ : PySem.W.findCls K (.type "ValueError") (.type "type") "__init__" = some (.val (.builtin "ValueError.__init__"))
section
variable {X : Cx} {p pos apos : Pos} {e : Expr} {es : List Expr} {t : TA} {K : PySem.W.Frag}
theorem k_vinit {pl : Sem Bool} (hK : X.K = K) (V : VInit K) (hg : Gl X "ValueError") (hm : X.mg "ValueError" = none) (hv : bootBuiltins "ValueError" = some (.type "ValueError")) (ha : PA X (e :: es) t)
    (hst : starEach (e :: es) X.env = (false, eval e X.env) :: starEach es X.env := by rfl) (hpl : (backTo pos (starEach es X.env)).any (·.1) = false := by rfl)
    (ht : eval (.Call (.Attribute (.Name "ValueError" p) "__init__" apos) (e :: es) [] pos) X.env = (do
      let ov ← eval (.Name "ValueError" p) X.env
      standAt apos.atName
      let (f, first) ← holding [ov] (getMethod ov "__init__" pl)
      callWith pos f first (backTo pos (starEach (e :: es) X.env)) (backToKw pos (keywordEach [] X.env))) := by rfl) :
    PE X (.Call (.Attribute (.Name "ValueError" p) "__init__" apos) (e :: es) [] pos) (tVinit K t) := by
  subst hK
  intro pins s σ H Q I h
  refine PySem.W.methodCall_KW (pl := pl) (ld_blt I hg hm hv ?_) ht
  have hgm : ∀ {Q' : Value × List Value → Shared → Prop}, Q' (.builtin "ValueError.__init__", []) { s with toks := s.toks + 1 } → wpAny (model X.prog X.w) X.A (getMethod (.type "ValueError") "__init__" pl) Q' X.xe s := fun {Q'} q => by
    unfold getMethod
    refine wpAny_bind ((ve_type.andThen (PySem.W.looks_findIn I.kIn V.ga)).here ?_)
    dsimp only
    rw [if_pos PySem.W.canon_tga]
    refine wpAny_bind (PySem.W.cls_open (hook := none) I.kIn ve_opaque ve_type V.ga (PySem.W.Looks.now) V.su V.at_ (wpAny_pure ?_))
    show wpAny _ _ (handedOut _) _ _ _
    exact PySem.W.handed_on rfl (wpAny_pure q)
  refine hgm ?_
  have hA := ha pos pins _ σ H _ (I.tok (s.toks + 1)) h
  rw [hst] at hA ⊢
  refine Calls.callWith_builtin (by show (false || (backTo pos (starEach es X.env)).any (·.1)) = false; rw [hpl] <;> rfl) (Calls.evalArgs_plain ?_)
  refine thn hA fun us s2 ⟨vs, H2, I2, r2, a, C, y, e1, ea, c, q⟩ => ?_
  subst e1
  obtain ⟨u, v, rfl, ru, rv⟩ := vals2 r2
  cases ru
  obtain ⟨⟨a0, hx⟩, _⟩ := (show ObjOk X.prog X.w H2 s2.heap a (XN a C none) from I2.hok a _ ea)
  refine xbase_init I2.kIn hx c fun h' a1 g1 g2 => ?_
  have J := I2.write (x := a) (e := a) (o := XN a C none) (t' := s2.toks) (by rw [ea]; exact True.intro) (.inl rfl) g2 ⟨_, g1⟩ (XN.ok g1)
  rw [upd_id ea] at J
  exact ⟨.non, H2, J, rfl, q⟩
end
end L2
namespace L2
open PySem PySem.Spec PyProof.Rows
structure Keep (fs zs : List Addr) (h h' : Heap) : Prop where
  keep : ∀ b o, h.get? b = some o → b ∉ zs → b ∉ fs → h'.get? b = some o
  slot : ∀ b o, h.get? b = some o → b ∉ zs → b ∈ fs → ∃ sl, h'.get? b = some { o with slots := sl }
structure Trc (h : Heap) (e : Addr) (C : Value) (dx : Option Addr) (T : Addr) (fl : Value) : Prop where
  ex : ∃ vs, h.get? e = some ⟨C, dx, .fields vs, #[]⟩ ∧ vs[1]? = some (.ref T)
  tb : ∃ ts, h.get? T = some ⟨.type "traceback", none, .fields ts, #[]⟩ ∧ ts[3]? = some fl
  ne : T ≠ e
section
variable {M : Model} {A : Around} {E : Value → Shared → Prop} {s : Shared} {base : Heap} {env : Env} {outer : List Env} {L e : Addr} {C : Value} {dx : Option Addr} {vs : Array Value}
theorem xentry {head : Value} {had : Bool} {Q : Unit → Shared → Prop} (hfr : A.frames = some (env :: outer)) (hl : s.heap.FunFrames base (env :: outer)) (hf : env.frame = some L) (he : s.heap.get? e = some ⟨C, dx, .fields vs, #[]⟩) (hsz : 1 < vs.size)
    (h : ∀ h' T, s.heap.objs.size ≤ T → Trc h' e C dx T (rawInt L) → Keep (frs (env :: outer)) [e] s.heap h' → Q () { s with heap := h' }) :
    wpAny M A (do let a ← frameOf env; let pl ← entryPlaceOf L had; let b ← EntryCells.newEntry head a .none (rawInt L) .none pl; setField (.ref e) 1 b) Q E s := by
  have hene : e ∉ frs (env :: outer) := fun hm => by
    obtain ⟨_, o, ho, hnf⟩ := hl.mem hm
    rw [he] at ho
    cases ho
    exact hnf vs rfl
  refine wpAny_bind (wpAny_frameOf_fun hfr hl hf fun h₁ hs => wpAny_bind (wpAny_entryPlaceOf fun pl hpl => ?_))
  unfold EntryCells.newEntry newFields
  refine wpAny_bind (wpAny_newObj_type ?_ (hpl.sizeOk5 _ _ _ _ _))
  have he1 : h₁.get? e = some ⟨C, dx, .fields vs, #[]⟩ := (hs.2.1 e hene).trans he
  generalize hts : ([head, .ref L, .none, rawInt L, .none] ++ (if pl.isEmpty then List.replicate 6 Value.none else pl)).toArray = ts
  have h3 : ts[3]? = some (rawInt L) := by rw [← hts]; first | (simp; done) | (rcases hpl with rfl | ⟨_, _, _, _, _, _, _, rfl⟩ <;> simp)
  have he2 := Heap.get?_push_of_some (h := h₁) { cls := .type "traceback", dict := none, data := .fields ts } he1
  have hTe : h₁.objs.size ≠ e := Nat.ne_of_gt (Heap.lt_size he1)
  refine wpAny_setField he2 rfl hsz (h _ h₁.objs.size (Nat.le_of_eq hs.1.symm) ⟨⟨vs.setIfInBounds 1 (.ref h₁.objs.size), ?_, by simp [hsz]⟩, ⟨ts, ?_, h3⟩, hTe⟩ ⟨fun b o q hb hn => ?_, fun b o q hb hn => ?_⟩)
  · rw [Heap.get?_update_self _ he2 rfl]
    rfl
  · rw [Heap.get?_update_other _ _ (Ne.symm hTe)]
    exact Heap.get?_push_size h₁ rfl
  · have hbe : b ≠ e := fun z => hb (by simp [z])
    rw [Heap.get?_update_other _ _ (Ne.symm hbe)]
    exact Heap.get?_push_of_some _ ((hs.2.1 b hn).trans q)
  · have hbe : b ≠ e := fun z => hb (by simp [z])
    obtain ⟨sl, z⟩ := hs.2.2 b o q
    exact ⟨sl, by rw [Heap.get?_update_other _ _ (Ne.symm hbe)]; exact Heap.get?_push_of_some _ z⟩
theorem xnote_new {Q : Unit → Shared → Prop} (hfr : A.frames = some (env :: outer)) (hl : s.heap.FunFrames base (env :: outer)) (hf : env.frame = some L) (he : s.heap.get? e = some ⟨C, dx, .fields vs, #[]⟩) (h1 : vs[1]? = some .none)
    (h : ∀ h' T, s.heap.objs.size ≤ T → Trc h' e C dx T (rawInt L) → Keep (frs (env :: outer)) [e] s.heap h' → Q () { s with heap := h' }) : wpAny M A (noteFrame (.ref e) env) Q E s := by
  unfold noteFrame
  simp only [hf]
  refine wpAny_bind (wpAny_field he rfl h1 ?_)
  rw [if_neg (by decide)]
  exact xentry hfr hl hf he (Array.getElem?_eq_some_iff.mp h1).1 h
theorem xnote_on {T : Addr} {Q : Unit → Shared → Prop} (hfr : A.frames = some (env :: outer)) (hl : s.heap.FunFrames base (env :: outer)) (hf : env.frame = some L) (t : Trc s.heap e C dx T .none)
    (h : ∀ h' T', s.heap.objs.size ≤ T' → Trc h' e C dx T' (rawInt L) → Keep (frs (env :: outer)) [e, T] s.heap h' → Q () { s with heap := h' }) : wpAny M A (noteFrame (.ref e) env) Q E s := by
  obtain ⟨⟨vs, he, h1⟩, ⟨ts, hT, h3⟩, hne⟩ := t
  unfold noteFrame
  simp only [hf]
  refine wpAny_bind (wpAny_field he rfl h1 ?_)
  rw [if_pos (show (Value.ref T != Value.none) = true from by simp)]
  refine wpAny_bind (wpAny_field hT rfl h3 ?_)
  rw [if_neg (show ¬ ((Value.none == rawInt L) = true) from by simp [rawInt])]
  refine wpAny_bind (wpAny_setField hT rfl (Array.getElem?_eq_some_iff.mp h3).1 ?_)
  have other : ∀ b, b ≠ T → (s.heap.update T (Obj.mapFields (·.setIfInBounds 3 Value.none))).get? b = s.heap.get? b := fun b hb => Heap.get?_update_other _ _ (Ne.symm hb)
  have szu : (s.heap.update T (Obj.mapFields (·.setIfInBounds 3 Value.none))).objs.size = s.heap.objs.size := Heap.size_after_update ..
  refine xentry (s := { s with heap := s.heap.update T (Obj.mapFields (·.setIfInBounds 3 Value.none)) }) hfr (hl.of_keeps fun b o hb hnf => ?_) hf ((other e (Ne.symm hne)).trans he) (Array.getElem?_eq_some_iff.mp h1).1 fun h' T' hs t' k => ?_
  · have nb : b ≠ T := fun q => by rw [q, hT] at hb; cases hb; exact hnf ts rfl
    exact ⟨o, (other b nb).trans hb, rfl⟩
  · refine h h' T' (by rw [← szu]; exact hs) t' ⟨fun b o q hb hn => ?_, fun b o q hb hn => ?_⟩
    · have nb : b ≠ T := fun z => hb (by simp [z])
      exact k.keep b o ((other b nb).trans q) (fun z => hb (by simp only [List.mem_singleton] at z; simp [z])) hn
    · have nb : b ≠ T := fun z => hb (by simp [z])
      exact k.slot b o ((other b nb).trans q) (fun z => hb (by simp only [List.mem_singleton] at z; simp [z])) hn
theorem xflight {T : Addr} {fl : Value} {Q : Unit → Shared → Prop} (t : Trc s.heap e C dx T fl) (h : ∀ h', Trc h' e C dx T .none → (∀ b o, b ≠ T → s.heap.get? b = some o → h'.get? b = some o) → h'.objs.size = s.heap.objs.size → Q () { s with heap := h' }) :
    wpAny M A (setFlight (.ref e) none) Q E s := by
  obtain ⟨⟨vs, he, h1⟩, ⟨ts, hT, h3⟩, hne⟩ := t
  have h3' : 3 < ts.size := (Array.getElem?_eq_some_iff.mp h3).1
  unfold setFlight
  refine wpAny_bind (wpAny_field he rfl h1 ?_)
  rw [if_pos (show (Value.ref T != Value.none) = true from by simp)]
  refine wpAny_setField hT rfl h3' (h _ ⟨⟨vs, ?_, h1⟩, ⟨ts.setIfInBounds 3 .none, ?_, by simp [h3']⟩, hne⟩ (fun b o hb q => ?_) (Heap.size_after_update ..))
  · rw [Heap.get?_update_other _ _ hne]
    exact he
  · rw [Heap.get?_update_self _ hT rfl]
    rfl
  · rw [Heap.get?_update_other _ _ (Ne.symm hb)]
    exact q
end
end L2
namespace L2
open PySem PySem.Spec PyProof.Rows
def CX1 (P : Program) (w : World) : CXT := fun outer H s E ev s' => ∃ (a C : Addr) (dx : Option Addr) (T : Addr) (H' : Hp), ev = .ref a ∧ s'.os = s.os ∧ AllBare s'.gens ∧ Un (frs outer) [] H H' s.heap s'.heap ∧ HOk P w H' s'.heap ∧
  H' a = some (XO a C dx) ∧ Trc s'.heap a (.ref C) dx T .none ∧ s.heap.objs.size ≤ T ∧ H' T = none ∧ E (.ref C) dx H'
section
variable {X : Cx} {pins : List (Addr × Obj)} {σ : St} {H : Hp} {s : Shared}
theorem hok_keep {a C T : Addr} {dx : Option Addr} {h' : Heap} {fl : Value} {zs : List Addr} (I : Inv X pins σ H s) (ha : H a = some (XO a C dx)) (k : Keep (frs X.stack) zs s.heap h') (hz : ∀ b ∈ zs, b = a ∨ H b = none) (t : Trc h' a (.ref C) dx T fl) : HOk X.prog X.w H h' := fun b u e => by
  by_cases hb : b = a
  · subst hb
    rw [ha] at e
    cases e
    obtain ⟨vs, q, _⟩ := t.ex
    exact XO.ok q
  · have nz : ∀ c o, H c = some o → c ≠ a → c ∉ zs ∧ c ∉ frs X.stack := fun c o q n => ⟨fun z => (hz c z).elim n fun y => (by rw [y] at q; cases q), fun z => (by have y := I.stkFree c z; rw [y] at q; cases q)⟩
    refine (I.hok b u e).stay (fun c v hc r => ?_) (fun _ q => q) fun _ _ q => q
    rcases hc with rfl | hc
    · exact k.keep c v r (nz c _ e hb).1 (nz c _ e hb).2
    · have n : c ≠ a := fun z => by rw [z, ha] at hc; cases hc
      exact k.keep c v r (nz c _ hc n).1 (nz c _ hc n).2
theorem un_out {a C T : Addr} {dx : Option Addr} {h' : Heap} {fl : Value} {zs : List Addr} (I : Inv X pins σ H s) (hex : X.ex = []) (ha : H a = some (XO a C dx)) (k : Keep (frs X.stack) zs s.heap h') (hz : ∀ b ∈ zs, b = a ∨ X.s₀.heap.objs.size ≤ b) (t : Trc h' a (.ref C) dx T fl) :
    Un X.fs [] X.H₀ H X.s₀.heap h' := by
  have B := I.base
  rw [hex] at B
  have low : ∀ b o, X.s₀.heap.get? b = some o → b ≠ X.env.locals := fun b o e => Nat.ne_of_lt (Nat.lt_of_lt_of_le (Heap.lt_size e) I.ok.above)
  have nz : ∀ b o, X.s₀.heap.get? b = some o → b ≠ a → b ∉ zs := fun b o e n z => (hz b z).elim n fun y => absurd (Nat.lt_of_lt_of_le (Heap.lt_size e) y) (Nat.lt_irrefl _)
  have na : ∀ b, H b = none → b ≠ a := fun b n z => by rw [z, ha] at n; cases n
  have nfs : ∀ b o, X.s₀.heap.get? b = some o → b ∉ X.fs → b ∉ frs X.stack := fun b o e n z => (List.mem_cons.mp (I.stkSub b z)).elim (low b o e) n
  refine ⟨fun b o e n hb hx => ?_, fun b o e n hb hx => ?_, B.free, fun b o e hx => ?_, B.tups, B.frzs, B.tbls⟩
  · exact k.keep b o (B.keep b o e n hb hx) (nz b o e (na b (B.free b o e n hx))) (nfs b o e hb)
  · obtain ⟨sl, q⟩ := B.slot b o e n hb hx
    have zz := nz b o e (na b (B.free b o e n hx))
    by_cases hs : b ∈ frs X.stack
    · obtain ⟨sl2, q2⟩ := k.slot b _ q zz hs
      exact ⟨sl2, q2⟩
    · exact ⟨sl, k.keep b _ q zz hs⟩
  · obtain ⟨o', q⟩ := B.there b o e hx
    by_cases hb : b = a
    · subst hb
      obtain ⟨vs, z, _⟩ := t.ex
      exact ⟨_, z⟩
    · have zz := nz b o e hb
      by_cases hs : b ∈ frs X.stack
      · obtain ⟨sl2, q2⟩ := k.slot b _ q zz hs
        exact ⟨_, q2⟩
      · exact ⟨o', k.keep b _ q zz hs⟩
end
structure XOk (X : Cx) (EK : St → XK) : Prop where
  pass : ∀ (pins : List (Addr × Obj)) (σ : St) (H : Hp) (s : Shared) (e : Value) (s' : Shared), Inv X pins σ H s → CX1 X.prog X.w X.stack H s (EK σ) e s' → X.xe e s'
  rais : ∀ (pins : List (Addr × Obj)) (σ : St) (H : Hp) (s : Shared) (a C : Addr) (dx : Option Addr), Inv X pins σ H s → H a = some (XN a C dx) → EK σ (.ref C) dx (upd H a (XO a C dx)) → X.xe (.ref a) s
  calm : X.calm = true
section
variable {P : Program} {w : World} {K : PySem.W.Frag} {mg : Str → Option Value} {base : Heap} {N : List Str} {qual : Str} {scope : Scope} {f : Addr} {cd : Value} {A : Around} {outer : List Env} {s0 : Shared} {H0 : Hp} {E : XK}
theorem xok_fn : XOk (cxOf (CX1 P w) P w K mg base N qual scope f cd A outer s0 H0 E) fun _ => E where
  calm := rfl
  pass := by
    intro pins σ H s ev s' I hx
    obtain ⟨a, C, dx, T, H', rfl, hos, hbr, un, hok, ha, t, hT, hTn, q⟩ := hx
    have J := I.call' (s' := s') (H' := H') (ch := []) hos un hok hbr (fun b z => absurd z (by simp))
    show wpAny _ _ (leaving _ _) _ _ _
    unfold leaving
    refine wpAny_bind (xnote_on (base := base) J.ok.frames J.stack rfl t fun h' T' hs t' k => ?_)
    refine xflight (s := { s' with heap := h' }) t' fun h2 t2 k2 sz2 => ?_
    have hz0 : s0.heap.objs.size ≤ s.heap.objs.size := I.sz
    have J2 := J.sz
    have kk : Keep (frs (envOfC qual scope s0.heap.objs.size f cd :: outer)) [a, T, T'] s'.heap h2 := by
      refine ⟨fun b o e z n => ?_, fun b o e z n => ?_⟩
      · simp only [List.mem_cons, List.not_mem_nil, or_false, not_or] at z
        exact k2 b o z.2.2 (k.keep b o e (by simp [z.1, z.2.1]) n)
      · simp only [List.mem_cons, List.not_mem_nil, or_false, not_or] at z
        obtain ⟨sl, y⟩ := k.slot b o e (by simp [z.1, z.2.1]) n
        exact ⟨sl, k2 b _ z.2.2 y⟩
    have nT' : H' T' = none := J.hok.fresh hs
    refine ⟨a, C, dx, T', H', rfl, J.os, hbr, un_out J rfl ha kk (fun b hb => ?_) t2, hok_keep J ha kk (fun b hb => ?_) t2, ha, t2, Nat.le_trans J2 hs, nT', q⟩
    · simp only [List.mem_cons, List.not_mem_nil, or_false] at hb
      rcases hb with rfl | rfl | rfl
      · exact .inl rfl
      · exact .inr (Nat.le_trans hz0 hT)
      · exact .inr (Nat.le_trans J2 hs)
    · simp only [List.mem_cons, List.not_mem_nil, or_false] at hb
      rcases hb with rfl | rfl | rfl
      · exact .inl rfl
      · exact .inr hTn
      · exact .inr nT'
  rais := by
    intro pins σ H s a C dx I e q
    obtain ⟨⟨a0, hx⟩, _⟩ := (show ObjOk _ _ H s.heap a (XN a C dx) from I.hok a _ e)
    have J : Inv _ pins σ (upd H a (XO a C dx)) s := I.write (x := a) (e := a) (o := XO a C dx) (h' := s.heap) (t' := s.toks) (by rw [e]; exact True.intro) (.inl rfl) (fun _ _ _ q => q) ⟨_, hx⟩ (XO.ok hx)
    show wpAny _ _ (leaving _ _) _ _ _
    unfold leaving
    refine wpAny_bind (xnote_new (base := base) J.ok.frames J.stack rfl hx rfl fun h' T' hs t' k => ?_)
    refine xflight (s := { s with heap := h' }) t' fun h2 t2 k2 sz2 => ?_
    have J2 := J.sz
    have ha : upd H a (XO a C dx) a = some (XO a C dx) := upd_same
    have kk : Keep (frs (envOfC qual scope s0.heap.objs.size f cd :: outer)) [a, T'] s.heap h2 := by
      refine ⟨fun b o e z n => ?_, fun b o e z n => ?_⟩
      · simp only [List.mem_cons, List.not_mem_nil, or_false, not_or] at z
        exact k2 b o z.2 (k.keep b o e (by simp [z.1]) n)
      · simp only [List.mem_cons, List.not_mem_nil, or_false, not_or] at z
        obtain ⟨sl, y⟩ := k.slot b o e (by simp [z.1]) n
        exact ⟨sl, k2 b _ z.2 y⟩
    have nT' : upd H a (XO a C dx) T' = none := J.hok.fresh hs
    refine ⟨a, C, dx, T', _, rfl, J.os, J.bare, un_out J rfl ha kk (fun b hb => ?_) t2, hok_keep J ha kk (fun b hb => ?_) t2, ha, t2, Nat.le_trans J2 hs, nT', q⟩
    · simp only [List.mem_cons, List.not_mem_nil, or_false] at hb
      rcases hb with rfl | rfl
      · exact .inl rfl
      · exact .inr (Nat.le_trans J2 hs)
    · simp only [List.mem_cons, List.not_mem_nil, or_false] at hb
      rcases hb with rfl | rfl
      · exact .inl rfl
      · exact .inr nT'
end
def tRaise (K : PySem.W.Frag) (EK : St → XK) (te : TE) : TS := fun _ σ H => te σ H fun x H1 => ∃ a C dx, x = .ref a ∧ H1 a = some (XN a C dx) ∧ XAt K C ∧ EK σ (.ref C) dx (upd H1 a (XO a C dx))
section
variable {X : Cx} {EK : St → XK} {e : Expr} {te : TE} {pos : Pos} {K : PySem.W.Frag}
theorem xraise {M : Model} {A : Around} {E : Value → Shared → Prop} {env : Env} {s : Shared} {x : Sem Value} {Q : Flow → Shared → Prop} (hh : A.handled = none)
    (h : wpAny M A x (fun v s1 => ∃ a C dx a0, v = .ref a ∧ K.In s1.heap ∧ XAt K C ∧ s1.heap.get? a = some ⟨.ref C, dx, .fields (xfs a0), #[]⟩ ∧ E (.ref a) s1) E s) : wpAny M A (raiseStmt env (some x) none) Q E s := by
  unfold raiseStmt
  refine wpAny_bind (wpAny_mono h (fun v s1 h1 => ?_) fun _ _ z => z)
  obtain ⟨a, C, dx, a0, rfl, kin, c, he, hE⟩ := h1
  obtain ⟨nm, qn, N, bs, bm, hdct, sn, sub, ab, col, dd, k0, k1, k2, k3, k5, hC, hm⟩ := xc_cls kin c.xc
  have hcB : (Value.ref C :: bm).contains (.type "BaseException") = true := by rw [List.contains_cons, xMro_has hm (by simp), Bool.or_true]
  obtain ⟨hp, g, d, tk, os⟩ := s1
  repeat (first | with_reducible refine wpAny_loadPart_at he ?_ | with_reducible refine wpAny_loadPart_at hC ?_ | (with_reducible refine wpAny_isSubtype_exc hC ?_; rw [hcB]) | wp_step)
  exact wpAny_raiseNew_none hh hE
theorem k_raise (hK : X.K = K) (XX : XOk X EK) (he : PE X e te) : PS X (.Raise (some e) none pos) (tRaise K EK te) := by
  subst hK
  intro pins s σ H D I h
  rw [arm_exec_Raise]
  refine wpAny_bind (wpAny_standAt (xraise (K := X.K) (I.ok.hd XX.calm) ?_))
  refine wpAny_bind (thn (he pins s σ H _ I h) fun v s1 ⟨x, H1, I1, rx, a, C, dx, ex, ea, c, q⟩ => wpAny_bind (wpAny_standAt (wpAny_pure ?_)))
  subst ex
  cases rx
  obtain ⟨⟨a0, hx⟩, _⟩ := (show ObjOk _ _ H1 s1.heap a (XN a C dx) from I1.hok a _ ea)
  exact ⟨a, C, dx, a0, rfl, I1.kIn, c, hx, XX.rais pins σ H1 s1 a C dx I1 ea q⟩
end
end L2
namespace L2
open PySem PySem.Spec PyProof.Rows
def tCallS (sp : Sp) (EK : St → XK) (t : TA) : TE := fun σ H Q => t σ H fun vs H1 => sp vs H1 Q (EK σ)
def tMethS (C : Addr) (m : Str) (sp : Sp) (EK : St → XK) (ta : TE) (t : TA) : TE := fun σ H Q => ta σ H fun x H1 => ∃ a dx fs, x = .ref a ∧ H1 a = some (.ins C dx fs) ∧ fs.lookup m = none ∧ t σ H1 fun vs H2 => sp (x :: vs) H2 Q (EK σ)
def tMakeS (C : Addr) (sp : Sp) (EK : St → XK) (t : TA) : TE := fun σ H Q => t σ H fun vs H1 => ∀ x dx, H1 x = none → H1 dx = none → dx ≠ x →
  sp (.ref x :: vs) (upd (upd H1 dx (.own x)) x (.ins C dx [])) (fun v H2 => v = .non ∧ Q (.ref x) H2) (EK σ)
theorem FnOk.quiet {P : Program} {w : World} {K : PySem.W.Frag} {mg : Str → Option Value} {base : Heap} {k : Nat} {f : Addr} {fd : FuncData} {ps : List Str} {sp : Sp} (F : FnOk P w K mg base (CX1 P w) k f fd ps sp) :
    FnOk P w K mg base CX0 k f fd ps (fun vs H Q _ => sp vs H Q E0) := by
  refine ⟨fun vs H Q E h => F.len vs H Q E0 h, fun A outer s H args us vs Q E hr he hb hv hs => codeAny_mono (F.run A outer s H args us vs Q E0 hr he hb hv hs) fun r s' q => ?_⟩
  cases r with
  | ok fl => cases fl <;> exact q
  | error e =>
    obtain ⟨_, _, _, _, _, _, _, _, _, _, _, _, _, _, z⟩ := q
    exact z.elim
structure MethOk (P : Program) (w : World) (K : PySem.W.Frag) (mg : Str → Option Value) (base : Heap) (CX : CXT) (k : Nat) (C : Addr) (m : Str) (ps : List Str) (sp : Sp) : Prop where
  ex : ∃ f fd, FnOk P w K mg base CX k f fd ps sp ∧ Meth K C m f ∧ Binds K fd ps []
  cl : Cls K C
structure MakeOk (P : Program) (w : World) (K : PySem.W.Frag) (mg : Str → Option Value) (base : Heap) (CX : CXT) (k : Nat) (C : Addr) (x : Str) (ps : List Str) (sp : Sp) : Prop where
  ex : ∃ f fd, FnOk P w K mg base CX k f fd ps sp ∧ Mk K C f ∧ Binds K fd ps []
  mg_ : mg x = some (.ref C)
structure XMakeOk (P : Program) (w : World) (K : PySem.W.Frag) (mg : Str → Option Value) (base : Heap) (k : Nat) (C : Addr) (x : Str) (ps : List Str) (sp : Sp) : Prop where
  ex : ∃ f fd, FnOk P w K mg base CX0 k f fd ps sp ∧ XMk K C f ∧ Binds K fd ps []
  mg_ : mg x = some (.ref C)
section
variable {X : Cx} {EK : St → XK} {k : Nat} {f C : Addr} {fd : FuncData} {ps : List Str} {sp : Sp} {x m : Str} {p pos apos : Pos} {e o : Expr} {es : List Expr} {ta : TE} {t : TA}
theorem run_fnS {pins : List (Addr × Obj)} {σ : St} {H : Hp} {s : Shared} {Q : VK} {us : List Value} {vs : List V} (F : FnOk X.prog X.w X.K X.mg X.base (CX1 X.prog X.w) k f fd ps sp) (hr : Room k X.A) (hb : Binds X.K fd ps []) (XX : XOk X EK)
    (I : Inv X pins σ H s) (r : Vals vs us) (h : sp vs H Q (EK σ)) : wpAny (model X.prog X.w) X.A (call (.ref f) us) (EP X pins σ Q) X.xe s := by
  have hl : (us ++ []).length = ps.length := by rw [List.append_nil, ← r.length]; exact F.len _ _ _ _ h
  have b := hb s us I.kIn hl
  rw [List.append_nil] at b
  refine wpAny_call (codeAny_mono (F.run X.A X.stack s H ⟨us, []⟩ us vs Q (EK σ) hr I.env0 b r h) fun r s' hq => ?_)
  cases r with
  | error e => exact XX.pass pins σ H s e s' I hq
  | ok fl =>
    cases fl with
    | ret u => exact I.after hq
    | _ => exact False.elim hq
theorem pe_defS (D : DefOk X.prog X.w X.K X.mg X.base (CX1 X.prog X.w) k x ps sp) (hr : Room k X.A) (XX : XOk X EK) (ha : PA X (e :: es) t) (hg : Gl X x := by rfl) (hdb : (x == ("__debug__" : Str)) = false := by decide)
    (he : starEach (e :: es) X.env = (false, eval e X.env) :: starEach es X.env := by rfl) (hpl : (backTo pos (starEach es X.env)).any (·.1) = false := by rfl) : PE X (.Call (.Name x p) (e :: es) [] pos) (tCallS sp EK t) := by
  obtain ⟨f, fd, F, hm, hk, hb⟩ := D.ex
  intro pins s σ H Q I h
  refine wpAny_Call_Name_kw (ld_glob I hg hm ?_ hdb)
  refine PySem.W.callWith_K (h₀ := X.base) I.ok.mod.kin hk (thn (ha pos pins s σ H _ I h) fun us s1 ⟨vs, H1, I1, r, q⟩ => ⟨I1.kIn, ?_⟩) he hpl
  exact run_fnS F hr hb XX I1 r q
theorem pe_methS {pl : Sem Bool} (D : MethOk X.prog X.w X.K X.mg X.base (CX1 X.prog X.w) k C m ps sp) (hr : Room k X.A) (XX : XOk X EK) (he : PE X o ta) (ha : PA X (e :: es) t)
    (hst : starEach (e :: es) X.env = (false, eval e X.env) :: starEach es X.env := by rfl) (hpl : (backTo pos (starEach es X.env)).any (·.1) = false := by rfl)
    (ht : eval (.Call (.Attribute o m apos) (e :: es) [] pos) X.env = (do
      let ov ← eval o X.env
      standAt apos.atName
      let (f, first) ← holding [ov] (getMethod ov m pl)
      callWith pos f first (backTo pos (starEach (e :: es) X.env)) (backToKw pos (keywordEach [] X.env))) := by rfl) :
    PE X (.Call (.Attribute o m apos) (e :: es) [] pos) (tMethS C m sp EK ta t) := by
  obtain ⟨f, fd, F, hm, hb⟩ := D.ex
  intro pins s σ H Q I h
  refine PySem.W.methodCall_KW (pl := pl) (thn (he pins s σ H _ I h) fun u s1 ⟨x, H1, I1, rx, a, dx, fs, ex, ea, l, q⟩ => ?_) ht
  subst ex
  obtain rfl : u = Value.ref a := rx
  refine getmeth_ok I1 ea D.cl hm l ?_
  refine PySem.W.callWith_K (first := [.ref a]) (h₀ := X.base) I.ok.mod.kin hm.kp (thn (ha pos pins s1 σ H1 _ I1 q) fun us s2 ⟨vs, H2, I2, r, q2⟩ => ⟨I2.kIn, ?_⟩) hst hpl
  exact run_fnS (us := .ref a :: us) (vs := .ref a :: vs) F hr hb XX I2 (.cons rfl r) q2
theorem pe_xm (D : XMakeOk X.prog X.w X.K X.mg X.base k C x ps sp) (hr : Room (k + 1) X.A) (ha : PA X (e :: es) t) (hg : Gl X x := by rfl) (hdb : (x == ("__debug__" : Str)) = false := by decide)
    (he : starEach (e :: es) X.env = (false, eval e X.env) :: starEach es X.env := by rfl) (hpl : (backTo pos (starEach es X.env)).any (·.1) = false := by rfl) : PE X (.Call (.Name x p) (e :: es) [] pos) (tXMake C sp E0 t) := by
  obtain ⟨f, fd, F, M, hb⟩ := D.ex
  exact pe_xmake M F hr hg D.mg_ hb pass0 ha hdb he hpl
theorem pe_methQ {pl : Sem Bool} (D : MethOk X.prog X.w X.K X.mg X.base CX0 k C m ps sp) (hr : Room k X.A) (he : PE X o ta) (ha : PA X (e :: es) t)
    (hst : starEach (e :: es) X.env = (false, eval e X.env) :: starEach es X.env := by rfl) (hpl : (backTo pos (starEach es X.env)).any (·.1) = false := by rfl)
    (ht : eval (.Call (.Attribute o m apos) (e :: es) [] pos) X.env = (do
      let ov ← eval o X.env
      standAt apos.atName
      let (f, first) ← holding [ov] (getMethod ov m pl)
      callWith pos f first (backTo pos (starEach (e :: es) X.env)) (backToKw pos (keywordEach [] X.env))) := by rfl) :
    PE X (.Call (.Attribute o m apos) (e :: es) [] pos) (tMeth C m sp [] E0 ta t) := by
  obtain ⟨f, fd, F, hm, hb⟩ := D.ex
  exact pe_meth (pl := pl) he D.cl hm F hr hb .nil pass0 ha hst hpl ht
theorem pe_meth0Q {pl : Sem Bool} (D : MethOk X.prog X.w X.K X.mg X.base CX0 k C m ps sp) (hr : Room k X.A) (he : PE X o ta)
    (ht : eval (.Call (.Attribute o m apos) [] [] pos) X.env = (do
      let ov ← eval o X.env
      standAt apos.atName
      let (f, first) ← holding [ov] (getMethod ov m pl)
      callWith pos f first (backTo pos (starEach [] X.env)) (backToKw pos (keywordEach [] X.env))) := by rfl) :
    PE X (.Call (.Attribute o m apos) [] [] pos) (tMeth C m sp [] E0 ta tNil) := by
  obtain ⟨f, fd, F, hm, hb⟩ := D.ex
  exact pe_meth0 (pl := pl) he D.cl hm F hr hb .nil pass0 ht
end
section
variable {P : Program} {w : World} {K : PySem.W.Frag} {mg : Str → Option Value} {base : Heap}
theorem Fun.ok1 {x qual : Str} {st : Stmt} {f : Addr} {fd : FuncData} {N ps : List Str} {k : Nat} {sp : Sp} (F : Fun K x qual st f fd) (S : FnScope N ps (defScope st)) (len : ∀ vs H Q E, sp vs H Q E → vs.length = ps.length)
    (hbody : ∀ (cdv : Value) (A : Around) (outer : List Env) (s : Shared) (H : Hp) (vs : List V) (Q : VK) (E : XK), Room k (A.deeper (envOfC qual (defScope st) s.heap.objs.size f cdv)) → sp vs H Q E →
      ∃ t, PSs (cxOf (CX1 P w) P w K mg base N qual (defScope st) f cdv A outer s H E) (defBody st) t ∧ t { nx := fun _ H' => Q .non H', rt := Q } (start N vs) H) : FnOk P w K mg base (CX1 P w) (k + 1) f fd ps sp := by
  obtain ⟨oc, od, kV, doc, pm, an, cdv, ct, osl, rfl, lk, hcd⟩ := F.ex
  exact fn_of lk hcd S len fun A outer s H vs Q E hr hsp => hbody cdv A outer s H vs Q E hr hsp
end
end L2
namespace L2
open PySem PySem.Spec PyProof.Rows
abbrev Cx.tried (X : Cx) (pn : List (Addr × Obj)) (E : Value → Shared → Prop) : Cx := { X with pn := pn, xe := E }
abbrev Cx.hand (X : Cx) (a : Addr) : Cx := { X with A := X.A.mark (some (.ref a)), calm := false, xe := fun _ _ => False }
section
variable {X : Cx} {pins pins' : List (Addr × Obj)} {σ : St} {H : Hp} {s : Shared} {E : Value → Shared → Prop} {a : Addr}
theorem Inv.tried (I : Inv X pins σ H s) (E : Value → Shared → Prop) : Inv (X.tried (X.pn ++ pins) E) [] σ H s :=
  ⟨⟨I.ok.mod, I.ok.kind, I.ok.glob, I.ok.blt, I.ok.above, I.ok.inj, I.ok.has, I.ok.cab, I.ok.hd, I.ok.frames, I.ok.stk, I.ok.exf, I.ok.bs, I.ok.bsz, I.ok.noex, I.ok.exfs, I.ok.funs, I.ok.frf⟩, I.os, I.bare, I.base, I.loc, I.cell, I.free, I.freeC,
    fun p hp => I.pin p (by have hp : p ∈ (X.pn ++ pins) ++ [] := hp; rw [List.append_nil] at hp; exact hp), I.hok, I.len⟩
theorem Inv.untried (I : Inv (X.tried (X.pn ++ pins) E) pins' σ H s) : Inv X pins σ H s :=
  ⟨⟨I.ok.mod, I.ok.kind, I.ok.glob, I.ok.blt, I.ok.above, I.ok.inj, I.ok.has, I.ok.cab, I.ok.hd, I.ok.frames, I.ok.stk, I.ok.exf, I.ok.bs, I.ok.bsz, I.ok.noex, I.ok.exfs, I.ok.funs, I.ok.frf⟩, I.os, I.bare, I.base, I.loc, I.cell, I.free, I.freeC,
    fun p hp => I.pin p (List.mem_append_left _ hp), I.hok, I.len⟩
theorem Inv.hand (I : Inv X pins σ H s) (a : Addr) : Inv (X.hand a) pins σ H s :=
  ⟨⟨I.ok.mod, I.ok.kind, I.ok.glob, I.ok.blt, I.ok.above, I.ok.inj, I.ok.has, I.ok.cab, (fun h => nomatch h), I.ok.frames, I.ok.stk, I.ok.exf, I.ok.bs, I.ok.bsz, I.ok.noex, I.ok.exfs, I.ok.funs, I.ok.frf⟩, I.os, I.bare, I.base, I.loc, I.cell, I.free, I.freeC, I.pin, I.hok, I.len⟩
theorem Inv.unhand (hc : X.calm = true → X.A.handled = none) (I : Inv (X.hand a) pins σ H s) : Inv X pins σ H s :=
  ⟨⟨I.ok.mod, I.ok.kind, I.ok.glob, I.ok.blt, I.ok.above, I.ok.inj, I.ok.has, I.ok.cab, hc, I.ok.frames, I.ok.stk, I.ok.exf, I.ok.bs, I.ok.bsz, I.ok.noex, I.ok.exfs, I.ok.funs, I.ok.frf⟩, I.os, I.bare, I.base, I.loc, I.cell, I.free, I.freeC, I.pin, I.hok, I.len⟩
structure Loose (X : Cx) (pins : List (Addr × Obj)) (H : Hp) (T : Addr) : Prop where
  hn : H T = none
  lo : X.s₀.heap.objs.size ≤ T
  nl : T ≠ X.env.locals
  nf : T ∉ X.fs
  nc : ∀ x c, X.env.cells.lookup x = some c → c ≠ T
  np : ∀ p ∈ X.pn ++ pins, p.1 ≠ T
theorem Inv.loose (I : Inv X pins σ H s) {T : Addr} (hT : s.heap.objs.size ≤ T) {H' : Hp} (hn : H' T = none) : Loose X pins H' T where
  hn := hn
  lo := Nat.le_trans I.sz hT
  nl := Nat.ne_of_gt (Nat.lt_of_lt_of_le I.lt hT)
  nf := I.nofs hT
  nc := fun x c e => by
    obtain ⟨v, o, ho, _⟩ := I.cell x c e
    exact Nat.ne_of_lt (Nat.lt_of_lt_of_le (Heap.lt_size ho) hT)
  np := fun p hp => Nat.ne_of_lt (Nat.lt_of_lt_of_le (Heap.lt_size (I.pin p hp).1) hT)
theorem Inv.noted {C T : Addr} {dx : Option Addr} {fl : Value} {zs : List Addr} {h' : Heap} (I : Inv X pins σ H s) (ha : H a = some (XO a C dx)) (k : Keep (frs X.stack) zs s.heap h') (hz : ∀ b ∈ zs, b = a ∨ Loose X pins H b) (t : Trc h' a (.ref C) dx T fl) :
    Inv X pins σ H { s with heap := h' } := by
  have hh := hok_keep I ha k (fun b hb => (hz b hb).imp (fun e => e) fun l => l.hn) t
  have nz : ∀ b, H b = none → b ∉ zs.filter (fun b => decide (b ≠ a)) → b ∉ zs := fun b n z y => z (List.mem_filter.mpr ⟨y, decide_eq_true fun e => by rw [e, ha] at n; cases n⟩)
  refine I.call (g' := s.gens) (t' := s.toks) (d' := s.drawn) (ch := zs.filter fun b => decide (b ≠ a)) ⟨fun b o e n hb hx => k.keep b o e (nz b n hx) hb, fun b o e n hb hx => k.slot b o e (nz b n hx) hb, fun _ _ _ n _ => n, fun b o e hx => ?_, fun _ _ e => e, fun _ _ _ e => e,
    fun b ps e => ⟨#[], by rw [e]; simp⟩⟩ hh I.bare fun b hb => ?_
  · by_cases hba : b = a
    · subst hba
      obtain ⟨vs, q, _⟩ := t.ex
      exact ⟨_, q⟩
    · have z : b ∉ zs := fun y => hx (List.mem_filter.mpr ⟨y, decide_eq_true hba⟩)
      by_cases hs : b ∈ frs X.stack
      · obtain ⟨sl, q⟩ := k.slot b o e z hs
        exact ⟨_, q⟩
      · exact ⟨o, k.keep b o e z hs⟩
  · obtain ⟨y, q⟩ := List.mem_filter.mp hb
    rcases hz b y with e | l
    · exact absurd e (of_decide_eq_true q)
    · exact ⟨.inr l.lo, l.nl, l.nc, l.np⟩
theorem unbind_ok {M : Model} {A : Around} {i : Nat} {x : Str} {v : V} {Q : Unit → Shared → Prop} (I : Inv X pins σ H s) (hN : X.N.Nodup) (hi : X.N[i]? = some x) (hx : X.env.scope.names.lookup x = some .local) (hv : σ[i]? = some (some v))
    (h : ∀ s', Inv X pins (σ.set i none) H s' → Q () s') : wpAny M A (unbindName X.env x) Q E s := by
  obtain ⟨m, hn, hl⟩ := id I.loc
  obtain ⟨u, ru, lk⟩ := hl i x v hi hv (.inl hx)
  have hm : m x = some u := by
    rcases lk with ⟨_, e⟩ | ⟨k, _⟩
    · exact e
    · have k' : X.env.scope.names.lookup x = some .cell ∨ X.env.scope.names.lookup x = some .free := k
      rw [hx] at k'
      rcases k' with z | z <;> cases z
  have hcls : (X.env.scope.kind == .class || (X.env.scope.kind == .module && X.env.locals != X.env.globals)) = false := by rw [I.ok.kind]; rfl
  refine wpAny_unbindName_local hx hn hm hcls fun h' u' hn' hs => ?_
  have lowL : ∀ b o, X.s₀.heap.get? b = some o → b ≠ X.env.locals := fun b o e => Nat.ne_of_lt (Nat.lt_of_lt_of_le (Heap.lt_size e) I.ok.above)
  refine h _ ⟨I.ok, I.os, I.bare, ⟨fun b o e n hb hx => ?_, fun b o e n hb hx => ?_, I.base.free, fun b o e hx => ?_, I.base.tups, I.base.frzs, I.base.tbls⟩, ⟨_, hn', fun j y v' e1 e2 e3 => ?_⟩, fun y c e => ?_, I.free, I.freeC, fun p hp => ?_, fun b ob e => ?_, by simpa using I.len⟩
  · exact (hs.2 b (lowL b o e)).trans (I.base.keep b o e n hb hx)
  · obtain ⟨sl, e1⟩ := I.base.slot b o e n hb hx
    exact ⟨sl, (hs.2 b (lowL b o e)).trans e1⟩
  · obtain ⟨o', e1⟩ := I.base.there b o e hx
    exact ⟨o', (hs.2 b (lowL b o e)).trans e1⟩
  · by_cases hj : j = i
    · subst hj
      have hlt : j < σ.length := by rw [I.len]; exact (List.getElem?_eq_some_iff.mp hi).1
      rw [List.getElem?_set_self hlt] at e2
      cases e2
    · rw [List.getElem?_set_ne (Ne.symm hj)] at e2
      obtain ⟨w', r', q⟩ := hl j y v' e1 e2 e3
      refine ⟨w', r', ?_⟩
      rcases q with ⟨k, e⟩ | ⟨k, c, e, z⟩
      · have ny : y ≠ x := fun e => hj (nodup_ix hN e1 (e ▸ hi))
        exact .inl ⟨k, by simp [ny, e]⟩
      · exact .inr ⟨k, c, e, z.sameBut hs (I.cne y c e)⟩
  · obtain ⟨w', z⟩ := I.cell y c e
    exact ⟨w', z.sameBut hs (I.cne y c e)⟩
  · obtain ⟨e, n, ne, nf, d⟩ := I.pin p hp
    exact ⟨(hs.2 p.1 ne).trans e, n, ne, nf, d⟩
  · refine (I.hok b ob e).stay (fun c w' hc q => (hs.2 c ?_).trans q) (fun _ q => q) fun _ _ q => q
    rintro rfl
    rcases hc with rfl | hc
    · rw [I.free] at e; cases e
    · rw [I.free] at hc; cases hc
end
end L2
namespace L2
open PySem PySem.Spec PyProof.Rows
structure Held (X : Cx) (pins : List (Addr × Obj)) (H : Hp) (h : Heap) (a C : Addr) (dx : Option Addr) : Prop where
  at_ : H a = some (XO a C dx)
  tr : ∃ T, Trc h a (.ref C) dx T .none ∧ Loose X pins H T
def PH (X : Cx) (a C : Addr) (dx : Option Addr) (hs : List ExceptHandler) (th : TS) : Prop :=
  ∀ (pins : List (Addr × Obj)) (s : Shared) (σ : St) (H : Hp) (D : Ends), Inv X pins σ H s → Held X pins H s.heap a C dx → th D σ H → wpAny (model X.prog X.w) X.A (handleBy (.ref a) X.env hs) (SP X pins D) X.xe s
def thNil : TS := fun _ _ _ => False
def thAs (K : PySem.W.Frag) (a C D : Addr) (i : Nat) (tb rest : TS) : TS := fun Z σ H => ∃ b, PySem.W.mroIn K C (.ref D) = some b ∧ XAt K D ∧ XAt K C ∧
  if b = true then tb { nx := fun σ' H' => Z.nx (σ'.set i none) H', rt := Z.rt, bk := fun σ' H' => Z.bk (σ'.set i none) H', ct := fun σ' H' => Z.ct (σ'.set i none) H' } (σ.set i (some (.ref a))) H else rest Z σ H
theorem xmatch {M : Model} {A : Around} {E : Value → Shared → Prop} {s : Shared} {K : PySem.W.Frag} {a C D : Addr} {o : Obj} {b : Bool} {Q : Bool → Shared → Prop} (X : K.In s.heap) (ho : s.heap.get? a = some o) (hc : o.cls = .ref C) (d : XAt K D) (hb : PySem.W.mroIn K C (.ref D) = some b) (q : Q b s) :
    wpAny M A (excMatches (.ref a) (.ref D)) Q E s := by
  obtain ⟨nm, qn, N, bs, bm, hdct, sn, sub, ab, col, dd, k0, k1, k2, k3, k5, hD, hm⟩ := xc_cls X d.xc
  have hcB : (Value.ref D :: bm).contains (.type "BaseException") = true := by rw [List.contains_cons, xMro_has hm (by simp), Bool.or_true]
  have f := tc_notTuple
  have L := PySem.W.looks_mroIn (M := M) X hb
  obtain ⟨hp, g, dr, tk, os⟩ := s
  unfold excMatches
  repeat (first | with_reducible refine wpAny_loadPart_at hD ?_ | (with_reducible refine wpAny_loadPart_at ho ?_; rw [hc]) | (with_reducible refine wpAny_isSubtype_exc hD ?_; rw [hcB]) | with_reducible refine L.at ?_ | wp_step)
  cases b <;> (wp_walk; exact q)
section
variable {X : Cx} {a C D : Addr} {dx : Option Addr} {c n : Str} {cp pos : Pos} {b0 : Stmt} {body : List Stmt} {rest : List ExceptHandler} {tb tr : TS} {i : Nat} {K : PySem.W.Frag}
theorem ph_nil : PH X a C dx [] thNil := fun _ _ _ _ _ _ _ h => h.elim
theorem suite_as {prog : Program} {w : World} {A : Around} {R : Result → Shared → Prop} {s : Shared} {env : Env} {e : Value}
    (h : wpAny (model prog w) A (setFlight e none) (fun _ s1 => wpAny (model prog w) A (bindName env n e) (fun _ s2 => wpAny (model prog w) A (execs (b0 :: body) env) (fun f s3 => R (.ok f) s3) (fun _ _ => False) s2) (fun _ _ => False) s1) (fun _ _ => False) s) :
    codeAny (model prog w) A (.handlers e [.ExceptHandler none (some n) (b0 :: body) pos] env) R s := by
  refine codeAny_of_tree ?_
  show wpAny _ A (do return Fin.done (← (handleWith e env [.ExceptHandler none (some n) (b0 :: body) pos]).onRaise (fun x => do noteFrame x env; theTreesLotGoes x))) _ _ s
  refine wpAny_bind (wpAny_noted ?_)
  unfold handleWith
  refine wpAny_bind (wpAny_standAt (wpAny_bind (wpAny_mono h (fun _ s1 h1 => wpAny_bind (wpAny_mono h1 (fun _ s2 h2 => wpAny_bind (wpAny_attempt (wpAny_mono h2 (fun f s3 h3 => wpAny_pure (wpAny_pure h3)) fun _ _ z => z.elim))) fun _ _ z => z.elim)) fun _ _ z => z.elim)))
theorem ph_as (hK : X.K = K) (hN : X.N.Nodup) (hi : X.N[i]? = some n) (hx : X.env.scope.names.lookup n = some .local) (hg : Gl X c) (hm : X.mg c = some (.ref D)) (hb : PSs (X.hand a) (b0 :: body) tb) (hr : PH X a C dx rest tr)
    (hdb : (c == ("__debug__" : Str)) = false := by decide) : PH X a C dx (.ExceptHandler (some (.Name c cp)) (some n) (b0 :: body) pos :: rest) (thAs K a C D i tb tr) := by
  subst hK
  intro pins s σ H Z I hl h
  obtain ⟨b, hb1, xd, xc, q⟩ := h
  obtain ⟨vs, he⟩ := (show IsX H a C dx from .inr hl.at_).get I.hok
  refine wpAny_handleBy_cons (codeAny_handlers_test ?_) (by intro q; cases q)
  have Ih := I.hand a
  refine ld_glob (X := X.hand a) Ih hg hm (xmatch I.kIn he rfl xd hb1 ?_) hdb
  cases b with
  | false => exact hr pins s σ H Z I hl q
  | true =>
    obtain ⟨T, t, lo⟩ := hl.tr
    refine suite_as (xflight t fun h1 t1 k1 sz1 => ?_)
    have kk : Keep (frs X.stack) [T] s.heap h1 := ⟨fun b o e z _ => k1 b o (by simpa using z) e, fun b o e z _ => ⟨o.slots, k1 b o (by simpa using z) e⟩⟩
    have I1 := I.noted hl.at_ kk (fun b hb => .inr (by rw [List.mem_singleton.mp hb]; exact lo)) t1
    have I2 := I1.hand a
    refine wpAny_bindName (store_ok (X := X.hand a) I2 hN hi (.inl hx) (v := .ref a) rfl (fun s2 I3 => ?_) (.inr hx))
    have q' : tb { nx := fun σ' H' => Z.nx (σ'.set i none) H', rt := Z.rt, bk := fun σ' H' => Z.bk (σ'.set i none) H', ct := fun σ' H' => Z.ct (σ'.set i none) H' } (σ.set i (some (.ref a))) H := q
    refine thn (hb pins s2 _ H _ I3 q') fun f s3 hf => ?_
    have fin : ∀ {σ' : St} {H' : Hp} {Q : Unit → Shared → Prop}, Inv (X.hand a) pins σ' H' s3 → (∀ s4, Inv X pins (σ'.set i none) H' s4 → Q () s4) → wpAny (model X.prog X.w) X.A (do bindName X.env n .none; unbindBehindTheSuite X.env n pos) Q X.xe s3 := fun {σ' H' Q} J k => by
      have J' := Inv.unhand I.ok.hd J
      have hlt : i < σ'.length := by rw [J'.len]; exact (List.getElem?_eq_some_iff.mp hi).1
      refine wpAny_bind (wpAny_bindName (store_ok J' hN hi (.inl hx) (v := .non) rfl (fun s4 J4 => ?_) (.inr hx)))
      refine wpAny_onRaise (unbind_ok J4 hN hi hx (v := .non) (by rw [List.getElem?_set_self hlt]) fun s5 J5 => k s5 ?_)
      rw [List.set_set] at J5
      exact J5
    cases f with
    | next => obtain ⟨σ', H', J, z⟩ := hf; exact fin J fun s4 J4 => ⟨_, H', J4, z⟩
    | brk => obtain ⟨σ', H', J, z⟩ := hf; exact fin J fun s4 J4 => ⟨_, H', J4, z⟩
    | cont => obtain ⟨σ', H', J, z⟩ := hf; exact fin J fun s4 J4 => ⟨_, H', J4, z⟩
    | ret u => obtain ⟨v, σ', H', J, r, z⟩ := hf; exact fin J fun s4 J4 => ⟨v, _, H', J4, r, z⟩
end
end L2
namespace L2
open PySem PySem.Spec PyProof.Rows
def tTry (X : Cx) (body : List Stmt) (hs : List ExceptHandler) (te : TS) : TS := fun D σ H => ∃ (EK : St → XK) (tb : TS), (∀ pn xe, XOk (X.tried pn xe) EK → PSs (X.tried pn xe) body tb) ∧
  tb { nx := te D, rt := D.rt, bk := D.bk, ct := D.ct } σ H ∧ ∀ (a C : Addr) (dx : Option Addr) (σ' : St) (H' : Hp), EK σ' (.ref C) dx H' → H' a = some (XO a C dx) → ∃ th, PH X a C dx hs th ∧ th D σ' H'
section
variable {X : Cx} {body orelse : List Stmt} {h0 : ExceptHandler} {hs : List ExceptHandler} {pos : Pos} {te : TS}
theorem ps_try (hc : X.calm = true) (hst : X.stack = X.env :: X.outer) (hfr : X.env.frame = some X.env.locals) (ho : PSs X orelse te) : PS X (.Try body (h0 :: hs) orelse [] pos) (tTry X body (h0 :: hs) te) := by
  intro pins s σ H D I h
  obtain ⟨EK, tb, hb, q, hh⟩ := h
  have hfs : X.A.frames = some (X.env :: X.outer) := by rw [← hst]; exact I.ok.frames
  let xe' : Value → Shared → Prop := fun e s1 => ∃ (a C : Addr) (dx : Option Addr) (σ' : St) (H' : Hp), e = .ref a ∧ Inv X pins σ' H' s1 ∧ H' a = some (XO a C dx) ∧ EK σ' (.ref C) dx H' ∧
    ((∃ T, Trc s1.heap a (.ref C) dx T .none ∧ Loose X pins H' T) ∨ ∃ a0, s1.heap.get? a = some ⟨.ref C, dx, .fields (xfs a0), #[]⟩)
  have XX : XOk (X.tried (X.pn ++ pins) xe') EK := by
    refine ⟨fun pins' σ' H1 s1 e s2 J hx => ?_, fun pins' σ' H1 s1 a C dx J e z => ?_, hc⟩
    · obtain ⟨a, C, dx, T, H', rfl, hos, hbr, un, hok, ha, t, hT, hTn, z⟩ := hx
      have J1 := J.call' (s' := s2) (H' := H') (ch := []) hos un hok hbr (fun b z => absurd z (by simp))
      have J0 := Inv.untried J
      exact ⟨a, C, dx, σ', H', rfl, Inv.untried J1, ha, z, .inl ⟨T, t, J0.loose hT hTn⟩⟩
    · have J0 := Inv.untried J
      obtain ⟨⟨a0, hx⟩, _⟩ := (show ObjOk _ _ H1 s1.heap a (XN a C dx) from J0.hok a _ e)
      have J1 : Inv X pins σ' (upd H1 a (XO a C dx)) s1 := J0.write (x := a) (e := a) (o := XO a C dx) (h' := s1.heap) (t' := s1.toks) (by rw [e]; exact True.intro) (.inl rfl) (fun _ _ _ q => q) ⟨_, hx⟩ (XO.ok hx)
      exact ⟨a, C, dx, σ', _, rfl, J1, upd_same, z, .inr ⟨a0, hx⟩⟩
  have B := hb (X.pn ++ pins) xe' XX [] s σ H _ (I.tried xe') q
  refine wpAny_Try_except (wpAny_mono B (fun f s1 hf => ?_) fun e s1 he => ?_)
  · cases f with
    | next => obtain ⟨σ', H', J, z⟩ := hf; exact ho pins s1 σ' H' D (Inv.untried J) z
    | brk => obtain ⟨σ', H', J, z⟩ := hf; exact ⟨σ', H', Inv.untried J, z⟩
    | cont => obtain ⟨σ', H', J, z⟩ := hf; exact ⟨σ', H', Inv.untried J, z⟩
    | ret u => obtain ⟨v, σ', H', J, r, z⟩ := hf; exact ⟨v, σ', H', Inv.untried J, r, z⟩
  · obtain ⟨a, C, dx, σ', H', rfl, J, ha, z, tt⟩ := he
    obtain ⟨th, hp, hq⟩ := hh a C dx σ' H' z ha
    have stk : s1.heap.FunFrames X.base (X.env :: X.outer) := by rw [← hst]; exact J.stack
    have go : ∀ (h' : Heap) (T' : Addr) (zs : List Addr), s1.heap.objs.size ≤ T' → Trc h' a (.ref C) dx T' (rawInt X.env.locals) → Keep (frs (X.env :: X.outer)) zs s1.heap h' → (∀ b ∈ zs, b = a ∨ Loose X pins H' b) →
        wpAny (model X.prog X.w) X.A (setFlight (.ref a) none) (fun _ s3 => wpAny (model X.prog X.w) X.A (handleBy (.ref a) X.env (h0 :: hs)) (SP X pins D) X.xe s3) X.xe { s1 with heap := h' } := fun h' T' zs hs' t' k hz => by
      have lo := J.loose hs' (J.hok.fresh hs')
      have J1 := J.noted ha (by rw [hst]; exact k) hz t'
      refine xflight (s := { s1 with heap := h' }) t' fun h2 t2 k2 sz2 => ?_
      have kk : Keep (frs X.stack) [T'] h' h2 := ⟨fun b o e z _ => k2 b o (by simpa using z) e, fun b o e z _ => ⟨o.slots, k2 b o (by simpa using z) e⟩⟩
      have J2 := J1.noted ha kk (fun b hb => .inr (by rw [List.mem_singleton.mp hb]; exact lo)) t2
      exact hp pins _ σ' H' D J2 ⟨ha, T', t2, lo⟩ hq
    rcases tt with ⟨T, t, lo⟩ | ⟨a0, hx⟩
    · refine xnote_on (base := X.base) hfs stk hfr t fun h' T' hs' t' k => go h' T' _ hs' t' k fun b hb => ?_
      simp only [List.mem_cons, List.not_mem_nil, or_false] at hb
      rcases hb with rfl | rfl
      · exact .inl rfl
      · exact .inr lo
    · refine xnote_new (base := X.base) hfs stk hfr hx rfl fun h' T' hs' t' k => go h' T' _ hs' t' k fun b hb => ?_
      exact .inl (List.mem_singleton.mp hb)
end
end L2
namespace L2
open PySem PySem.Spec PyProof.Rows
def TyX (K : PySem.W.Frag) (H : Hp) (x : V) (t : Value) : Prop := TyOf K H x t ∨ ∃ a C dx, x = .ref a ∧ t = .ref C ∧ IsX H a C dx ∧ XAt K C ∧ ∀ d, dx = some d → ∃ fs, H d = some (.xd fs)
theorem TyX.kit {X : Cx} {pins : List (Addr × Obj)} {σ : St} {H : Hp} {s : Shared} {x : V} {u t : Value} (I : Inv X pins σ H s) (rx : RelV x u) (ty : TyX X.K H x t) : ∃ P : Heap → Prop, PySem.W.KitX X.K u t P ∧ P s.heap ∧ u ≠ .builtin "__main__.__loader__#opaque" := by
  rcases ty with ty | ⟨a, C, dx, rfl, rfl, hx, c, hd⟩
  · exact ty.kit I rx
  · cases rx
    obtain ⟨vs, he⟩ := hx.get I.hok
    cases dx with
    | none => exact ⟨_, kitx_exc (od := none) c, ⟨he, rfl, rfl, True.intro⟩, fun z => nomatch z⟩
    | some d =>
      obtain ⟨fs, hf⟩ := hd d rfl
      obtain ⟨od, mA, h1, _⟩ := xd_get I hf
      exact ⟨_, kitx_exc (od := some od) c, ⟨he, rfl, rfl, h1⟩, fun z => nomatch z⟩
def rIsiU (K : PySem.W.Frag) : List V → Hp → VK → Prop := fun xs H Q => ∃ x y t c b, xs = [x, y] ∧ TyX K H x t ∧ clsVal y = some c ∧ PySem.W.kitOne K t c = some b ∧ Q (.bl b) H
def rIsiTU (K : PySem.W.Frag) : List V → Hp → VK → Prop := fun xs H Q => ∃ x p ys t cs b, xs = [x, .ref p] ∧ TyX K H x t ∧ H p = some (.tup ys) ∧ ys.map clsVal = cs.map some ∧ PySem.W.kitAny K t cs = some b ∧ Q (.bl b) H
section
variable {X : Cx} {K : PySem.W.Frag}
theorem k_isiU (hK : X.K = K) : CallR X (.builtin "isinstance") (rIsiU K) := by
  subst hK
  intro pins s σ H xs us Q I r h
  obtain ⟨x, y, t, c, b, rfl, ty, hy, hb, q⟩ := h
  obtain ⟨u, v, rfl, ru, rv⟩ := vals2 r
  have e := clsVal_rel hy rv
  subst e
  obtain ⟨P, Z, p, ne⟩ := ty.kit I ru
  exact PySem.W.kia_one Z I.kIn p hb ne fun tk => ⟨.bl b, H, I.tok tk, rfl, q⟩
theorem k_isiTU (hK : X.K = K) : CallR X (.builtin "isinstance") (rIsiTU K) := by
  subst hK
  intro pins s σ H xs us Q I r h
  obtain ⟨x, p, ys, t, cs, b, rfl, ty, hp, hy, hb, q⟩ := h
  obtain ⟨u, v, rfl, ru, rv⟩ := vals2 r
  cases rv
  obtain ⟨P, Z, pz, ne⟩ := ty.kit I ru
  obtain ⟨_, its, rv, o, ho, hc, n, hd⟩ := (show ObjOk X.prog X.w H s.heap p (.tup ys) from I.hok p _ hp)
  have e := clsVals_rel hy rv
  subst e
  obtain ⟨c, dd, dt, sl⟩ := o
  have hc' : c = .type "tuple" := hc
  have hd' : dt = .seq its.toArray n := hd
  subst hc' hd'
  exact PySem.W.kia_tup Z I.kIn pz ho hb ne fun tk => ⟨.bl b, H, I.tok tk, rfl, q⟩
end
mutual
inductive EqD (K : PySem.W.Frag) (H : Hp) : Nat → V → V → Bool → Prop
  | flat {n : Nat} {x y : V} (fx : flatV x = true) (fy : flatV y = true) : EqD K H n x y (eqV x y)
  | self {n : Nat} {a : Addr} : EqD K H n (.ref a) (.ref a) true
  | deep {n : Nat} {a b : Addr} {k : Bool} (h : EqT K H n a b k) (ne : a ≠ b) : EqD K H n (.ref a) (.ref b) k
inductive EqT (K : PySem.W.Frag) (H : Hp) : Nat → Addr → Addr → Bool → Prop
  | lst {n : Nat} {a b : Addr} {xs ys : List V} {e : Nat → Bool} (ha : SqL K H a xs) (hb : SqL K H b ys) (hl : xs.length = ys.length) (he : ∀ j x y, xs[j]? = some x → ys[j]? = some y → EqD K H n x y (e j)) : EqT K H (n + 1) a b ((List.range xs.length).all e)
  | lstL {n : Nat} {a b : Addr} {xs ys : List V} (ha : SqL K H a xs) (hb : SqL K H b ys) (hl : xs.length ≠ ys.length) : EqT K H (n + 1) a b false
  | tup {n : Nat} {a b : Addr} {xs ys : List V} {e : Nat → Bool} (ha : SqT K H a xs) (hb : SqT K H b ys) (he : ∀ j x y, xs[j]? = some x → ys[j]? = some y → EqD K H n x y (e j)) : EqT K H (n + 1) a b ((List.range (min xs.length ys.length)).all e && xs.length == ys.length)
  | lt {n : Nat} {a b : Addr} {xs ys : List V} (ha : SqL K H a xs) (hb : SqT K H b ys) : EqT K H (n + 1) a b false
  | tl {n : Nat} {a b : Addr} {xs ys : List V} (ha : SqT K H a xs) (hb : SqL K H b ys) : EqT K H (n + 1) a b false
end
theorem vals_getU : ∀ {xs : List V} {us : List Value} {j : Nat} {u : Value}, Vals xs us → us[j]? = some u → ∃ x, xs[j]? = some x ∧ RelV x u
  | _, _, _, _, .nil, e => by simp at e
  | _, _, 0, _, .cons r _, e => by simp at e; subst e; exact ⟨_, rfl, r⟩
  | _, _, j + 1, u, .cons _ t, e => by
    obtain ⟨x, h1, h2⟩ := vals_getU (j := j) (u := u) t (by simpa using e)
    exact ⟨x, by simpa using h1, h2⟩
section
variable {X : Cx} {pins : List (Addr × Obj)} {σ : St} {H : Hp} {s : Shared}
theorem eq_both (I : Inv X pins σ H s) : ∀ n, (∀ (A : Around) (x y : V) (k : Bool) (u v : Value), EqD X.K H n x y k → RelV x u → RelV y v → A.units + n < cLine → SeqAt.EqAt A s u v k) ∧ (∀ (A : Around) (a b : Addr) (k : Bool), EqT X.K H n a b k → A.units + n < cLine → SeqAt.RcAt A s (.ref a) (.ref b) k) := by
  intro n
  induction n with
  | zero =>
    have t0 : ∀ (A : Around) (a b : Addr) (k : Bool), EqT X.K H 0 a b k → A.units + 0 < cLine → SeqAt.RcAt A s (.ref a) (.ref b) k := fun A a b k h => by cases h
    refine ⟨fun A x y k u v h rx ry hu => ?_, t0⟩
    cases h with
    | flat fx fy => exact eqAt_V rx ry fx fy
    | self => cases rx; cases ry; exact SeqAt.EqAt.same _
    | deep h ne => cases h
  | succ n ih =>
    have t1 : ∀ (A : Around) (a b : Addr) (k : Bool), EqT X.K H (n + 1) a b k → A.units + (n + 1) < cLine → SeqAt.RcAt A s (.ref a) (.ref b) k := fun A a b k h hu => by
      have hu0 : A.units < cLine := by omega
      have hu1 : A.in1.units + n < cLine := by show A.units + 1 + n < cLine; omega
      cases h with
      | @lst _ _ _ xs ys e ha hb hl he =>
        obtain ⟨its, r, pl, hz⟩ := I.list ha
        obtain ⟨its2, r2, pl2, hz2⟩ := I.list hb
        have e1 : xs.length = its.toArray.size := by rw [List.size_toArray]; exact r.length
        have e2 : ys.length = its2.toArray.size := by rw [List.size_toArray]; exact r2.length
        rw [e1]
        refine SeqAt.RcAt.lists pl.isList pl2.isList (by rw [← e1, ← e2, hl]) hu0 fun j h1 h2 => ?_
        have g1 : its[j]? = some its.toArray[j] := by simp
        have g2 : its2[j]? = some its2.toArray[j] := by simp
        obtain ⟨x, hx, rx⟩ := vals_getU r g1
        obtain ⟨y, hy, ry⟩ := vals_getU r2 g2
        exact ih.1 A.in1 x y (e j) _ _ (he j x y hx hy) rx ry hu1
      | @lstL _ _ _ xs ys ha hb hl =>
        obtain ⟨its, r, pl, hz⟩ := I.list ha
        obtain ⟨its2, r2, pl2, hz2⟩ := I.list hb
        refine SeqAt.RcAt.lists_lengths pl.isList pl2.isList ?_ hu0
        rw [List.size_toArray, List.size_toArray, ← r.length, ← r2.length]
        simp [hl]
      | @tup _ _ _ xs ys e ha hb he =>
        obtain ⟨its, r, pl, hz⟩ := I.tuple ha
        obtain ⟨its2, r2, pl2, hz2⟩ := I.tuple hb
        have e1 : xs.length = its.toArray.size := by rw [List.size_toArray]; exact r.length
        have e2 : ys.length = its2.toArray.size := by rw [List.size_toArray]; exact r2.length
        rw [e1, e2]
        refine SeqAt.RcAt.tuples pl pl2 hu0 fun j h1 h2 => ?_
        have g1 : its[j]? = some its.toArray[j] := by simp
        have g2 : its2[j]? = some its2.toArray[j] := by simp
        obtain ⟨x, hx, rx⟩ := vals_getU r g1
        obtain ⟨y, hy, ry⟩ := vals_getU r2 g2
        exact ih.1 A.in1 x y (e j) _ _ (he j x y hx hy) rx ry hu1
      | lt ha hb =>
        obtain ⟨its, r, pl, hz⟩ := I.list ha
        obtain ⟨its2, r2, pl2, hz2⟩ := I.tuple hb
        exact SeqAt.RcAt.list_tuple pl.isList pl2 hu0
      | tl ha hb =>
        obtain ⟨its, r, pl, hz⟩ := I.tuple ha
        obtain ⟨its2, r2, pl2, hz2⟩ := I.list hb
        exact SeqAt.RcAt.tuple_list pl pl2.isList hu0
    refine ⟨fun A x y k u v h rx ry hu => ?_, t1⟩
    cases h with
    | flat fx fy => exact eqAt_V rx ry fx fy
    | self => cases rx; cases ry; exact SeqAt.EqAt.same _
    | deep h ne => cases rx; cases ry; exact SeqAt.EqAt.of_refs ne (t1 A _ _ k h hu)
theorem ne_refs (I : Inv X pins σ H s) {n : Nat} {A : Around} {a b : Addr} {k : Bool} (h : EqT X.K H n a b k) (hu : A.units + n < cLine) : SeqAt.RcNeAt A s (.ref a) (.ref b) (!k) := by
  cases n with
  | zero => cases h
  | succ n =>
    have ih := eq_both I n
    have hu0 : A.units < cLine := by omega
    have hu1 : A.in1.units + n < cLine := by show A.units + 1 + n < cLine; omega
    cases h with
    | @lst _ _ _ xs ys e ha hb hl he =>
      obtain ⟨its, r, pl, hz⟩ := I.list ha
      obtain ⟨its2, r2, pl2, hz2⟩ := I.list hb
      have e1 : xs.length = its.toArray.size := by rw [List.size_toArray]; exact r.length
      have e2 : ys.length = its2.toArray.size := by rw [List.size_toArray]; exact r2.length
      rw [e1]
      refine SeqAt.RcNeAt.lists pl.isList pl2.isList (by rw [← e1, ← e2, hl]) hu0 fun j h1 h2 => ?_
      obtain ⟨x, hx, rx⟩ := vals_getU r (show its[j]? = some its.toArray[j] by simp)
      obtain ⟨y, hy, ry⟩ := vals_getU r2 (show its2[j]? = some its2.toArray[j] by simp)
      exact ih.1 A.in1 x y (e j) _ _ (he j x y hx hy) rx ry hu1
    | @lstL _ _ _ xs ys ha hb hl =>
      obtain ⟨its, r, pl, hz⟩ := I.list ha
      obtain ⟨its2, r2, pl2, hz2⟩ := I.list hb
      refine SeqAt.RcNeAt.lists_lengths pl.isList pl2.isList ?_ hu0
      rw [List.size_toArray, List.size_toArray, ← r.length, ← r2.length]
      simp [hl]
    | @tup _ _ _ xs ys e ha hb he =>
      obtain ⟨its, r, pl, hz⟩ := I.tuple ha
      obtain ⟨its2, r2, pl2, hz2⟩ := I.tuple hb
      have e1 : xs.length = its.toArray.size := by rw [List.size_toArray]; exact r.length
      have e2 : ys.length = its2.toArray.size := by rw [List.size_toArray]; exact r2.length
      rw [e1, e2]
      refine SeqAt.RcNeAt.tuples pl pl2 hu0 fun j h1 h2 => ?_
      obtain ⟨x, hx, rx⟩ := vals_getU r (show its[j]? = some its.toArray[j] by simp)
      obtain ⟨y, hy, ry⟩ := vals_getU r2 (show its2[j]? = some its2.toArray[j] by simp)
      exact ih.1 A.in1 x y (e j) _ _ (he j x y hx hy) rx ry hu1
    | lt ha hb =>
      obtain ⟨its, r, pl, hz⟩ := I.list ha
      obtain ⟨its2, r2, pl2, hz2⟩ := I.tuple hb
      exact SeqAt.RcNeAt.list_tuple pl.isList pl2 hu0
    | tl ha hb =>
      obtain ⟨its, r, pl, hz⟩ := I.tuple ha
      obtain ⟨its2, r2, pl2, hz2⟩ := I.list hb
      exact SeqAt.RcNeAt.tuple_list pl pl2.isList hu0
theorem rcAt_V {A : Around} {x y : V} {u v : Value} (rx : RelV x u) (ry : RelV y v) (fx : flatV x = true) (fy : flatV y = true) : SeqAt.RcAt A s u v (eqV x y) ∧ SeqAt.RcNeAt A s u v (!eqV x y) := by
  cases x with
  | non =>
    cases rx
    cases y with
    | non => cases ry; exact ⟨SeqAt.RcAt.none_none, SeqAt.RcNeAt.none_none⟩
    | bl b => cases ry; exact ⟨SeqAt.RcAt.none_bool b, SeqAt.RcNeAt.none_bool b⟩
    | int b => obtain ⟨t, rfl⟩ := ry; exact ⟨SeqAt.RcAt.none_int b t, SeqAt.RcNeAt.none_int b t⟩
    | str b => obtain ⟨t, rfl⟩ := ry; exact ⟨SeqAt.RcAt.none_str b t, SeqAt.RcNeAt.none_str b t⟩
    | _ => cases fy
  | bl a =>
    cases rx
    cases y with
    | non => cases ry; exact ⟨SeqAt.RcAt.bool_none a, SeqAt.RcNeAt.bool_none a⟩
    | bl b => cases ry; exact ⟨SeqAt.RcAt.bool_bool a b, SeqAt.RcNeAt.bool_bool a b⟩
    | int b => obtain ⟨t, rfl⟩ := ry; exact ⟨SeqAt.RcAt.bool_int a b t, SeqAt.RcNeAt.bool_int a b t⟩
    | str b => obtain ⟨t, rfl⟩ := ry; exact ⟨SeqAt.RcAt.bool_str a b t, SeqAt.RcNeAt.bool_str a b t⟩
    | _ => cases fy
  | int a =>
    obtain ⟨t', rfl⟩ := rx
    cases y with
    | non => cases ry; exact ⟨SeqAt.RcAt.int_none a t', SeqAt.RcNeAt.int_none a t'⟩
    | bl b => cases ry; exact ⟨SeqAt.RcAt.int_bool a t' b, SeqAt.RcNeAt.int_bool a t' b⟩
    | int b => obtain ⟨t, rfl⟩ := ry; exact ⟨SeqAt.RcAt.int_int a t' b t, SeqAt.RcNeAt.int_int a t' b t⟩
    | str b => obtain ⟨t, rfl⟩ := ry; exact ⟨SeqAt.RcAt.int_str a t' b t, SeqAt.RcNeAt.int_str a t' b t⟩
    | _ => cases fy
  | str a =>
    obtain ⟨t', rfl⟩ := rx
    cases y with
    | non => cases ry; exact ⟨SeqAt.RcAt.str_none a t', SeqAt.RcNeAt.str_none a t'⟩
    | bl b => cases ry; exact ⟨SeqAt.RcAt.str_bool a t' b, SeqAt.RcNeAt.str_bool a t' b⟩
    | int b => obtain ⟨t, rfl⟩ := ry; exact ⟨SeqAt.RcAt.str_int a t' b t, SeqAt.RcNeAt.str_int a t' b t⟩
    | str b => obtain ⟨t, rfl⟩ := ry; exact ⟨SeqAt.RcAt.str_str a t' b t, SeqAt.RcNeAt.str_str a t' b t⟩
    | _ => cases fy
  | _ => cases fx
end
def rEqU (K : PySem.W.Frag) (neg : Bool) : R2 := fun x y H Q => (flatV x = true ∧ flatV y = true ∧ Q (.bl (if neg then !eqV x y else eqV x y)) H) ∨
  (∃ a b k n, x = .ref a ∧ y = .ref b ∧ n ≤ 60 ∧ EqT K H n a b k ∧ Q (.bl (if neg then !k else k)) H) ∨
  (∃ a kvs, x = .ref a ∧ y = .ref a ∧ H a = some (.dK kvs) ∧ Q (.bl (!neg)) H)
theorem valueAt_mem {κ : Type} [DecidableEq κ] : ∀ {kb : List (κ × Value)} {k : κ} {v : Value}, (kb.map (·.1)).Nodup → (k, v) ∈ kb → valueAt kb k = some v
  | [], _, _, _, h => by cases h
  | (k', v') :: r, k, v, hn, h => by
    obtain ⟨h1, h2⟩ := List.nodup_cons.mp (show (k' :: r.map (·.1)).Nodup from hn)
    unfold valueAt
    rw [List.find?_cons]
    by_cases e : k' = k
    · subst e
      simp only [decide_true]
      rcases List.mem_cons.mp h with z | z
      · cases z; rfl
      · exact absurd (List.mem_map.mpr ⟨(k', v), z, rfl⟩) h1
    · simp only [e, decide_false]
      rcases List.mem_cons.mp h with z | z
      · cases z; exact absurd rfl e
      · exact valueAt_mem h2 z
theorem keq_all {A : Around} {s : Shared} {κ : Type} [DecidableEq κ] (kb : List (κ × Value)) (hn : (kb.map (·.1)).Nodup) : ∀ ka : List (κ × Value), (∀ p ∈ ka, p ∈ kb) → PySem.W.KeqHits A s kb ka true
  | [], _ => .nil
  | (k, v) :: r, h => by
    have hv : valueAt kb k = some v := valueAt_mem hn (h (k, v) List.mem_cons_self)
    exact .hit (e := true) (b := true) hv (SeqAt.EqAt.same v) (keq_all kb hn r fun p hp => h p (List.mem_cons_of_mem _ hp))
section
variable {X : Cx} {K : PySem.W.Frag}
theorem k_eqU (hK : X.K = K) (hu : X.A.units + 100 < cLine) : OpR X (compareOp .Eq) (rEqU K false) := by
  subst hK
  intro pins s σ H x y u v Q I rx ry h
  rcases h with ⟨fx, fy, q⟩ | ⟨a, b, k, n, rfl, rfl, hn, e, q⟩ | ⟨a, kvs, rfl, rfl, ea, q⟩
  · exact (rcAt_V rx ry fx fy).1 _ _ _ _ ⟨.bl _, H, I, rfl, q⟩
  · cases rx; cases ry
    exact (eq_both I n).2 X.A a b k e (by omega) _ _ _ _ ⟨.bl _, H, I, rfl, q⟩
  · cases rx; cases ry
    obtain ⟨_, hs, vs, r, d⟩ := (show ObjOk X.prog X.w H s.heap a (.dK kvs) from I.hok a _ ea)
    obtain ⟨_, _, _, _, _, _, _, _, nd⟩ := id d
    refine PySem.W.keq_eq hs hs d d (by omega) (fun _ => keq_all vs nd vs fun _ h => h) ?_
    rw [beq_self_eq_true]
    exact ⟨.bl true, H, I, rfl, q⟩
theorem k_neU (hK : X.K = K) (hu : X.A.units + 100 < cLine) : OpR X (compareOp .NotEq) (rEqU K true) := by
  subst hK
  intro pins s σ H x y u v Q I rx ry h
  rcases h with ⟨fx, fy, q⟩ | ⟨a, b, k, n, rfl, rfl, hn, e, q⟩ | ⟨a, kvs, rfl, rfl, ea, q⟩
  · exact (rcAt_V rx ry fx fy).2 _ _ _ _ ⟨.bl _, H, I, rfl, q⟩
  · cases rx; cases ry
    exact ne_refs I e (by omega) _ _ _ _ ⟨.bl _, H, I, rfl, q⟩
  · cases rx; cases ry
    obtain ⟨_, hs, vs, r, d⟩ := (show ObjOk X.prog X.w H s.heap a (.dK kvs) from I.hok a _ ea)
    obtain ⟨_, _, _, _, _, _, _, _, nd⟩ := id d
    refine PySem.W.keq_ne hs hs d d (by omega) (fun _ => keq_all vs nd vs fun _ h => h) ?_
    rw [beq_self_eq_true]
    exact ⟨.bl false, H, I, rfl, q⟩
end
end L2
namespace L2
open PySem PySem.Spec PyProof.Rows
section
variable {X : Cx} {K : PySem.W.Frag}
def rIxU (K : PySem.W.Frag) : R2 := fun x y H Q => rIx K x y H Q ∨ ∃ a v, x = .ref a ∧ DGet H a y (some v) ∧ Q v H
theorem k_ixU (hK : X.K = K) (hu : X.A.units + 100 < cLine) : IxR X (rIxU K) := by
  subst hK
  refine IxR.or ix_seq ?_
  intro value slice pins s σ H x y v u Q I rx ry h hs
  obtain ⟨a, z, rfl, g, q⟩ := h
  cases rx
  exact tail_any (dict_typeIs I g) PySem.F.slot_dict_getitem.lookup (d_getItem (by omega) I g ry fun w' s3 I3 rw' => ⟨z, H, I3, rw', q⟩) hs
def rSetU : TSet := fun o i v H Q => rSetL o i v H Q ∨ ∃ a H', o = .ref a ∧ DPut H a i v H' ∧ Q H'
theorem k_setU (hu : X.A.units + 100 < cLine) : PSet X rSetU := by
  intro pins s σ H o i v ov iv u Q I ro ri rv h
  rcases h with h | ⟨a, H', rfl, g, q⟩
  · exact set_list pins s σ H o i v ov iv u Q I ro ri rv h
  · cases ro
    exact d_setItem (by omega) I g ri rv fun s' I' => ⟨H', I', q⟩
def rInU (K : PySem.W.Frag) (neg : Bool) : R2 := fun x y H Q => rIn K neg x y H Q ∨ (∃ a o, y = .ref a ∧ DGet H a x o ∧ Q (.bl (if neg then !o.isSome else o.isSome)) H) ∨
  (∃ p xs e n, y = .ref p ∧ SqL K H p xs ∧ n ≤ 60 ∧ (∀ z ∈ xs, EqD K H n z x (e z)) ∧ Q (.bl (if neg then !xs.any e else xs.any e)) H)
theorem in_gen {pins : List (Addr × Obj)} {σ : St} {H : Hp} {s : Shared} {xs : List V} {its : List Value} {x : V} {u : Value} {e : V → Bool} {n : Nat} {A : Around} (I : Inv X pins σ H s) (r : Vals xs its) (rx : RelV x u) (hu : A.units + n < cLine) (he : ∀ z ∈ xs, EqD X.K H n z x (e z)) :
    ∃ e' : Value → Bool, (∀ w, w ∈ its.toArray → SeqAt.EqAt A s w u (e' w)) ∧ its.toArray.any e' = xs.any e := by
  classical
  refine ⟨fun w => decide (∃ z ∈ xs, RelV z w ∧ e z = true), fun w hw => ?_, ?_⟩
  · have hw' : w ∈ its := by simpa using hw
    obtain ⟨j, hj⟩ := List.mem_iff_getElem?.mp hw'
    obtain ⟨z, hz, rz⟩ := vals_getU r hj
    have hm := List.mem_of_getElem? hz
    have eq : decide (∃ z ∈ xs, RelV z w ∧ e z = true) = e z := by
      cases q : e z with
      | true => exact decide_eq_true ⟨z, hm, rz, q⟩
      | false =>
        refine decide_eq_false fun ⟨z', _, rz', q'⟩ => ?_
        rw [RelV.inj rz' rz, q] at q'
        cases q'
    show SeqAt.EqAt A s w u (decide (∃ z ∈ xs, RelV z w ∧ e z = true))
    rw [eq]
    exact (eq_both I n).1 A z x (e z) w u (he z hm) rz rx hu
  · rw [Bool.eq_iff_iff, List.any_eq_true]
    constructor
    · intro h
      have h' : its.any (fun w => decide (∃ z ∈ xs, RelV z w ∧ e z = true)) = true := by simpa using h
      obtain ⟨w, _, q⟩ := List.any_eq_true.mp h'
      obtain ⟨z, hz, _, ez⟩ := of_decide_eq_true q
      exact ⟨z, hz, ez⟩
    · rintro ⟨z, hz, ez⟩
      obtain ⟨j, hj⟩ := List.mem_iff_getElem?.mp hz
      obtain ⟨w, hw, rz⟩ := r.get hj
      have : its.any (fun w => decide (∃ z ∈ xs, RelV z w ∧ e z = true)) = true := List.any_eq_true.mpr ⟨w, List.mem_of_getElem? hw, decide_eq_true ⟨z, hz, rz, ez⟩⟩
      simpa using this
theorem k_inU (hK : X.K = K) (hu : X.A.units + 100 < cLine) : OpR X (compareOp .In) (rInU K false) := by
  subst hK
  intro pins s σ H x y u v Q I rx ry h
  rcases h with h | ⟨a, o, rfl, g, q⟩ | ⟨p, xs, e, n, rfl, hl, hn, he, q⟩
  · exact op_in_seq pins s σ H x y u v Q I rx ry h
  · cases ry
    exact d_in (by omega) I g rx fun s' I' => ⟨.bl _, H, I', rfl, q⟩
  · cases ry
    obtain ⟨its, r, pl, hz⟩ := I.list hl
    obtain ⟨e', h1, h2⟩ := in_gen (A := X.A.in1) I r rx (by show X.A.units + 1 + n < cLine; omega) he
    exact SeqAt.in_listAt e' pl.isList h1 (by rw [h2]; exact ⟨.bl _, H, I, rfl, q⟩)
theorem k_notinU (hK : X.K = K) (hu : X.A.units + 100 < cLine) : OpR X (compareOp .NotIn) (rInU K true) := by
  subst hK
  intro pins s σ H x y u v Q I rx ry h
  rcases h with h | ⟨a, o, rfl, g, q⟩ | ⟨p, xs, e, n, rfl, hl, hn, he, q⟩
  · exact op_notIn_seq pins s σ H x y u v Q I rx ry h
  · cases ry
    exact d_notIn (by omega) I g rx fun s' I' => ⟨.bl _, H, I', rfl, q⟩
  · cases ry
    obtain ⟨its, r, pl, hz⟩ := I.list hl
    obtain ⟨e', h1, h2⟩ := in_gen (A := X.A.in1) I r rx (by show X.A.units + 1 + n < cLine; omega) he
    exact SeqAt.notIn_listAt e' pl.isList h1 (by rw [h2]; exact ⟨.bl _, H, I, rfl, q⟩)
def rListU (K : PySem.W.Frag) : List V → Hp → VK → Prop := fun xs H Q => (∃ p ys, xs = [.ref p] ∧ (SqL K H p ys ∨ SqT K H p ys) ∧ ∀ l, H l = none → Q (.ref l) (upd H l (.lst ys))) ∨
  (∃ p kvs, xs = [.ref p] ∧ H p = some (.dK kvs) ∧ ∀ l, H l = none → Q (.ref l) (upd H l (.lst (kvs.map fun kv => kV kv.1)))) ∨
  (∃ x, xs = [.str x] ∧ x.length ≤ 1000 ∧ ∀ l, H l = none → Q (.ref l) (upd H l (.lst (x.cps.toList.map fun c => .str ⟨#[c]⟩))))
theorem paired_get {α β : Type} {F : α → β → Prop} : ∀ {l : List α} {m : List β} {j : Nat} {a : α}, Paired F l m → l[j]? = some a → ∃ b, m[j]? = some b ∧ F a b
  | _, _, _, _, .nil, e => by simp at e
  | _, _, 0, _, .cons r _, e => by simp at e; subst e; exact ⟨_, rfl, r⟩
  | _, _, j + 1, a, .cons _ t, e => by
    obtain ⟨b, h1, h2⟩ := paired_get (j := j) (a := a) t (by simpa using e)
    exact ⟨b, by simpa using h1, h2⟩
theorem vals_items : ∀ {ys : List V} {us : List Value}, ys.length = us.length → (∀ (j : Nat) y u, ys[j]? = some y → us[j]? = some u → RelV y u) → Vals ys us
  | [], [], _, _ => .nil
  | [], _ :: _, h, _ => by cases h
  | _ :: _, [], h, _ => by cases h
  | y :: ys, u :: us, h, q => .cons (q 0 y u rfl rfl) (vals_items (Nat.succ.inj h) fun j y' u' h1 h2 => q (j + 1) y' u' (by simpa using h1) (by simpa using h2))
theorem k_listU (hK : X.K = K) (hc : X.calm = true) : CallR X (.type "list") (rListU K) := by
  subst hK
  intro pins s σ H xs us Q I r h
  rcases h with h | ⟨p, kvs, rfl, ea, q⟩ | ⟨x, rfl, hx, q⟩
  · exact call_list_of pins s σ H xs us Q I r h
  · obtain ⟨u, rfl, ru⟩ := vals1 r
    cases ru
    obtain ⟨hz, hs, vs, rv, d⟩ := (show ObjOk X.prog X.w H s.heap p (.dK kvs) from I.hok p _ ea)
    obtain ⟨ep, hat⟩ := d.dictAt
    have hl : kvs.length = vs.length := rv.length
    refine PySem.W.kdl_call (PySem.W.kdl_dict (knd := mixKind X.prog X.w) (kvs := vs) (ep := ep) hs) (I.ok.hd hc) hat (by rw [← hl]; exact hz) fun h' tk acc' c' kp e it => ?_
    obtain ⟨i1, i2⟩ := it
    have hv : Vals (kvs.map fun kv => kV kv.1) acc'.toList := by
      refine vals_items (by rw [List.length_map, hl, ← i1]; simp) fun j y u h1 h2 => ?_
      obtain ⟨k, x, h3, h4⟩ := i2 j u (by simpa using h2)
      rw [List.getElem?_map] at h1
      cases q1 : kvs[j]? with
      | none => rw [q1] at h1; cases h1
      | some kv =>
        rw [q1] at h1
        cases h1
        obtain ⟨q2, h5, h6, h7⟩ := paired_get rv q1
        rw [h3] at h5
        cases h5
        have e1 : kv.1 = k := h6
        show RelV (kV kv.1) u
        rw [e1]
        rcases keyIs_shape (show keyIs k u = true from h4) with ⟨i, t, rfl, rfl⟩ | ⟨z, t, rfl, rfl⟩
        · exact ⟨t, rfl⟩
        · exact ⟨t, rfl⟩
    refine ⟨.ref s.heap.objs.size, _, I.laid (t' := tk) kp (Nat.le_refl _) (show ObjOk X.prog X.w _ h' _ (.lst (kvs.map fun kv => kV kv.1)) from ⟨by rw [List.length_map]; exact hz, acc'.toList, c', hv, by simpa using e⟩), rfl, q _ (I.hok.fresh (Nat.le_refl _))⟩
  · obtain ⟨u, rfl, t, rfl⟩ := vals1 r
    have hsz : x.cps.size ≤ sizeLine := Nat.le_of_lt (small1000 hx)
    refine call_list_str (I.ok.hd hc) x t (fun h' tk acc' c' kp e it => ?_) hsz
    obtain ⟨i1, i2⟩ := it
    have hv : Vals (x.cps.toList.map fun c => V.str ⟨#[c]⟩) acc'.toList := by
      refine vals_items (by rw [List.length_map]; simp [i1]) fun j y u h1 h2 => ?_
      obtain ⟨c, t', h3, rfl⟩ := i2 j u (by simpa using h2)
      rw [List.getElem?_map] at h1
      have h3' : x.cps.toList[j]? = some c := by simpa using h3
      rw [h3'] at h1
      cases h1
      exact ⟨t', rfl⟩
    refine ⟨.ref s.heap.objs.size, _, I.laid (t' := tk) kp (Nat.le_refl _) (show ObjOk X.prog X.w _ h' _ (.lst (x.cps.toList.map fun c => V.str ⟨#[c]⟩)) from ⟨by rw [List.length_map]; simpa using hsz, acc'.toList, c', hv, by simpa using e⟩), rfl, q _ (I.hok.fresh (Nat.le_refl _))⟩
end
structure CMethOk (P : Program) (w : World) (K : PySem.W.Frag) (mg : Str → Option Value) (base : Heap) (CX : CXT) (k : Nat) (C : Addr) (x m : Str) (ps : List Str) (sp : Sp) : Prop where
  ex : ∃ f fd, FnOk P w K mg base CX k f fd ps sp ∧ CMeth K C m f ∧ Binds K fd ps []
  mg_ : mg x = some (.ref C)
section
variable {X : Cx} {k : Nat} {C : Addr} {ps : List Str} {sp : Sp} {x m : Str} {p pos apos : Pos} {e : Expr} {es : List Expr} {t : TA}
theorem pe_makeQ (D : MakeOk X.prog X.w X.K X.mg X.base CX0 k C x ps sp) (hr : Room (k + 1) X.A) (ha : PA X (e :: es) t) (hg : Gl X x := by rfl) (hdb : (x == ("__debug__" : Str)) = false := by decide)
    (he : starEach (e :: es) X.env = (false, eval e X.env) :: starEach es X.env := by rfl) (hpl : (backTo pos (starEach es X.env)).any (·.1) = false := by rfl) : PE X (.Call (.Name x p) (e :: es) [] pos) (tMake C sp [] E0 t) := by
  obtain ⟨f, fd, F, M, hb⟩ := D.ex
  exact pe_make M F hr hg D.mg_ hb .nil pass0 ha hdb he hpl
theorem pe_clsmQ {pl : Sem Bool} (D : CMethOk X.prog X.w X.K X.mg X.base CX0 k C x m ps sp) (hr : Room k X.A) (ha : PA X (e :: es) t) (hg : Gl X x := by rfl) (hdb : (x == ("__debug__" : Str)) = false := by decide)
    (hst : starEach (e :: es) X.env = (false, eval e X.env) :: starEach es X.env := by rfl) (hpl : (backTo pos (starEach es X.env)).any (·.1) = false := by rfl)
    (ht : eval (.Call (.Attribute (.Name x p) m apos) (e :: es) [] pos) X.env = (do
      let ov ← eval (.Name x p) X.env
      standAt apos.atName
      let (f, first) ← holding [ov] (getMethod ov m pl)
      callWith pos f first (backTo pos (starEach (e :: es) X.env)) (backToKw pos (keywordEach [] X.env))) := by rfl) :
    PE X (.Call (.Attribute (.Name x p) m apos) (e :: es) [] pos) (tCall sp [] E0 t) := by
  obtain ⟨f, fd, F, M, hb⟩ := D.ex
  exact pe_clsm (pl := pl) M F hr hg D.mg_ hb pass0 ha hdb hst hpl ht
end
end L2
namespace L2
open PySem PySem.Spec PyProof.Rows
theorem own_eq_same {prog : Program} {w : World} {A : Around} {E : Value → Shared → Prop} {s : Shared} {K : PySem.W.Frag} {x C : Addr} {ox : Obj} {od : Option Obj} {Q : Value → Shared → Prop} (hu : A.units < cLine) (X : K.In s.heap) (I : PySem.W.InstAt s.heap x ox C od)
    (hs : PySem.W.findIn K (.ref C) "__eq__" = some (some (.builtin "object.__eq__"))) (ho : PySem.W.mroIn K C (.type "object") = some true) (h : Q (.bool true) s) : wpAny (model prog w) A (richCompare .Eq (.ref x) (.ref x)) Q E s := by
  have call1 : ∀ {A' : Around} {Q' : Value → Shared → Prop}, Q' (.bool true) s → wpAny (model prog w) A' (call (.builtin "object.__eq__") [.ref x, .ref x]) Q' E s := fun {A' Q'} q => by
    refine wpAny_call (codeAny_call_builtin PySem.F.slot_object_eq.plain PySem.F.entry_object_eq (@PySem.W.check_slot (model prog w) _ _ s "object.__eq__" "object" "__eq__" (.ref x) [.ref x] [] _ (by decide +kernel) (by decide +kernel) (I.type.andThen (PySem.W.looks_mroIn X ho)) (PySem.F.args_object_eq_2 _ _) ?_))
    refine wpAny_bind (wpAny_pure (wpAny_bind (wpAny_isSame_ref_self ?_)))
    exact wpAny_pure q
  have one : wpAny (model prog w) A (tryCompare (.ref x) "__eq__" (.ref x)) (fun r s' => ∃ v, r = some v ∧ Q v s') E s := by
    unfold tryCompare
    refine wpAny_bind ?_
    simp only [callSpecialIfBound?, bindSpecialIfBound?]
    refine wpAny_holding (wpAny_bind (wpAny_bind (wpAny_bind (I.type.here ((PySem.W.looks_findIn X hs).here ?_)))))
    refine wpAny_bind (wpAny_askSetting (wpAny_ite ?_))
    have b := PySem.F.slot_object_eq.bind (.ref x)
    have fin : wpAny (model prog w) A (call (.builtin "object.__eq__") ([.ref x] ++ [.ref x]) >>= fun v => pure (some v)) (fun r s' => wpAny (model prog w) A (match r with | some .notImplemented | none => pure none | some v => pure (some v)) (fun r s' => ∃ v, r = some v ∧ Q v s') E s') E s :=
      wpAny_bind (call1 (wpAny_pure (wpAny_pure ⟨_, rfl, h⟩)))
    split
    · exact wpAny_bind (wpAny_of_eq b (wpAny_pure fin))
    · exact wpAny_tryCatch (wpAny_bind (wpAny_of_eq b (wpAny_pure fin)))
  unfold richCompare
  simp only [oneThing_ref]
  refine wpAny_holding (wpAny_bind (wpAny_cRoomFor hu ?_))
  refine wpAny_bind (I.type.here (wpAny_bind (I.type.here ?_)))
  rw [if_neg (by simp)]
  refine wpAny_bind (wpAny_pure ?_)
  simp only [Bool.false_eq_true, if_false]
  refine wpAny_bind (wpAny_mono one (fun r s' z => ?_) fun _ _ e => e)
  obtain ⟨v, rfl, hq⟩ := z
  exact wpAny_pure hq
structure OEq (K : PySem.W.Frag) (C : Addr) : Prop where
  eq : PySem.W.findIn K (.ref C) "__eq__" = some (some (.builtin "object.__eq__"))
  ob : PySem.W.mroIn K C (.type "object") = some true
def rEqW (K : PySem.W.Frag) : R2 := fun x y H Q => rEqU K false x y H Q ∨ ∃ a C dx fs, x = .ref a ∧ y = .ref a ∧ H a = some (.ins C dx fs) ∧ OEq K C ∧ Q (.bl true) H
theorem k_eqW {X : Cx} {K : PySem.W.Frag} (hK : X.K = K) (hu : X.A.units + 100 < cLine) : OpR X (compareOp .Eq) (rEqW K) := by
  subst hK
  intro pins s σ H x y u v Q I rx ry h
  rcases h with h | ⟨a, C, dx, fs, rfl, rfl, ea, oe, q⟩
  · exact k_eqU rfl hu pins s σ H x y u v Q I rx ry h
  · cases rx; cases ry
    obtain ⟨mA, O, _⟩ := ins_get I.hok ea
    obtain ⟨od, J, _⟩ := O.look
    exact own_eq_same (by omega) I.kIn J oe.eq oe.ob ⟨.bl true, H, I, rfl, q⟩
end L2
namespace L2
open PySem PySem.Spec PyProof.Rows
theorem mtR_append {X : Cx} : MtR X "list.append" rAppend := mt_append
theorem mtR_extend {X : Cx} : MtR X "list.extend" rExtend := mt_extend
theorem mtR_pop {X : Cx} : MtR X "list.pop" rPop := mt_pop
theorem mtR_popAt {X : Cx} : MtR X "list.pop" rPopAt := mt_popAt
theorem boot_ValueError : bootBuiltins "ValueError" = some (.type "ValueError") := by decide +kernel
section
variable {D : Ends} {σ : St} {H : Hp} {Q : VK} {t u : TS} {te ta tb tc : TE} {tas : TA} {K : PySem.W.Frag} {sp : Sp} {E : XK} {EK : St → XK} {C : Addr} {f m : Str}
theorem vFldU (h : ta σ H fun x H1 => (∃ a C dx fs v, x = .ref a ∧ H1 a = some (.ins C dx fs) ∧ Cls K C ∧ NoAttr K C f ∧ fs.lookup f = some v ∧ Q v H1) ∨
  (∃ a C dx fs v, x = .ref a ∧ IsX H1 a C (some dx) ∧ XAt K C ∧ NoAttr K C f ∧ H1 dx = some (.xd fs) ∧ fs.lookup f = some v ∧ Q v H1)) : tFldU K ta f σ H Q := h
theorem vSFldU (h : te σ H fun y H1 => ta σ H1 fun x H2 => (∃ a C dx fs, x = .ref a ∧ H2 a = some (.ins C dx fs) ∧ Cls K C ∧ NoAttr K C f ∧ fs.length < 1000 ∧ D.nx σ (upd H2 a (.ins C dx (putF f y fs)))) ∨
  (∃ a C, x = .ref a ∧ H2 a = some (XN a C none) ∧ XAt K C ∧ NoAttr K C f ∧ ∀ dx, H2 dx = none → D.nx σ (upd (upd H2 dx (.xd [(f, y)])) a (XN a C (some dx))))) : sFldU K ta te f D σ H := h
theorem vXMake (h : tas σ H fun vs H1 => vs.length ≤ 1000 ∧ ∀ x, H1 x = none → sp (.ref x :: vs) (upd H1 x (XN x C none)) (fun v H2 => v = .non ∧ Q (.ref x) H2) E) : tXMake C sp E tas σ H Q := h
theorem vMake (h : tas σ H fun vs H1 => ∀ x dx, H1 x = none → H1 dx = none → dx ≠ x → sp (.ref x :: (vs ++ [])) (upd (upd H1 dx (.own x)) x (.ins C dx [])) (fun v H2 => v = .non ∧ Q (.ref x) H2) E) : tMake C sp [] E tas σ H Q := h
theorem vMeth (h : ta σ H fun x H1 => ∃ a dx fs, x = .ref a ∧ H1 a = some (.ins C dx fs) ∧ fs.lookup m = none ∧ tas σ H1 fun vs H2 => sp (x :: (vs ++ [])) H2 Q E) : tMeth C m sp [] E ta tas σ H Q := h
theorem vVinit (h : tas σ H fun vs H1 => ∃ a C y, vs = [.ref a, y] ∧ H1 a = some (XN a C none) ∧ XAt K C ∧ Q .non H1) : tVinit K tas σ H Q := h
theorem vCallS (h : tas σ H fun vs H1 => sp vs H1 Q (EK σ)) : tCallS sp EK tas σ H Q := h
theorem vMethS (h : ta σ H fun x H1 => ∃ a dx fs, x = .ref a ∧ H1 a = some (.ins C dx fs) ∧ fs.lookup m = none ∧ tas σ H1 fun vs H2 => sp (x :: vs) H2 Q (EK σ)) : tMethS C m sp EK ta tas σ H Q := h
theorem vMakeS (h : tas σ H fun vs H1 => ∀ x dx, H1 x = none → H1 dx = none → dx ≠ x → sp (.ref x :: vs) (upd (upd H1 dx (.own x)) x (.ins C dx [])) (fun v H2 => v = .non ∧ Q (.ref x) H2) (EK σ)) : tMakeS C sp EK tas σ H Q := h
theorem vRaise (h : te σ H fun x H1 => ∃ a C dx, x = .ref a ∧ H1 a = some (XN a C dx) ∧ XAt K C ∧ EK σ (.ref C) dx (upd H1 a (XO a C dx))) : tRaise K EK te D σ H := h
theorem vIsiU {x y : V} {t cv : Value} {b : Bool} (ty : TyX K H x t) (hy : clsVal y = some cv) (hb : PySem.W.kitOne K t cv = some b) (h : Q (.bl b) H) : rIsiU K [x, y] H Q := ⟨x, y, t, cv, b, rfl, ty, hy, hb, h⟩
end
end L2
namespace L2
open PySem PySem.Spec PyProof.Rows
section
variable {prog : Program} {w : World} {A : Around} {E : Value → Shared → Prop} {s : Shared}
theorem none_dict {a : Addr} {Q : Value → Shared → Prop} (hT : s.TypeIs (.ref a) "dict") (hu : A.units < cLine) (h : Q (.bool false) s) : wpAny (model prog w) A (richCompare .Eq .none (.ref a)) Q E s := by
  refine SeqAt.rc_eq_decline_or (k := false) rfl hT (by decide) PySem.F.sub_dict_NoneType PySem.F.slot_NoneType_eq PySem.F.slot_dict_eq_refl
    (fun _ hq => call_gives PySem.F.slot_NoneType_eq rfl PySem.F.entry_NoneType_eq (PySem.F.args_NoneType_eq_2 _ _) (SeqAt.NoneType___eq___none_ref_0 a) hq) (fun Q' hq => ?_) (fun _ hq => wpAny_of_eq (rfl : isSame .none (.ref a) = pure false) hq) (.inr hu) h
  refine wpAny_call_entry PySem.F.slot_dict_eq_refl hT PySem.F.entry_dict_eq ?_ (PySem.F.args_dict_eq_2 _ _)
  show wpAny _ _ (Builtin.Dict.dictSlotArgs "__eq__" ⟨[.ref a, .none], []⟩ >>= _) _ _ s
  refine wpAny_bind ?_
  unfold Builtin.Dict.dictSlotArgs
  refine wpAny_bind (wpAny_notOrdered_dict hT ?_)
  show wpAny _ _ (pure (Value.ref a, Value.none)) _ _ s
  refine wpAny_pure ?_
  refine wpAny_bind (wpAny_isInstance (T := "NoneType") (b := false) rfl PySem.F.sub_NoneType_dict ?_)
  simp only [Bool.not_false, if_true]
  exact wpAny_bind (wpAny_rule (wpAny_pure ⟨_, rfl, hq⟩))
theorem none_own {K : PySem.W.Frag} {x C : Addr} {ox : Obj} {od : Option Obj} {Q : Value → Shared → Prop} (hu : A.units < cLine) (X : K.In s.heap) (I : PySem.W.InstAt s.heap x ox C od) (oe : OEq K C) (hn : PySem.W.mroIn K C (.type "NoneType") = some false)
    (h : Q (.bool false) s) : wpAny (model prog w) A (richCompare .Eq .none (.ref x)) Q E s := by
  have t1 : wpAny (model prog w) A (tryCompare .none "__eq__" (.ref x)) (fun r s' => r = none ∧ s' = s) E s := by
    unfold tryCompare
    refine wpAny_bind ?_
    simp only [callSpecialIfBound?, bindSpecialIfBound?]
    refine wpAny_holding (wpAny_bind (wpAny_bind ?_))
    refine wpAny_bind (wpAny_of_eq (rfl : typeOf .none = pure (.type "NoneType")) ?_)
    refine wpAny_of_eq PySem.F.slot_NoneType_eq.lookup ?_
    refine wpAny_bind (wpAny_askSetting (wpAny_ite ?_))
    have fin : wpAny (model prog w) A (call (.builtin "NoneType.__eq__") ([.none] ++ [.ref x]) >>= fun v => pure (some v)) (fun r s' => wpAny (model prog w) A (match r with | some .notImplemented | none => pure none | some v => pure (some v)) (fun r s' => r = none ∧ s' = s) E s') E s :=
      wpAny_bind (call_gives PySem.F.slot_NoneType_eq rfl PySem.F.entry_NoneType_eq (PySem.F.args_NoneType_eq_2 _ _) (SeqAt.NoneType___eq___none_ref_0 x) (wpAny_pure (wpAny_pure ⟨rfl, rfl⟩)))
    split
    · exact wpAny_bind (wpAny_of_eq (PySem.F.slot_NoneType_eq.bind .none) (wpAny_pure fin))
    · exact wpAny_tryCatch (wpAny_bind (wpAny_of_eq (PySem.F.slot_NoneType_eq.bind .none) (wpAny_pure fin)))
  have t2 : wpAny (model prog w) A (tryCompare (.ref x) "__eq__" .none) (fun r s' => r = none ∧ s' = s) E s := by
    unfold tryCompare
    refine wpAny_bind ?_
    simp only [callSpecialIfBound?, bindSpecialIfBound?]
    refine wpAny_holding (wpAny_bind (wpAny_bind (wpAny_bind (I.type.here ((PySem.W.looks_findIn X oe.eq).here ?_)))))
    refine wpAny_bind (wpAny_askSetting (wpAny_ite ?_))
    have b := PySem.F.slot_object_eq.bind (.ref x)
    have c : ∀ {Q' : Value → Shared → Prop}, Q' .notImplemented s → wpAny (model prog w) A (call (.builtin "object.__eq__") [.ref x, .none]) Q' E s := fun {Q'} q => by
      refine wpAny_call (codeAny_call_builtin PySem.F.slot_object_eq.plain PySem.F.entry_object_eq (@PySem.W.check_slot (model prog w) _ _ s "object.__eq__" "object" "__eq__" (.ref x) [.none] [] _ (by decide +kernel) (by decide +kernel) (I.type.andThen (PySem.W.looks_mroIn X oe.ob)) (PySem.F.args_object_eq_2 _ _) ?_))
      refine wpAny_bind (wpAny_pure (wpAny_bind (wpAny_of_eq (rfl : isSame (.ref x) .none = pure false) ?_)))
      exact wpAny_pure q
    have fin : wpAny (model prog w) A (call (.builtin "object.__eq__") ([.ref x] ++ [.none]) >>= fun v => pure (some v)) (fun r s' => wpAny (model prog w) A (match r with | some .notImplemented | none => pure none | some v => pure (some v)) (fun r s' => r = none ∧ s' = s) E s') E s :=
      wpAny_bind (c (wpAny_pure (wpAny_pure ⟨rfl, rfl⟩)))
    split
    · exact wpAny_bind (wpAny_of_eq b (wpAny_pure fin))
    · exact wpAny_tryCatch (wpAny_bind (wpAny_of_eq b (wpAny_pure fin)))
  unfold richCompare
  refine wpAny_holding (wpAny_bind (wpAny_cRoomFor hu ?_))
  show wpAny _ _ (typeOf .none >>= _) _ _ _
  refine wpAny_bind (wpAny_of_eq (rfl : typeOf .none = pure (.type "NoneType")) (wpAny_bind (I.type.here ?_)))
  rw [if_pos (by rfl)]
  refine wpAny_bind ((PySem.W.looks_mroIn X hn).here ?_)
  simp only [Bool.false_eq_true, if_false]
  refine wpAny_bind (wpAny_mono t1 (fun r s' z => ?_) fun _ _ e => e)
  obtain ⟨rfl, rfl⟩ := z
  simp only [Bool.not_false, if_true]
  refine wpAny_bind (wpAny_mono t2 (fun r s' z => ?_) fun _ _ e => e)
  obtain ⟨rfl, rfl⟩ := z
  refine wpAny_bind (wpAny_rule (wpAny_bind (wpAny_of_eq (rfl : isSame .none (.ref x) = pure false) (wpAny_pure h))))
end
def rNoneRef (K : PySem.W.Frag) : R2 := fun x y H Q => ∃ a, x = .non ∧ y = .ref a ∧ ((∃ xs, SqL K H a xs ∨ SqT K H a xs) ∨ (∃ kvs, H a = some (.dK kvs)) ∨ ∃ C dx fs, H a = some (.ins C dx fs) ∧ OEq K C ∧ PySem.W.mroIn K C (.type "NoneType") = some false) ∧ Q (.bl false) H
def rEqZ (K : PySem.W.Frag) : R2 := fun x y H Q => rEqW K x y H Q ∨ rNoneRef K x y H Q
theorem k_eqZ {X : Cx} {K : PySem.W.Frag} (hK : X.K = K) (hu : X.A.units + 100 < cLine) : OpR X (compareOp .Eq) (rEqZ K) := by
  intro pins s σ H x y u v Q I rx ry h
  rcases h with h | ⟨a, rfl, rfl, h, q⟩
  · exact k_eqW hK hu pins s σ H x y u v Q I rx ry h
  · subst hK
    cases rx; cases ry
    have fin : EP X pins σ Q (.bool false) s := ⟨.bl false, H, I, rfl, q⟩
    rcases h with ⟨xs, hl | hl⟩ | ⟨kvs, ea⟩ | ⟨C, dx, fs, ea, oe, hn⟩
    · obtain ⟨its, r, pl, _⟩ := I.list hl
      exact SeqAt.RcAt.none_list pl.isList (by omega) _ _ _ _ fin
    · obtain ⟨its, r, pl, _⟩ := I.tuple hl
      exact SeqAt.RcAt.none_tuple pl (by omega) _ _ _ _ fin
    · obtain ⟨_, _, vs, _, d⟩ := (show ObjOk X.prog X.w H s.heap a (.dK kvs) from I.hok a _ ea)
      exact none_dict d.typeIs (by omega) fin
    · obtain ⟨mA, O, _⟩ := ins_get I.hok ea
      obtain ⟨od, J, _⟩ := O.look
      exact none_own (by omega) I.kIn J oe hn fin
end L2
namespace L2
open PySem PySem.Spec PyProof.Rows
def XL (K : PySem.W.Frag) (C : Addr) (bm : List Value) : Prop := ∃ nm qn N bs hdct sn sub ab col dd k0 k1 k2 k3 k5, K.lookup C = some (excClassObj nm qn C N bs bm hdct sn sub ab col dd k0 k1 k2 k3 k5 "ValueError.__new__")
section
variable {K : PySem.W.Frag} {C D : Addr} {bm bn : List Value}
theorem XL.xat (x : XL K C bm) (hb : xMro bm = true)
    (ga : PySem.W.findIn K (.ref C) "__getattribute__" = some (some (.builtin "BaseException.__getattribute__"))) (gn : PySem.W.findIn K (.ref C) "__getattr__" = some none)
    (bx : PySem.W.mroIn K C (.type "BaseException") = some true) (ob : PySem.W.mroIn K C (.type "object") = some true) (hd : PySem.W.hasDictIn K C = true) (cl : PySem.W.findIn K (.ref C) "__class__" = some (some (.builtin "object.__class__")))
    (cg : PySem.W.specialIn K (.builtin "object.__class__") "__get__" = some (some (.builtin "getset_descriptor.__get__"))) (ct : PySem.W.takesIn K (.builtin "object.__class__") = some true)
    (sa : PySem.W.findIn K (.ref C) "__setattr__" = some (some (.builtin "object.__setattr__"))) : XAt K C := by
  obtain ⟨nm, qn, N, bs, hdct, sn, sub, ab, col, dd, k0, k1, k2, k3, k5, e⟩ := x
  refine ⟨ga, gn, bx, ob, hd, cl, cg, ct, sa, ?_, ?_⟩
  · unfold PySem.W.clsIn
    rw [e]
    exact hb
  · unfold xcIn
    rw [e]
    simp [hb]
theorem XL.kit (x : XL K C bm) (y : XL K D bn) : PySem.W.kitOne K (.ref C) (.ref D) = some ((Value.ref C :: bm).contains (.ref D)) := by
  obtain ⟨nm, qn, N, bs, hdct, sn, sub, ab, col, dd, k0, k1, k2, k3, k5, e⟩ := x
  obtain ⟨nm', qn', N', bs', hdct', sn', sub', ab', col', dd', k0', k1', k2', k3', k5', e'⟩ := y
  unfold PySem.W.kitOne PySem.W.kitCls
  split
  · rename_i z
    have z : C = D := Value.ref.inj (beq_iff_eq.mp z)
    subst z
    simp
  · dsimp only
    have q1 : (PySem.W.clsIn K D).isSome = true := by unfold PySem.W.clsIn; rw [e']; rfl
    have q2 : (PySem.W.typeIn K (.ref D) == some (.type "type")) = true := by show ((K.lookup D).map (·.cls) == _) = true; rw [e']; rfl
    rw [if_pos (by rw [q1, q2]; rfl)]
    unfold PySem.W.subIn PySem.W.mroIn PySem.W.clsIn
    dsimp only
    rw [e]
    rfl
theorem XL.kitT (x : XL K C bm) {T : String} (h : PySem.W.kitMeta T = true) : PySem.W.kitOne K (.ref C) (.type T) = some (bm.contains (.type T)) := by
  obtain ⟨nm, qn, N, bs, hdct, sn, sub, ab, col, dd, k0, k1, k2, k3, k5, e⟩ := x
  unfold PySem.W.kitOne PySem.W.kitCls
  split
  · rename_i z
    exact absurd (beq_iff_eq.mp z) nofun
  · dsimp only
    rw [if_pos h]
    unfold PySem.W.subIn PySem.W.mroIn PySem.W.clsIn
    dsimp only
    rw [e]
    show some ((Value.ref C :: bm).contains _) = _
    rw [List.contains_cons]
    rfl
abbrev veMro : List Value := [.type "ValueError", .type "Exception", .type "BaseException", .type "object"]
theorem xmro_ve : xMro veMro = true := by decide
theorem xmro_on {c : Addr} : xMro (.ref c :: veMro) = true := xmro_ve
theorem kits {K : PySem.W.Frag} {cs : List Addr} {c : Addr} (hn : (cs ++ [c]).Nodup) (h : ∀ i, i < cs.length → XL K (cs.getD i c) (.ref c :: veMro)) (hc : XL K c veMro) :
    (∀ i j, i < cs.length → j < cs.length → PySem.W.kitOne K (.ref (cs.getD i c)) (.ref (cs.getD j c)) = some (decide (i = j))) ∧ (∀ i, i < cs.length + 1 → PySem.W.kitOne K (.ref (cs.getD i c)) (.ref c) = some true) ∧
    (∀ i, i < cs.length + 1 → PySem.W.kitOne K (.ref (cs.getD i c)) (.type "ValueError") = some true) ∧ ∀ j, j < cs.length → PySem.W.kitOne K (.ref c) (.ref (cs.getD j c)) = some false := by
  have gd : ∀ (j : Nat) (hj : j < cs.length), cs.getD j c = cs[j] := fun j hj => by simp [List.getD, hj]
  have hl : cs.getD cs.length c = c := by simp
  have hne : ∀ j, j < cs.length → c ≠ cs.getD j c := fun j hj e => by
    have h2 := (List.nodup_append.mp hn).2.2 (cs.getD j c) (by rw [gd j hj]; exact List.getElem_mem hj) c (by simp)
    exact h2 e.symm
  refine ⟨fun i j hi hj => ?_, fun i hi => ?_, fun i hi => ?_, fun j hj => ?_⟩
  · rw [(h i hi).kit (h j hj)]
    congr 1
    rw [List.contains_cons, List.contains_cons]
    have e1 : ((Value.ref (cs.getD j c)) == Value.ref c) = false := beq_eq_false_iff_ne.mpr fun e => hne j hj (Value.ref.inj e).symm
    have e2 : List.contains veMro (Value.ref (cs.getD j c)) = false := rfl
    rw [e1, e2]
    by_cases hij : i = j
    · subst hij; simp
    · have e3 : ((Value.ref (cs.getD j c)) == Value.ref (cs.getD i c)) = false := beq_eq_false_iff_ne.mpr fun e => by
        have e := Value.ref.inj e
        rw [gd i hi, gd j hj] at e
        have hp := List.pairwise_iff_getElem.mp (List.nodup_append.mp hn).1
        rcases Nat.lt_or_gt_of_ne hij with q | q
        · exact hp i j hi hj q e.symm
        · exact hp j i hj hi q e
      rw [e3]; simp [hij]
  · rcases Nat.lt_or_ge i cs.length with hi' | hi'
    · rw [(h i hi').kit hc, List.contains_cons, List.contains_cons]; simp
    · have : i = cs.length := by omega
      subst this
      rw [hl, hc.kit hc]; simp
  · rcases Nat.lt_or_ge i cs.length with hi' | hi'
    · rw [(h i hi').kitT (by decide +kernel)]; rfl
    · have : i = cs.length := by omega
      subst this
      rw [hl, hc.kitT (by decide +kernel)]; rfl
  · rw [hc.kit (h j hj), List.contains_cons]
    have e1 : ((Value.ref (cs.getD j c)) == Value.ref c) = false := beq_eq_false_iff_ne.mpr fun e => hne j hj (Value.ref.inj e).symm
    rw [e1]; rfl
end
end L2
namespace HT
open PySem PySem.Spec PyProof.Rows
section
variable {prog : Program} {w : World} {A : Around} {E : Value → Shared → Prop} {s : Shared}
end
end HT
namespace L2
open PySem PySem.Spec PyProof.Rows
def tRev (K : PySem.W.Frag) (te : TE) (ts : TO) : TE := fun σ H Q => te σ H fun x H1 => ts σ H1 fun o H2 => o = some (-1) ∧ ∃ a y z, x = .ref a ∧ SqT K H2 a [y, z] ∧ ∀ p, H2 p = none → Q (.ref p) (upd H2 p (.tup [z, y]))
theorem vRev {K : PySem.W.Frag} {te : TE} {ts : TO} {σ : St} {H : Hp} {Q : VK} (h : te σ H fun x H1 => ts σ H1 fun o H2 => o = some (-1) ∧ ∃ a y z, x = .ref a ∧ SqT K H2 a [y, z] ∧ ∀ p, H2 p = none → Q (.ref p) (upd H2 p (.tup [z, y]))) : tRev K te ts σ H Q := h
section
variable {X : Cx} {K : PySem.W.Frag} {e st : Expr} {te : TE} {ts : TO} {p2 pos : Pos}
end
end L2
namespace L2
open PySem PySem.Spec PyProof.Rows
def Ite (K : PySem.W.Frag) (a : Addr) : It :=
  ⟨fun i H => ∃ xs x, SqL K H a xs ∧ xs[i]? = some x, fun i H x H' => ∃ t y, x = .ref t ∧ H t = none ∧ H' = upd H t (.tup [.int i, y]) ∧ ∀ xs, SqL K H a xs → xs[i]? = some y, fun i H => ∃ xs, SqL K H a xs ∧ xs.length ≤ i⟩
def iEnum (K : PySem.W.Frag) (ta : TA) : TI := fun σ H R => ta σ H fun vs H1 => ∃ a xs, vs = [.ref a] ∧ SqL K H1 a xs ∧ R (Ite K a) H1
theorem vEnum {K : PySem.W.Frag} {tas : TA} {σ : St} {H : Hp} {R : It → Hp → Prop} (h : tas σ H fun vs H1 => ∃ a xs, vs = [.ref a] ∧ SqL K H1 a xs ∧ R (Ite K a) H1) : iEnum K tas σ H R := h
end L2
namespace L2
open PySem PySem.Spec PyProof.Rows
section
variable {X : Cx}
end
end L2
namespace L2
open PySem PySem.Spec PyProof.Rows PySem.Builtin PySem.Builtin.Str
theorem vDGet2 {td ty tx : TE} {σ : St} {H : Hp} {Q : VK} (h : td σ H fun x H1 => ∃ a, x = .ref a ∧ IsD H1 a ∧ ty σ H1 fun y H2 => tx σ H2 fun z H3 => ∃ o, DGet H3 a y o ∧ Q (o.getD z) H3) : tDGet2 td ty tx σ H Q := h
end L2
namespace L2
open PySem PySem.Spec PyProof.Rows
theorem eqV_strD (a b : Str) : eqV (.str a) (.str b) = decide (a = b) := by
  have e : eqV (.str a) (.str b) = (a == b) := by simp [eqV]
  rw [e, Bool.eq_iff_iff, beq_iff_eq, decide_eq_true_iff]
section
variable {X : Cx} {K : PySem.W.Frag}
end
theorem slice_ixD (k n : Nat) : Builtin.Str.strSliceIndices (some (k : Int)) none 1 n = (List.range (n - k)).map (k + ·) := by
  unfold Builtin.Str.strSliceIndices sliceRange
  simp only [show (1 : Int) > 0 by decide, if_true]
  rw [if_neg (show ¬ ((k : Int) < 0) by omega)]
  have e1 : max 0 (min (k : Int) n) = ((min k n : Nat) : Int) := by omega
  rw [e1]
  by_cases hk : k ≤ n
  · rw [Nat.min_eq_left hk]
    have e2 : (fun (j : Nat) => ((k : Int) + 1 * (j : Int)).toNat) = (k + ·) := by funext j; omega
    rw [e2]
    congr 2
    split
    · rw [Int.ediv_one]; omega
    · omega
  · rw [Nat.min_eq_right (by omega), show n - k = 0 by omega]
    rw [if_neg (by omega)]
    rfl
theorem fm_drop (a : Array Nat) (k : Nat) : ∀ m, k + m ≤ a.size → ((List.range m).map (k + ·)).filterMap (a[·]?) = (a.toList.drop k).take m
  | 0, _ => by simp
  | m + 1, h => by
    rw [List.range_succ, List.map_append, List.filterMap_append, fm_drop a k m (by omega), List.take_add_one]
    congr 1
    have e : a[k + m]? = some a[k + m] := Array.getElem?_eq_getElem (by omega)
    have e' : (a.toList.drop k)[m]? = some a[k + m] := by rw [List.getElem?_drop, Array.getElem?_toList]; exact e
    rw [e', List.map_cons, List.filterMap_cons, e]
    rfl
theorem slice_drop (z : Str) (k : Nat) : (Txt.slice z (some (k : Int)) none).cps.toList = z.cps.toList.drop k := by
  unfold Txt.slice
  rw [slice_ixD]
  have hz : z.length = z.cps.toList.length := by simp [Str.length]
  split
  · rename_i h
    rw [List.length_map, List.length_range] at h
    have h : z.length - k = z.length := by simpa using h
    by_cases hk : k = 0
    · subst hk; rw [List.drop_zero]
    · have : z.cps.toList = [] := List.length_eq_zero_iff.mp (by omega)
      rw [this]; simp
  · show (List.filterMap _ _).toArray.toList = _
    by_cases hk : k ≤ z.length
    · have := fm_drop z.cps k (z.length - k) (by show k + (z.length - k) ≤ z.length; omega)
      rw [this]
      exact List.take_of_length_le (by rw [List.length_drop]; omega)
    · rw [show z.length - k = 0 by omega, List.drop_of_length_le (by omega)]
      rfl
theorem slice_len (z : Str) (lo hi : Option Int) : (Txt.slice z lo hi).length ≤ z.length := Txt.slice_le z lo hi
theorem cutV_drop (xs : List V) (k : Nat) : cutV xs (some (k : Int)) none = xs.drop k := by
  unfold cutV
  rw [HT.sIx_none, HT.sIx_nat]
  by_cases h : k ≤ xs.length
  · rw [Nat.min_eq_left h, List.take_of_length_le (by rw [List.length_drop]; omega)]
  · rw [Nat.min_eq_right (by omega), List.drop_length, List.drop_of_length_le (by omega)]
    simp
end L2
namespace L2
open PySem PySem.Spec PyProof.Rows
section
variable {X : Cx} {K : PySem.W.Frag}
end
end L2
namespace HT
open PySem PySem.Spec PyProof.Rows
section
variable {prog : Program} {w : World} {A : Around} {E : Value → Shared → Prop} {s : Shared}
end
end HT
namespace L2
open PySem PySem.Spec PyProof.Rows
def tStep (K : PySem.W.Frag) (te : TE) (ts : TO) : TE := fun σ H Q => te σ H fun x H1 => ts σ H1 fun o H2 => ∃ a y z, x = .ref a ∧ SqT K H2 a [y, z] ∧ ((o = some (-1) ∧ ∀ p, H2 p = none → Q (.ref p) (upd H2 p (.tup [z, y]))) ∨ (o = some 1 ∧ Q (.ref a) H2))
theorem vStep {K : PySem.W.Frag} {te : TE} {ts : TO} {σ : St} {H : Hp} {Q : VK} (h : te σ H fun x H1 => ts σ H1 fun o H2 => ∃ a y z, x = .ref a ∧ SqT K H2 a [y, z] ∧ ((o = some (-1) ∧ ∀ p, H2 p = none → Q (.ref p) (upd H2 p (.tup [z, y]))) ∨ (o = some 1 ∧ Q (.ref a) H2))) : tStep K te ts σ H Q := h
section
variable {X : Cx} {K : PySem.W.Frag} {e st : Expr} {te : TE} {ts : TO} {p2 pos : Pos}
end
end L2
namespace L2
open PySem PySem.Spec PyProof.Rows
def FG (K : PySem.W.Frag) (nm : Str) (st : Stmt) : Prop := ∃ f fd, PySem.W.nsIn K mainGlobals nm = some (some (.ref f)) ∧ Fun K nm nm st f fd
def FM (K : PySem.W.Frag) (C : Addr) (m ql : Str) (st : Stmt) : Prop := ∃ f fd, PySem.W.findIn K (.ref C) m = some (some (.ref f)) ∧ PySem.W.isFn K (.ref f) = true ∧ Fun K m ql st f fd
def FC (K : PySem.W.Frag) (C : Addr) (m ql : Str) (st : Stmt) : Prop := ∃ f fd, PySem.W.findCls K (.ref C) (.type "type") m = some (.val (.ref f)) ∧ Fun K m ql st f fd
structure XQ (K : PySem.W.Frag) (C : Addr) : Prop where
  xa : PySem.W.findIn K (.ref C) "__getattribute__" = some (some (.builtin "BaseException.__getattribute__"))
  xb : PySem.W.findIn K (.ref C) "__getattr__" = some none
  xd : PySem.W.mroIn K C (.type "BaseException") = some true
  xe : PySem.W.mroIn K C (.type "object") = some true
  xf : PySem.W.hasDictIn K C = true
  xg : PySem.W.findIn K (.ref C) "__class__" = some (some (.builtin "object.__class__"))
  xh : PySem.W.findIn K (.ref C) "__setattr__" = some (some (.builtin "object.__setattr__"))
  p : PySem.W.keepIn K (.ref C) = true
section
variable {P : Program} {w : World} {K : PySem.W.Frag} {mg : Str → Option Value} {base h : Heap} {CX : CXT} {k : Nat} {sp : Sp} {st : Stmt} {f : Addr} {fd : FuncData} {ps : List Str} {nm m ql x : Str} {C : Addr}
abbrev BA (x ql : Str) (st : Stmt) (ps : List Str) : Prop := ∀ (kV doc pm : Value) (an : Option Addr) (cdv ct : Value) (us : List Value), us.length = ps.length → bindArgs (PySem.W.fnOf x ql (defArgs st) (defBody st) (defScope st) .none kV doc pm an cdv ct) ⟨us, []⟩ = pure (ps.zip us)
theorem fg_mk (X : K.In h) (G : h.Ns mainGlobals mg) (a : PySem.W.nsIn K mainGlobals nm = some (some (.ref f))) (F : Fun K nm nm st f fd) (o : FnOk P w K mg base CX k f fd ps sp)
    (hb : BA nm nm st ps := by first | (exact fun _ _ _ _ _ _ us hl => (match us, hl with | [_], _ => rfl)) | (exact fun _ _ _ _ _ _ us hl => (match us, hl with | [_, _], _ => rfl)) | (exact fun _ _ _ _ _ _ us hl => (match us, hl with | [_, _, _], _ => rfl)) | (exact fun _ _ _ _ _ _ us hl => (match us, hl with | [_, _, _, _], _ => rfl))) :
    DefOk P w K mg base CX k nm ps sp := ⟨_, _, o, PySem.W.mg_of X G a, F.kp, F.binds hb⟩
theorem fm_mk (wcl : Cls K C) (a : PySem.W.findIn K (.ref C) m = some (some (.ref f))) (n : PySem.W.isFn K (.ref f) = true) (F : Fun K m ql st f fd) (o : FnOk P w K mg base CX k f fd ps sp)
    (hb : BA m ql st ps := by first | (exact fun _ _ _ _ _ _ us hl => (match us, hl with | [_], _ => rfl)) | (exact fun _ _ _ _ _ _ us hl => (match us, hl with | [_, _], _ => rfl)) | (exact fun _ _ _ _ _ _ us hl => (match us, hl with | [_, _, _], _ => rfl)) | (exact fun _ _ _ _ _ _ us hl => (match us, hl with | [_, _, _, _], _ => rfl))) :
    MethOk P w K mg base CX k C m ps sp := ⟨⟨_, _, o, ⟨a, n, F.kp⟩, F.binds hb⟩, wcl⟩
theorem fw_mk (X : K.In h) (G : h.Ns mainGlobals mg) (c : PySem.W.nsIn K mainGlobals x = some (some (.ref C))) (w5 : PySem.W.makesIn K C = true) (w6 : PySem.W.keepIn K (.ref C) = true) (a : PySem.W.findIn K (.ref C) "__init__" = some (some (.ref f))) (n : PySem.W.isFn K (.ref f) = true) (F : Fun K "__init__" ql st f fd) (o : FnOk P w K mg base CX k f fd ps sp)
    (hb : BA "__init__" ql st ps := by first | (exact fun _ _ _ _ _ _ us hl => (match us, hl with | [_], _ => rfl)) | (exact fun _ _ _ _ _ _ us hl => (match us, hl with | [_, _], _ => rfl)) | (exact fun _ _ _ _ _ _ us hl => (match us, hl with | [_, _, _], _ => rfl))) :
    MakeOk P w K mg base CX k C x ps sp := ⟨⟨_, _, o, ⟨w5, a, n, w6⟩, F.binds hb⟩, PySem.W.mg_of X G c⟩
theorem fx_mk (X : K.In h) (G : h.Ns mainGlobals mg) (c : PySem.W.nsIn K mainGlobals x = some (some (.ref C))) (Y : XAt K C) (q : XQ K C) (a : PySem.W.findIn K (.ref C) "__init__" = some (some (.ref f))) (n : PySem.W.isFn K (.ref f) = true) (F : Fun K "__init__" ql st f fd) (o : FnOk P w K mg base CX0 k f fd ps sp)
    (hb : BA "__init__" ql st ps := by first | (exact fun _ _ _ _ _ _ us hl => (match us, hl with | [_], _ => rfl)) | (exact fun _ _ _ _ _ _ us hl => (match us, hl with | [_, _], _ => rfl))) :
    XMakeOk P w K mg base k C x ps sp := ⟨⟨_, _, o, ⟨Y, a, n, q.p⟩, F.binds hb⟩, PySem.W.mg_of X G c⟩
theorem fc_mk (X : K.In h) (G : h.Ns mainGlobals mg) (c : PySem.W.nsIn K mainGlobals x = some (some (.ref C))) (r1 : PySem.W.readsIn K C (.type "type") = true) (r2 : PySem.W.findCls K (.ref C) (.type "type") m = some (.val (.ref f))) (r3 : PySem.W.specialIn K (.ref C) "__getattribute__" = some (some (.builtin "type.__getattribute__"))) (F : Fun K m ql st f fd) (o : FnOk P w K mg base CX k f fd ps sp)
    (hb : BA m ql st ps := by (exact fun _ _ _ _ _ _ us hl => (match us, hl with | [_, _], _ => rfl))) :
    CMethOk P w K mg base CX k C x m ps sp := ⟨⟨_, _, o, ⟨r1, r2, r3, F.kp⟩, F.binds hb⟩, PySem.W.mg_of X G c⟩
theorem xq_at {bm : List Value} (x : XL K C bm) (hb : xMro bm = true) (q : XQ K C) (w16 : PySem.W.specialIn K (.builtin "object.__class__") "__get__" = some (some (.builtin "getset_descriptor.__get__"))) (w17 : PySem.W.takesIn K (.builtin "object.__class__") = some true) : XAt K C := x.xat hb q.xa q.xb q.xd q.xe q.xf q.xg w16 w17 q.xh
end
end L2
namespace HT
open PySem PySem.Spec PyProof.Rows
section
variable {prog : Program} {w : World} {A : Around} {E : Value → Shared → Prop} {s : Shared}
theorem assign_Tuple_list {env : Env} {elts : List Expr} {x1} {pos : Pos} {l : Addr} {items : Array Value} {Q : Unit → Shared → Prop} (hh : A.handled = none) (hl : s.heap.IsList l items)
    (hn : (assignEach elts env).length = items.size) (hstar : (assignEach elts env).findIdx? (·.1) = none)
    (h : ∀ h', Heap.ExtBut s.heap.objs.size s.heap h' → wpAny (model prog w) A (assignInOrder ((assignEach elts env).map (·.2)) items.toList) Q E { s with heap := h' }) :
    wpAny (model prog w) A (assign (.Tuple elts x1 pos) env (.ref l)) Q E s := by
  rw [assign_Tuple]
  refine wpAny_bind (wpAny_standAt ?_)
  unfold unpack
  rw [hn, hstar]
  exact wpAny_bind (wpAny_holding (PySem.W.kun_itemsOf hh hl h))
end
end HT
namespace L2
open PySem PySem.Spec PyProof.Rows
def gTupU (K : PySem.W.Frag) (n : Nat) (t : TGs) : TG := fun v σ H Q => ∃ a xs, v = .ref a ∧ (SqT K H a xs ∨ SqL K H a xs) ∧ xs.length = n ∧ t xs σ H Q
theorem vAsgU {te : TE} {K : PySem.W.Frag} {n : Nat} {gs : TGs} {D : Ends} {σ : St} {H : Hp} (h : te σ H fun x H1 => gTupU K n gs x σ H1 D.nx) : tAsg te (gTupU K n gs) D σ H := h
section
variable {X : Cx} {K : PySem.W.Frag} {pos p : Pos} {x : Str}
theorem pg_tupU {es : List Expr} {k : Nat} {t : TGs} {n : Nat} (hc : X.calm = true) (h : PGs X es t)
    (hn : (assignEach es X.env).length = n := by rfl) (hst : (assignEach es X.env).findIdx? (·.1) = none := by rfl) : PG X (.Tuple es k pos) (gTupU X.K n t) := by
  intro pins s σ H v u Q I r hw
  obtain ⟨a, xs, e1, hq, hl, hw⟩ := hw
  rcases hq with hq | hq
  · exact pg_tup hc h hn hst pins s σ H v u Q I r ⟨a, xs, e1, hq, hl, hw⟩
  · subst e1
    cases r
    obtain ⟨its, rv, ht, hz⟩ := I.list hq
    refine HT.assign_Tuple_list (I.ok.hd hc) ht.isList (by simp [hn, ← hl, rv.length]) hst fun h' hx => ?_
    have I1 : Inv X pins σ H { s with heap := h' } := I.kept (t' := s.toks) fun b o e => hx b o (Nat.ne_of_lt (Heap.lt_size e)) e
    exact h pins _ σ H xs _ Q I1 (by simpa using rv) hw
end
end L2
namespace L2
open PySem PySem.Spec PyProof.Rows
section
variable {X : Cx} {K : PySem.W.Frag} {e lo st : Expr} {te : TE} {tl ts : TO} {p2 pos : Pos}
end
end L2
namespace L2
open PySem PySem.Spec PyProof.Rows
section
variable {X : Cx} {K : PySem.W.Frag} {e st : Expr} {te : TE} {ts : TO} {p2 pos : Pos}
end
end L2
namespace L2
open PySem PySem.Spec PyProof.Rows
def tLR (ta : TA) : TE := fun σ H Q => ta σ H fun vs H1 => ∃ n : Nat, vs = [.int n] ∧ n ≤ 1000 ∧ ∀ l, H1 l = none → Q (.ref l) (upd H1 l (.lst ((List.range n).map fun i => V.int ((i : Nat) : Int))))
theorem vLR {ta : TA} {σ : St} {H : Hp} {Q : VK} (h : ta σ H fun vs H1 => ∃ n : Nat, vs = [.int n] ∧ n ≤ 1000 ∧ ∀ l, H1 l = none → Q (.ref l) (upd H1 l (.lst ((List.range n).map fun i => V.int ((i : Nat) : Int))))) : tLR ta σ H Q := h
section
variable {X : Cx} {a : Expr} {ta : TA} {p p2 pos pos2 : Pos}
theorem pe_lrng (hc : X.calm = true) (hg : Gl X "list") (hg2 : Gl X "range") (hm : X.mg "list" = none) (hm2 : X.mg "range" = none) (ha : PA X [a] ta) (hs : starEach [a] X.env = [(false, eval a X.env)] := by rfl)
    (he : starEach [.Call (.Name "range" p2) [a] [] pos2] X.env = [(false, eval (.Call (.Name "range" p2) [a] [] pos2) X.env)] := by rfl) : PE X (.Call (.Name "list" p) [.Call (.Name "range" p2) [a] [] pos2] [] pos) (tLR ta) := by
  intro pins s σ H Q I h
  refine Call_ (ld_blt I hg hm boot_list (PyProof.Rows.callWith_type1 (T := "list") ?_ he rfl))
  rw [he]
  show wpAny _ _ (spliced ((false, eval (.Call (.Name "range" p2) [a] [] pos2) X.env) :: [])) _ _ s
  refine Calls.spliced_cons ?_
  refine Call_ (ld_blt I hg2 hm2 boot_range (PyProof.Rows.callWith_type1 (thn (ha pos2 pins s σ H _ I h) fun us s1 ⟨vs, H1, I1, r1, q1⟩ => ?_) hs rfl))
  obtain ⟨n, e, hn, q⟩ := q1
  subst e
  cases r1 with
  | cons r rr =>
    cases rr
    obtain ⟨t, rfl⟩ := r
    refine call_range_1 (Calls.spliced_nil ?_)
    refine call_list_range (n := n) (I1.ok.hd hc) (IsRange.new ..) (small_one (by omega) (by omega) (by omega) (by omega)) (by rw [rangeSize_one]; split <;> omega) (by omega) fun h' tk acc' c' hk hS hI => ?_
    have e1 : acc'.toList.length = n := by rw [Array.length_toList]; exact hI.1
    have hv : Vals ((List.range n).map fun i => V.int ((i : Nat) : Int)) acc'.toList := by
      refine vals_items (by rw [List.length_map, List.length_range, e1]) fun j y u h1 h2 => ?_
      have hj : j < n := by have := (List.getElem?_eq_some_iff.mp h1).1; rwa [List.length_map, List.length_range] at this
      rw [List.getElem?_map, List.getElem?_range hj] at h1
      cases h1
      obtain ⟨t', ht'⟩ := hI.2 j u (by rw [← Array.getElem?_toList]; exact h2)
      exact ⟨t', by rw [ht']; congr 1; omega⟩
    have I2 : Inv X pins σ H1 { s1 with heap := s1.heap.push { cls := .type "range", data := .fields #[.int 0 s1.toks, .int n t, .int 1 (s1.toks + 1)] }, toks := s1.toks + 1 + 1 } := I1.kept fun b o e => Heap.get?_push_of_some _ e
    refine ⟨.ref _, _, I2.laid (t' := tk) (o := .lst ((List.range n).map fun i => V.int ((i : Nat) : Int))) (fun b ob q => hk b ob q) (Nat.le_refl _) ?_, rfl, q _ (I2.hok.fresh (Nat.le_refl _))⟩
    refine ⟨by rw [List.length_map, List.length_range]; exact Nat.le_trans hn (by decide), acc'.toList, c', hv, ?_⟩
    rw [Array.toArray_toList]
    exact hS
theorem mtR_reverse {X : Cx} : MtR X "list.reverse" rReverse := mt_reverse
end
end L2
namespace K13
open PySem L2 PyProof.Rows
theorem u100 {k : Nat} {A : Around} (hr : Room k A) : A.units + 100 < cLine := by have := hr.un; omega
theorem hm {k j : Nat} {A : Around} (hr : Room k A) (h : j ≤ k := by decide) : Room j A := hr.mono h
def top (i : Nat) : Stmt := PySem.Challenge.pw_onceroad_k13_rows_of_moves.main.body.getD i (.Pass ⟨0, 0, 0, 0⟩)
/- OnceError.__init__: calls [] -/
abbrev s_OnceError_init : Stmt := inClass (top 2) 0
theorem sc_OnceError_init : FnScope ["self", "text"] ["self", "text"] (defScope s_OnceError_init) := ⟨rfl, rfl, rfl, by decide +kernel, rfl, by decide +kernel, by decide +kernel⟩
/- NoName.__init__: calls [] -/
abbrev s_NoName_init : Stmt := inClass (top 3) 0
theorem sc_NoName_init : FnScope ["self", "found"] ["self", "found"] (defScope s_NoName_init) := ⟨rfl, rfl, rfl, by decide +kernel, rfl, by decide +kernel, by decide +kernel⟩
/- Twice.__init__: calls [] -/
abbrev s_Twice_init : Stmt := inClass (top 4) 0
theorem sc_Twice_init : FnScope ["self", "name"] ["self", "name"] (defScope s_Twice_init) := ⟨rfl, rfl, rfl, by decide +kernel, rfl, by decide +kernel, by decide +kernel⟩
/- NoPlace.__init__: calls [] -/
abbrev s_NoPlace_init : Stmt := inClass (top 5) 0
theorem sc_NoPlace_init : FnScope ["self", "found"] ["self", "found"] (defScope s_NoPlace_init) := ⟨rfl, rfl, rfl, by decide +kernel, rfl, by decide +kernel, by decide +kernel⟩
/- NoTie.__init__: calls [] -/
abbrev s_NoTie_init : Stmt := inClass (top 6) 0
theorem sc_NoTie_init : FnScope ["self", "found"] ["self", "found"] (defScope s_NoTie_init) := ⟨rfl, rfl, rfl, by decide +kernel, rfl, by decide +kernel, by decide +kernel⟩
/- TooMany.__init__: calls [] -/
abbrev s_TooMany_init : Stmt := inClass (top 7) 0
theorem sc_TooMany_init : FnScope ["self", "many"] ["self", "many"] (defScope s_TooMany_init) := ⟨rfl, rfl, rfl, by decide +kernel, rfl, by decide +kernel, by decide +kernel⟩
/- NoNumbers.__init__: calls [] -/
abbrev s_NoNumbers_init : Stmt := inClass (top 10) 0
theorem sc_NoNumbers_init : FnScope ["self", "found"] ["self", "found"] (defScope s_NoNumbers_init) := ⟨rfl, rfl, rfl, by decide +kernel, rfl, by decide +kernel, by decide +kernel⟩
local macro_rules | `(tactic| walk_at "vc1") => `(tactic| first
  | with_reducible refine vSeq ?_ | with_reducible refine vAsg ?_ | with_reducible refine vAsgS ?_ | with_reducible refine vIfS ?_ | with_reducible refine vRet ?_ | with_reducible refine vNext ?_ | with_reducible refine vC ?_
  | ((with_reducible refine' vVar ?hv ?_); (case hv => rfl)) | with_reducible refine vOp ?_ | with_reducible refine vChain ?_ | with_reducible refine vNil ?_ | with_reducible refine vCons ?_ | with_reducible refine vCB ?_ | with_reducible refine vCall ?_
  | with_reducible refine vLst ?_ | with_reducible refine vTup ?_ | with_reducible refine vTest ?_ | with_reducible refine vB ?_ | with_reducible refine vNot ?_ | with_reducible refine vAnd ?_ | with_reducible refine vOr ?_
  | with_reducible refine vAndV ?_ | with_reducible refine vOrV ?_ | with_reducible refine vNotV ?_ | with_reducible refine vYes ?_ | with_reducible refine vLeI ?_ | with_reducible refine vLeS ?_ | with_reducible refine vIsB ?_ | with_reducible refine vAddI ?_ | with_reducible refine vSl ?_ | with_reducible refine vNoPart ?_ | with_reducible refine vPart ?_ | with_reducible refine vExI ?_ | with_reducible refine vBM ?_ | with_reducible refine vBM0 ?_ | with_reducible refine vComp ?_ | with_reducible refine vFor ?_ | with_reducible refine vRng1 ?_ | with_reducible refine vAny ?_ | with_reducible refine vGN ?_ | with_reducible refine vI0 ?_ | with_reducible refine vEqI ?_ | with_reducible refine vEqB ?_ | with_reducible refine vEx ?_ | with_reducible refine vDrop ?_ | with_reducible refine vRetN ?_ | with_reducible refine vFldU ?_ | with_reducible refine vSFldU ?_ | with_reducible refine vXMake ?_ | with_reducible refine vMake ?_ | with_reducible refine vMeth ?_ | with_reducible refine vVinit ?_ | with_reducible refine vCallS ?_ | with_reducible refine vRaise ?_ | with_reducible refine vMethS ?_ | with_reducible refine vMakeS ?_ | with_reducible refine vUn ?_ | with_reducible refine vIf ?_ | with_reducible refine vRev ?_ | with_reducible refine vEnum ?_ | with_reducible refine vDGet2 ?_ | with_reducible refine vStep ?_)
local macro_rules | `(tactic| walk_at "vc") => `(tactic| repeat walk_at "vc1")
def fldn (i : Nat) : Str := if i = 1 then "name" else if i = 4 then "many" else "found"
structure Txt (K : W.Frag) (mg : Str → Option Value) (cc : Nat → Addr) (cw : Addr) : Prop where
  b_len : mg "len" = none
  b_int : mg "int" = none
  b_enumerate : mg "enumerate" = none
  b_all : mg "all" = none
  b_max : mg "max" = none
  b_min : mg "min" = none
  b_isinstance : mg "isinstance" = none
  b_bool : mg "bool" = none
  b_str : mg "str" = none
  b_range : mg "range" = none
  b_list : mg "list" = none
  b_tuple : mg "tuple" = none
  b_ValueError : mg "ValueError" = none
  g_LONGEST_NAME : ∃ tk, mg "LONGEST_NAME" = some (.int 6 tk)
  g_MOST_PLACES : ∃ tk, mg "MOST_PLACES" = some (.int 14 tk)
  g_MOST_TIES : ∃ tk, mg "MOST_TIES" = some (.int 30 tk)
  m_NoName : mg "NoName" = some (.ref (cc 0))
  m_Twice : mg "Twice" = some (.ref (cc 1))
  m_NoPlace : mg "NoPlace" = some (.ref (cc 2))
  m_NoTie : mg "NoTie" = some (.ref (cc 3))
  m_TooMany : mg "TooMany" = some (.ref (cc 4))
  m_NoNumbers : mg "NoNumbers" = some (.ref (cc 5))
  m_OnceError : mg "OnceError" = some (.ref (cc 6))
  vinit : VInit K
  xat : ∀ i, i < 6 + 1 → XAt K (cc i)
  na : ∀ i, i < 6 → NoAttr K (cc i) (fldn i)
  kit : ∀ i j, i < 6 → j < 6 → W.kitOne K (.ref (cc i)) (.ref (cc j)) = some (decide (i = j))
  kitV : ∀ i, i < 6 + 1 → W.kitOne K (.ref (cc i)) (.type "ValueError") = some true
  mroO : ∀ i, i < 6 → W.mroIn K (cc i) (.ref (cc 6)) = some true
  wcl : Cls K cw
  wn : NoAttr K cw "numbers"
  wo : NoAttr K cw "order"
  wr : NoAttr K cw "near"
  m_Web : mg "Web" = some (.ref cw)
  m_Play : mg "Play" = some (.ref (cc 9))
  pcl : Cls K (cc 9)
  pb : NoAttr K (cc 9) "board"
  pp : NoAttr K (cc 9) "path"
  g_MOST_FOR_ROWS : ∃ tk, mg "MOST_FOR_ROWS" = some (.int 3 tk)
  g_MOST_FOR_THEIR_NUMBER : ∃ tk, mg "MOST_FOR_THEIR_NUMBER" = some (.int 5 tk)
  mr5 : W.mroIn K (cc 5) (.ref (cc 5)) = some true
def spOnce (K : W.Frag) : Sp := fun vs H Q _ => ∃ (e C : Addr) (y : V), vs = [.ref e, y] ∧ H e = some (XN e C none) ∧ XAt K C ∧ Q .non H
def spX (C : Addr) (fl : Str) : Sp := fun vs H Q _ => ∃ (e : Addr) (v : V), vs = [.ref e, v] ∧ H e = some (XN e C none) ∧ ∀ dx, H dx = none → Q .non (upd (upd H dx (.xd [(fl, v)])) e (XN e C (some dx)))
section
variable {P : Program} {w : World} {K : W.Frag} {mg : Str → Option Value} {base : Heap} {cc : Nat → Addr} {cw : Addr}
theorem ok_once {f : Addr} {fd : FuncData} (F : Fun K "__init__" "OnceError.__init__" s_OnceError_init f fd) (T : Txt K mg cc cw) : FnOk P w K mg base CX0 1 f fd ["self", "text"] (spOnce K) := by
  refine F.ok sc_OnceError_init (fun vs H Q E h => ?_) fun cdv A outer s H vs Q E hr h => ?_
  · obtain ⟨e, C, y, rfl, _⟩ := h; rfl
  · obtain ⟨e, C, y, rfl, he, c, q⟩ := h
    refine ⟨_, (pss_one (ps_expr (k_vinit (K := K) rfl T.vinit rfl T.b_ValueError boot_ValueError (pa_cons (pv 0) (pa_cons (pv 1) pa_nil))))), ?_⟩
    walk_at "vc"
    exact ⟨e, C, y, rfl, he, c, q⟩
theorem ok_NoName {f : Addr} {fd : FuncData} (F : Fun K "__init__" "NoName.__init__" s_NoName_init f fd) (T : Txt K mg cc cw) (D_OnceError_init : CMethOk P w K mg base CX0 1 (cc 6) "OnceError" "__init__" ["self", "text"] (spOnce K)) :
    FnOk P w K mg base CX0 2 f fd ["self", "found"] (spX (cc 0) (fldn 0)) := by
  refine F.ok sc_NoName_init (fun vs H Q E h => ?_) fun cdv A outer s H vs Q E hr h => ?_
  · obtain ⟨e, v, rfl, _⟩ := h; rfl
  · obtain ⟨e, v, rfl, he, q⟩ := h
    refine ⟨_, (pss_cons (ps_expr (pe_clsmQ D_OnceError_init (hm hr) (pa_cons (pv 0) (pa_cons pe_str pa_nil))))
  (pss_one (k_sfldU (K := K) rfl (pv 0) (pv 1) rfl))), ?_⟩
    walk_at "vc"
    refine ⟨e, _, _, rfl, he, T.xat 0 (by decide), ?_⟩
    walk_at "vc"
    exact .inr ⟨e, _, rfl, he, T.xat 0 (by decide), T.na 0 (by decide), q⟩
theorem ok_Twice {f : Addr} {fd : FuncData} (F : Fun K "__init__" "Twice.__init__" s_Twice_init f fd) (T : Txt K mg cc cw) (D_OnceError_init : CMethOk P w K mg base CX0 1 (cc 6) "OnceError" "__init__" ["self", "text"] (spOnce K)) :
    FnOk P w K mg base CX0 2 f fd ["self", "name"] (spX (cc 1) (fldn 1)) := by
  refine F.ok sc_Twice_init (fun vs H Q E h => ?_) fun cdv A outer s H vs Q E hr h => ?_
  · obtain ⟨e, v, rfl, _⟩ := h; rfl
  · obtain ⟨e, v, rfl, he, q⟩ := h
    refine ⟨_, (pss_cons (ps_expr (pe_clsmQ D_OnceError_init (hm hr) (pa_cons (pv 0) (pa_cons pe_str pa_nil))))
  (pss_one (k_sfldU (K := K) rfl (pv 0) (pv 1) rfl))), ?_⟩
    walk_at "vc"
    refine ⟨e, _, _, rfl, he, T.xat 1 (by decide), ?_⟩
    walk_at "vc"
    exact .inr ⟨e, _, rfl, he, T.xat 1 (by decide), T.na 1 (by decide), q⟩
theorem ok_NoPlace {f : Addr} {fd : FuncData} (F : Fun K "__init__" "NoPlace.__init__" s_NoPlace_init f fd) (T : Txt K mg cc cw) (D_OnceError_init : CMethOk P w K mg base CX0 1 (cc 6) "OnceError" "__init__" ["self", "text"] (spOnce K)) :
    FnOk P w K mg base CX0 2 f fd ["self", "found"] (spX (cc 2) (fldn 2)) := by
  refine F.ok sc_NoPlace_init (fun vs H Q E h => ?_) fun cdv A outer s H vs Q E hr h => ?_
  · obtain ⟨e, v, rfl, _⟩ := h; rfl
  · obtain ⟨e, v, rfl, he, q⟩ := h
    refine ⟨_, (pss_cons (ps_expr (pe_clsmQ D_OnceError_init (hm hr) (pa_cons (pv 0) (pa_cons pe_str pa_nil))))
  (pss_one (k_sfldU (K := K) rfl (pv 0) (pv 1) rfl))), ?_⟩
    walk_at "vc"
    refine ⟨e, _, _, rfl, he, T.xat 2 (by decide), ?_⟩
    walk_at "vc"
    exact .inr ⟨e, _, rfl, he, T.xat 2 (by decide), T.na 2 (by decide), q⟩
theorem ok_NoTie {f : Addr} {fd : FuncData} (F : Fun K "__init__" "NoTie.__init__" s_NoTie_init f fd) (T : Txt K mg cc cw) (D_OnceError_init : CMethOk P w K mg base CX0 1 (cc 6) "OnceError" "__init__" ["self", "text"] (spOnce K)) :
    FnOk P w K mg base CX0 2 f fd ["self", "found"] (spX (cc 3) (fldn 3)) := by
  refine F.ok sc_NoTie_init (fun vs H Q E h => ?_) fun cdv A outer s H vs Q E hr h => ?_
  · obtain ⟨e, v, rfl, _⟩ := h; rfl
  · obtain ⟨e, v, rfl, he, q⟩ := h
    refine ⟨_, (pss_cons (ps_expr (pe_clsmQ D_OnceError_init (hm hr) (pa_cons (pv 0) (pa_cons pe_str pa_nil))))
  (pss_one (k_sfldU (K := K) rfl (pv 0) (pv 1) rfl))), ?_⟩
    walk_at "vc"
    refine ⟨e, _, _, rfl, he, T.xat 3 (by decide), ?_⟩
    walk_at "vc"
    exact .inr ⟨e, _, rfl, he, T.xat 3 (by decide), T.na 3 (by decide), q⟩
theorem ok_TooMany {f : Addr} {fd : FuncData} (F : Fun K "__init__" "TooMany.__init__" s_TooMany_init f fd) (T : Txt K mg cc cw) (D_OnceError_init : CMethOk P w K mg base CX0 1 (cc 6) "OnceError" "__init__" ["self", "text"] (spOnce K)) :
    FnOk P w K mg base CX0 2 f fd ["self", "many"] (spX (cc 4) (fldn 4)) := by
  refine F.ok sc_TooMany_init (fun vs H Q E h => ?_) fun cdv A outer s H vs Q E hr h => ?_
  · obtain ⟨e, v, rfl, _⟩ := h; rfl
  · obtain ⟨e, v, rfl, he, q⟩ := h
    refine ⟨_, (pss_cons (ps_expr (pe_clsmQ D_OnceError_init (hm hr) (pa_cons (pv 0) (pa_cons pe_str pa_nil))))
  (pss_one (k_sfldU (K := K) rfl (pv 0) (pv 1) rfl))), ?_⟩
    walk_at "vc"
    refine ⟨e, _, _, rfl, he, T.xat 4 (by decide), ?_⟩
    walk_at "vc"
    exact .inr ⟨e, _, rfl, he, T.xat 4 (by decide), T.na 4 (by decide), q⟩
theorem ok_NoNumbers {f : Addr} {fd : FuncData} (F : Fun K "__init__" "NoNumbers.__init__" s_NoNumbers_init f fd) (T : Txt K mg cc cw) (D_OnceError_init : CMethOk P w K mg base CX0 1 (cc 6) "OnceError" "__init__" ["self", "text"] (spOnce K)) :
    FnOk P w K mg base CX0 2 f fd ["self", "found"] (spX (cc 5) (fldn 5)) := by
  refine F.ok sc_NoNumbers_init (fun vs H Q E h => ?_) fun cdv A outer s H vs Q E hr h => ?_
  · obtain ⟨e, v, rfl, _⟩ := h; rfl
  · obtain ⟨e, v, rfl, he, q⟩ := h
    refine ⟨_, (pss_cons (ps_expr (pe_clsmQ D_OnceError_init (hm hr) (pa_cons (pv 0) (pa_cons pe_str pa_nil))))
  (pss_one (k_sfldU (K := K) rfl (pv 0) (pv 1) rfl))), ?_⟩
    walk_at "vc"
    refine ⟨e, _, _, rfl, he, T.xat 5 (by decide), ?_⟩
    walk_at "vc"
    exact .inr ⟨e, _, rfl, he, T.xat 5 (by decide), T.na 5 (by decide), q⟩
end
/- is_name: calls []; cells [] -/
abbrev s_is_name : Stmt := top 15
theorem sc_is_name : FnScope ["thing"] ["thing"] (defScope s_is_name) := ⟨rfl, rfl, rfl, by decide +kernel, rfl, by decide +kernel, by decide +kernel⟩
/- has_bit: calls []; cells [] -/
abbrev s_has_bit : Stmt := top 31
theorem sc_has_bit : FnScope ["bits", "number"] ["bits", "number"] (defScope s_has_bit) := ⟨rfl, rfl, rfl, by decide +kernel, rfl, by decide +kernel, by decide +kernel⟩
/- is_place: calls ['is_name']; cells [] -/
abbrev s_is_place : Stmt := top 32
theorem sc_is_place : FnScope ["numbers", "thing"] ["numbers", "thing"] (defScope s_is_place) := ⟨rfl, rfl, rfl, by decide +kernel, rfl, by decide +kernel, by decide +kernel⟩
/- are_two_places: calls ['is_place']; cells [] -/
abbrev s_are_two_places : Stmt := top 33
theorem sc_are_two_places : FnScope ["numbers", "thing", "both"] ["numbers", "thing"] (defScope s_are_two_places) := ⟨rfl, rfl, rfl, by decide +kernel, rfl, by decide +kernel, by decide +kernel⟩
theorem Snew {l : Addr} {H H1 : Hp} {o : HO} (a : L2.Same H H1) (hl : H1 l = none) : L2.Same H (upd H1 l o) := fun c u e => by
  have q := a c u e
  rw [upd_ne (ne_of_none q hl)]
  exact q
theorem Supd {l : Addr} {H H1 : Hp} {o : HO} (a : L2.Same H H1) (hl : H l = none) : L2.Same H (upd H1 l o) := fun c u e => by
  rw [upd_ne (ne_of_none e hl)]
  exact a c u e
def sg (c : Nat) : Bool := if (!decide (([c] : List Nat) < ("a" : Str).cps.toList)) = true then !decide (("z" : Str).cps.toList < [c]) else false
def nameS (x : Str) : Bool := if 1 ≤ x.length ∧ x.length ≤ 6 then x.cps.toList.all sg else false
def nameV : V → Bool
  | .str x => nameS x
  | _ => false
def strV : V → Str
  | .str x => x
  | _ => ""
theorem nameV_str {x : V} (h : nameV x = true) : x = .str (strV x) ∧ nameS (strV x) = true ∧ (strV x).length ≤ 6 := by
  cases x with
  | str y =>
    refine ⟨rfl, h, ?_⟩
    have h' : nameS y = true := h
    unfold nameS at h'
    split at h'
    · rename_i z; exact z.2
    · cases h'
  | _ => cases h
inductive Th (p : Addr) (H : Hp) : Nat → V → Prop
  | flat {n : Nat} {v : V} (f : flatV v = true) (l : ∀ s, v = .str s → s.length ≤ 100000) : Th p H n v
  | lst {n : Nat} {a : Addr} {xs : List V} (e : H a = some (.lst xs)) (ne : a ≠ p) (h : ∀ x ∈ xs, Th p H n x) (l : xs.length ≤ 1000) : Th p H (n + 1) (.ref a)
  | tup {n : Nat} {a : Addr} {xs : List V} (e : H a = some (.tup xs)) (ne : a ≠ p) (h : ∀ x ∈ xs, Th p H n x) (l : xs.length ≤ 1000) : Th p H (n + 1) (.ref a)
  | dct {n : Nat} {a : Addr} {kvs : List (Key × V)} (e : H a = some (.dK kvs)) (ne : a ≠ p) : Th p H n (.ref a)
theorem Th.mono {p : Addr} {H : Hp} : ∀ {n : Nat} {v : V}, Th p H n v → Th p H (n + 1) v
  | _, _, .flat f l => .flat f l
  | _, _, .lst e ne h l => .lst e ne (fun x hx => (h x hx).mono) l
  | _, _, .tup e ne h l => .tup e ne (fun x hx => (h x hx).mono) l
  | _, _, .dct e ne => .dct e ne
theorem Th.keep {p : Addr} {H H' : Hp} (k : ∀ b o, b ≠ p → H b = some o → H' b = some o) : ∀ {n : Nat} {v : V}, Th p H n v → Th p H' n v
  | _, _, .flat f l => .flat f l
  | _, _, .lst e ne h l => .lst (k _ _ ne e) ne (fun x hx => (h x hx).keep k) l
  | _, _, .tup e ne h l => .tup (k _ _ ne e) ne (fun x hx => (h x hx).keep k) l
  | _, _, .dct e ne => .dct (k _ _ ne e) ne
theorem Th.same {p : Addr} {H H' : Hp} {n : Nat} {v : V} (h : Th p H n v) (s : L2.Same H H') : Th p H' n v := h.keep fun b o _ e => s b o e
inductive Arg (p : Addr) (H : Hp) : V → Option (List V) → Prop
  | lst {a : Addr} {xs : List V} (e : H a = some (.lst xs)) (ne : a ≠ p) (h : ∀ x ∈ xs, Th p H 2 x) (l : xs.length ≤ 1000) : Arg p H (.ref a) (some xs)
  | tup {a : Addr} {xs : List V} (e : H a = some (.tup xs)) (ne : a ≠ p) (h : ∀ x ∈ xs, Th p H 2 x) (l : xs.length ≤ 1000) : Arg p H (.ref a) (some xs)
  | flat {v : V} (f : flatV v = true) (l : ∀ s, v = .str s → s.length ≤ 100000) : Arg p H v none
  | dct {a : Addr} {kvs : List (Key × V)} (e : H a = some (.dK kvs)) (ne : a ≠ p) : Arg p H (.ref a) none
theorem Arg.keep {p : Addr} {H H' : Hp} (k : ∀ b o, b ≠ p → H b = some o → H' b = some o) {v : V} {o : Option (List V)} (h : Arg p H v o) : Arg p H' v o := by
  cases h with
  | lst e ne h l => exact .lst (k _ _ ne e) ne (fun x hx => (h x hx).keep k) l
  | tup e ne h l => exact .tup (k _ _ ne e) ne (fun x hx => (h x hx).keep k) l
  | flat f l => exact .flat f l
  | dct e ne => exact .dct (k _ _ ne e) ne
theorem Arg.same {p : Addr} {H H' : Hp} {v : V} {o : Option (List V)} (h : Arg p H v o) (s : L2.Same H H') : Arg p H' v o := h.keep fun b o _ e => s b o e
def isB : V → Bool
  | .bl _ => true
  | _ => false
theorem Th.ty {K : W.Frag} {p : Addr} {H : Hp} {n : Nat} {v : V} (h : Th p H n v) : ∃ t ∈ ["NoneType", "bool", "int", "str", "list", "tuple", "dict"], TyOf K H v (.type t) ∧ (isaT t "str" = true → ∃ x, v = .str x ∧ x.length ≤ 100000) ∧ (isaT t "str" = false → nameV v = false) ∧
    (isaT t "tuple" = true → ∃ a xs, v = .ref a ∧ H a = some (.tup xs) ∧ xs.length ≤ 1000 ∧ ∀ x ∈ xs, Th p H n x) ∧ (isaT t "tuple" = false → ∀ a xs, v = .ref a → H a ≠ some (.tup xs)) ∧ isaT t "bool" = isB v := by
  have no : ∀ {P : Prop} {a b : String}, isaT a b = false → isaT a b = true → P := fun h1 h2 => by rw [h1] at h2; cases h2
  have yes : ∀ {P : Prop} {a b : String}, isaT a b = true → isaT a b = false → P := fun h1 h2 => by rw [h1] at h2; cases h2
  cases h with
  | flat f l =>
    cases v with
    | non => exact ⟨_, by simp, .non, no (by decide), fun _ => rfl, no (by decide), fun _ _ _ e => by (cases e), rfl⟩
    | bl x => exact ⟨_, by simp, .bl x, no (by decide), fun _ => rfl, no (by decide), fun _ _ _ e => by (cases e), rfl⟩
    | int x => exact ⟨_, by simp, .int x, no (by decide), fun _ => rfl, no (by decide), fun _ _ _ e => by (cases e), rfl⟩
    | str x => exact ⟨_, by simp, .str x, fun _ => ⟨x, rfl, l x rfl⟩, yes (by decide), no (by decide), fun _ _ _ e => by (cases e), rfl⟩
    | _ => cases f
  | lst e ne h l => exact ⟨_, by simp, .lst e, no (by decide), fun _ => rfl, no (by decide), fun _ _ _ z => by (cases z; rw [e]; intro y; cases y), rfl⟩
  | tup e ne h l => exact ⟨_, by simp, .tup e, no (by decide), fun _ => rfl, fun _ => ⟨_, _, rfl, e, l, fun x hx => (h x hx).mono⟩, yes (by decide), rfl⟩
  | dct e ne => exact ⟨_, by simp, .dK e, no (by decide), fun _ => rfl, no (by decide), fun _ _ _ z => by (cases z; rw [e]; intro y; cases y), rfl⟩
section
variable {P : Program} {w : World} {K : W.Frag} {mg : Str → Option Value} {base : Heap} {cc : Nat → Addr} {cw : Addr}
def spName : Sp := fun vs H Q _ => ∃ (p : Addr) (n : Nat) (v : V), vs = [v] ∧ Th p H n v ∧ ∀ H', L2.Same H H' → Q (.bl (nameV v)) H'
theorem ok_name {f : Addr} {fd : FuncData} (F : Fun K "is_name" "is_name" s_is_name f fd) (T : Txt K mg cc cw) : FnOk P w K mg base CX0 1 f fd ["thing"] spName := by
  refine F.ok sc_is_name (fun vs H Q E h => ?_) fun cdv A outer s H vs Q E hr h => ?_
  · obtain ⟨p, n, v, rfl, _⟩ := h; rfl
  · obtain ⟨p, n, v, rfl, hv, q⟩ := h
    refine ⟨_, (pss_cons (ps_if (PW.pt (pw_or (pt_not (pt_val (pe_callB (k_isiU (K := K) rfl) rfl T.b_isinstance boot_isinstance (pa_cons (pv 0) (pa_cons (pe_bltn (v := .ty "str") rfl T.b_str boot_str rfl) pa_nil))))) (pw_or1 (pt_not (pt_chain u_le u_le pe_int (pe_callB (k_len (K := K) rfl) rfl T.b_len boot_len (pa_cons (pv 0) pa_nil)) (pe_globI rfl T.g_LONGEST_NAME)))))) (pss_one (ps_ret pe_bl)) pss_nil)
  (pss_one (ps_ret (pe_callB (k_all (K := K) rfl rfl) rfl T.b_all boot_all (pa_cons (pe_comp (sc := defScope s_is_name) (XN := ["thing"]) ["sign"] 1 [] rfl rfl rfl (by decide +kernel) rfl (by decide +kernel)
   (ki_any (K := K) rfl (pv 0)) (fun _ _ _ _ => (pg_name (i := 0) (show (["sign"] : List Str).Nodup by decide +kernel) rfl (Or.inl rfl))) gk_name
   (fun _ _ _ _ => pifs_nil)
   (fun _ _ _ _ => (pe_chain u_le u_le pe_str (pv 0) pe_str))) pa_nil))))), ?_⟩
    obtain ⟨t, ht, ty, hs, hn, _, _, _⟩ := hv.ty (K := K)
    walk_at "vc"
    refine vIsiU (.inl ty) rfl (kit_tab K t ht "str" (by simp)) ?_
    walk_at "vc"
    refine ite2 (fun h => ?_) fun h => ?_
    · walk_at "vc"
      have z := q H (L2.Same.refl H)
      rw [hn (by simpa using h)] at z
      exact z
    · obtain ⟨x, rfl, hx⟩ := hs (by simpa using h)
      walk_at "vc"
      refine vLenS (Nat.le_trans hx (by decide)) ?_
      walk_at "vc"
      have q1 := q
      simp only [nameV, nameS] at q1
      have hneg : ¬ (1 ≤ x.length ∧ x.length ≤ 6) → ∀ H', L2.Same H H' → Q (.bl false) H' := fun hc H' hs => by
        have z := q1 H' hs
        rw [if_neg hc] at z
        exact z
      refine ite2 (fun h1 => ?_) fun h1 => ?_
      · walk_at "vc"
        refine ite2 (fun h2 => ?_) fun h2 => ?_
        · walk_at "vc"
          refine hneg (fun h => ?_) H (L2.Same.refl H)
          simp only [Bool.not_eq_true', decide_eq_false_iff_not] at h2
          omega
        · walk_at "vc"
          have hin : 1 ≤ x.length ∧ x.length ≤ 6 := by
            have a1 := of_decide_eq_true h1
            simp only [Bool.not_eq_true', decide_eq_false_iff_not, Classical.not_not] at h2
            omega
          rw [if_pos hin] at q1
          refine comp_str (fun i ys H' => H' = H ∧ ys = ((x.cps.toList.take i).map sg).map V.bl) ⟨rfl, by simp⟩ (fun i c ys H' hc hp => ?_) fun ys H' hp => ?_
          · obtain ⟨rfl, rfl⟩ := hp
            walk_at "vc"
            refine iteT ?_
            walk_at "vc"
            have hl : (List.map V.bl (List.map sg (List.take i x.cps.toList))).length < sizeLine := by
              rw [List.length_map, List.length_map, List.length_take]
              exact small1000 (Nat.le_trans (Nat.min_le_right _ _) (by simpa [Str.length] using (show x.length ≤ 1000 by omega)))
            have key : ∀ b, b = sg c → (List.map V.bl (List.map sg (List.take i x.cps.toList))) ++ [V.bl b] = List.map V.bl (List.map sg (List.take (i + 1) x.cps.toList)) := by
              intro b hb
              have e' : x.cps.toList[i]? = some c := by simpa using hc
              rw [hb, List.take_add_one, e']
              simp
            refine ite2 (fun h3 => ?_) fun h3 => ?_
            · walk_at "vc"
              exact ⟨hl, rfl, key _ (by unfold sg; rw [if_pos h3])⟩
            · exact ⟨hl, rfl, key _ (by unfold sg; rw [if_neg h3])⟩
          · obtain ⟨rfl, rfl⟩ := hp
            have ht : x.cps.toList.take x.cps.size = x.cps.toList := by rw [← Array.length_toList, List.take_length]
            rw [ht]
            refine ⟨?_, fun l hl => ?_⟩
            · rw [List.length_map, List.length_map]
              exact Nat.le_of_lt (small1000 (by simpa [Str.length] using (show x.length ≤ 1000 by omega)))
            · walk_at "vc"
              refine ⟨l, x.cps.toList.map sg, rfl, SqL.of upd_same, ?_⟩
              have z := q1 _ (Snew (L2.Same.refl H') (o := .lst ((x.cps.toList.map sg).map V.bl)) hl)
              rw [List.all_map]
              exact z
      · walk_at "vc"
        exact hneg (fun h => h1 (decide_eq_true (by omega))) H (L2.Same.refl H)
def spBit : Sp := fun vs H Q _ => ∃ b n : Int, vs = [.int b, .int n] ∧ 0 ≤ n ∧ Q (.bl (decide (Builtin.bitAnd (b / 2 ^ n.toNat) 1 = 1))) H
theorem ok_bit {f : Addr} {fd : FuncData} (F : Fun K "has_bit" "has_bit" s_has_bit f fd) : FnOk P w K mg base CX0 1 f fd ["bits", "number"] spBit := by
  refine F.ok sc_has_bit (fun vs H Q E h => ?_) fun cdv A outer s H vs Q E hr h => ?_
  · obtain ⟨b, n, rfl, _⟩ := h; rfl
  · obtain ⟨b, n, rfl, hn, q⟩ := h
    have hu := u100 hr
    refine ⟨_, (pss_one (ps_ret (pe_cmpR (k_eqZ (K := K) rfl hu) (pe_op op_and (pe_op op_shr (pv 0) (pv 1)) pe_int) pe_int (nomark _)))), ?_⟩
    walk_at "vc"
    refine vI hn ?_
    walk_at "vc"
    refine .inl (.inl (.inl ⟨rfl, rfl, ?_⟩))
    exact q
def numK : List Str → Nat → List (Key × V)
  | [], _ => []
  | s :: r, i => (.inr s, .int i) :: numK r (i + 1)
theorem numK_snoc (y : Str) : ∀ (ss : List Str) (i : Nat), numK (ss ++ [y]) i = numK ss i ++ [(.inr y, .int (i + ss.length : Nat))]
  | [], i => rfl
  | s :: r, i => by
    show (_ :: numK (r ++ [y]) (i + 1)) = _ :: (numK r (i + 1) ++ _)
    rw [numK_snoc y r (i + 1)]
    have : i + 1 + r.length = i + (s :: r).length := by simp; omega
    rw [this]
theorem numK_length : ∀ (ss : List Str) (i : Nat), (numK ss i).length = ss.length
  | [], _ => rfl
  | _ :: r, i => congrArg (· + 1) (numK_length r (i + 1))
theorem numK_none {y : Str} : ∀ {ss : List Str} {i : Nat}, y ∉ ss → valV (numK ss i) (.inr y : Key) = none
  | [], _, _ => rfl
  | s :: r, i, h => by
    have h1 : ¬ s = y := fun e => h (by rw [e]; exact List.mem_cons_self)
    show valV ((.inr s, V.int i) :: numK r (i + 1)) _ = none
    rw [valV_neg (p := ((.inr s : Key), V.int i)) (fun e => h1 (Sum.inr.inj e))]
    exact numK_none fun m => h (List.mem_cons_of_mem _ m)
theorem numK_some {y : Str} : ∀ {ss : List Str} {i : Nat}, y ∈ ss → ∃ j, j < ss.length ∧ ss[j]? = some y ∧ valV (numK ss i) (.inr y : Key) = some (.int (i + j : Nat))
  | [], _, h => by cases h
  | s :: r, i, h => by
    by_cases e : s = y
    · subst e
      exact ⟨0, by simp, rfl, valV_pos (p := ((.inr s : Key), V.int i)) rfl⟩
    · rcases List.mem_cons.mp h with z | z
      · exact absurd z.symm e
      · obtain ⟨j, h1, h2, h3⟩ := numK_some (i := i + 1) z
        refine ⟨j + 1, by simp; omega, by simpa using h2, ?_⟩
        show valV ((.inr s, V.int i) :: numK r (i + 1)) _ = _
        rw [valV_neg (p := ((.inr s : Key), V.int i)) (fun e' => e (Sum.inr.inj e')), h3]
        have : i + 1 + j = i + (j + 1) := by omega
        rw [this]
theorem numK_isSome (y : Str) (ss : List Str) (i : Nat) : (valV (numK ss i) (.inr y : Key)).isSome = decide (y ∈ ss) := by
  by_cases h : y ∈ ss
  · obtain ⟨j, _, _, e⟩ := numK_some (i := i) h
    rw [e, decide_eq_true h]; rfl
  · rw [numK_none h, decide_eq_false h]; rfl
def placeV (ss : List Str) (v : V) : Bool := if nameV v = true then decide (strV v ∈ ss) else false
def spPlace : Sp := fun vs H Q _ => ∃ (p : Addr) (n : Nat) (d : Addr) (ss : List Str) (v : V), vs = [.ref d, v] ∧ H d = some (.dK (numK ss 0)) ∧ Th p H n v ∧ ∀ H', L2.Same H H' → Q (.bl (placeV ss v)) H'
theorem ok_place {f : Addr} {fd : FuncData} (F : Fun K "is_place" "is_place" s_is_place f fd) (D_is_name : DefOk P w K mg base CX0 1 "is_name" ["thing"] spName) : FnOk P w K mg base CX0 2 f fd ["numbers", "thing"] spPlace := by
  refine F.ok sc_is_place (fun vs H Q E h => ?_) fun cdv A outer s H vs Q E hr h => ?_
  · obtain ⟨p, n, d, ss, v, rfl, _⟩ := h; rfl
  · obtain ⟨p, n, d, ss, v, rfl, hd, hv, q⟩ := h
    have hu := u100 hr
    refine ⟨_, (pss_one (ps_ret (pe_and (pe_def D_is_name (hm hr) pass0 (pa_cons (pv 1) pa_nil)) (pe_one (pe_cmpR (k_inU (K := K) rfl hu) (pv 1) (pv 0) (by with_unfolding_all rfl)))))), ?_⟩
    walk_at "vc"
    refine ⟨p, n, v, rfl, hv, fun H1 s1 => ?_⟩
    walk_at "vc"
    have q1 := q H1 s1
    unfold placeV at q1
    refine ite2 (fun hc => ?_) fun hc => ?_
    · walk_at "vc"
      rw [if_pos hc] at q1
      obtain ⟨e, _, _⟩ := nameV_str hc
      generalize strV v = x at q1 e
      subst e
      refine .inr (.inl ⟨d, _, rfl, DGet.k (k := Sum.inr x) (s1 d _ hd), ?_⟩)
      rw [numK_isSome]
      exact q1
    · rw [if_neg hc] at q1
      exact q1
def pairV (ss : List Str) (y z : V) : Bool := placeV ss y && placeV ss z && !decide (strV y = strV z)
def tieV (H : Hp) (ss : List Str) (x : V) : Option (Str × Str) := match x with
  | .ref a => (match H a with
    | some (.tup [y, z]) => if pairV ss y z = true then some (strV y, strV z) else none
    | _ => none)
  | _ => none
theorem tieV_tup {H : Hp} {ss : List Str} {a : Addr} {y z : V} (e : H a = some (.tup [y, z])) : tieV H ss (.ref a) = if pairV ss y z = true then some (strV y, strV z) else none := by
  unfold tieV
  dsimp only
  rw [e]
theorem tieV_not {H : Hp} {ss : List Str} {x : V} (h : ∀ a xs, x = .ref a → H a = some (.tup xs) → xs.length ≠ 2) : tieV H ss x = none := by
  unfold tieV
  cases x with
  | ref a =>
    dsimp only
    split
    · rename_i y z e; exact absurd rfl (h a _ rfl e)
    · rfl
  | _ => rfl
theorem tieV_keep {p : Addr} {n : Nat} {H H' : Hp} {ss : List Str} {x : V} (h : Th p H n x) (k : ∀ b o, b ≠ p → H b = some o → H' b = some o) : tieV H' ss x = tieV H ss x := by
  cases h with
  | flat f l => cases x <;> first | rfl | cases f
  | lst e ne h l => rw [tieV_not (H := H') (fun a xs z y => by (cases z; rw [k _ _ ne e] at y; cases y)), tieV_not (H := H) fun a xs z y => by (cases z; rw [e] at y; cases y)]
  | tup e ne h l => unfold tieV; dsimp only; rw [k _ _ ne e, e]
  | dct e ne => rw [tieV_not (H := H') (fun a xs z y => by (cases z; rw [k _ _ ne e] at y; cases y)), tieV_not (H := H) fun a xs z y => by (cases z; rw [e] at y; cases y)]
theorem tieV_same {p : Addr} {n : Nat} {H H' : Hp} {ss : List Str} {x : V} (h : Th p H n x) (s : L2.Same H H') : tieV H' ss x = tieV H ss x := tieV_keep h fun b o _ e => s b o e
theorem placeV_name {ss : List Str} {v : V} (h : placeV ss v = true) : nameV v = true ∧ strV v ∈ ss := by
  unfold placeV at h
  split at h
  · rename_i z; exact ⟨z, of_decide_eq_true h⟩
  · cases h
def spTwo : Sp := fun vs H Q _ => ∃ (p : Addr) (n : Nat) (d : Addr) (ss : List Str) (v : V), vs = [.ref d, v] ∧ H d = some (.dK (numK ss 0)) ∧ Th p H n v ∧ ∀ H', L2.Same H H' → Q (.bl (tieV H ss v).isSome) H'
theorem ok_two {f : Addr} {fd : FuncData} (F : Fun K "are_two_places" "are_two_places" s_are_two_places f fd) (T : Txt K mg cc cw) (D_is_place : DefOk P w K mg base CX0 2 "is_place" ["numbers", "thing"] spPlace) : FnOk P w K mg base CX0 3 f fd ["numbers", "thing"] spTwo := by
  refine F.ok sc_are_two_places (fun vs H Q E h => ?_) fun cdv A outer s H vs Q E hr h => ?_
  · obtain ⟨p, n, d, ss, v, rfl, _⟩ := h; rfl
  · obtain ⟨p, n, d, ss, v, rfl, hd, hv, q⟩ := h
    have hu := u100 hr
    refine ⟨_, (pss_cons (ps_if (PW.pt (pw_or (pt_not (pt_val (pe_callB (k_isiU (K := K) rfl) rfl T.b_isinstance boot_isinstance (pa_cons (pv 1) (pa_cons (pe_bltn (v := .ty "tuple") rfl T.b_tuple boot_tuple rfl) pa_nil))))) (pw_or1 (pt_cmpR (k_neU (K := K) rfl hu) (pe_callB (k_len (K := K) rfl) rfl T.b_len boot_len (pa_cons (pv 1) pa_nil)) pe_int (nomark _))))) (pss_one (ps_ret pe_bl)) pss_nil)
  (pss_cons (ps_set (i := 2) sc_are_two_places.nd rfl (Or.inl rfl) (pe_and (pe_def D_is_place (hm hr) pass0 (pa_cons (pv 0) (pa_cons (pe_ix (k_ixU (K := K) rfl hu) (pv 1) pe_int (fun _ _ => rfl)) pa_nil))) (pe_one (pe_def D_is_place (hm hr) pass0 (pa_cons (pv 0) (pa_cons (pe_ix (k_ixU (K := K) rfl hu) (pv 1) pe_int (fun _ _ => rfl)) pa_nil))))))
  (pss_one (ps_ret (pe_and (pv 2) (pe_one (pe_cmpR (k_neU (K := K) rfl hu) (pe_ix (k_ixU (K := K) rfl hu) (pv 1) pe_int (fun _ _ => rfl)) (pe_ix (k_ixU (K := K) rfl hu) (pv 1) pe_int (fun _ _ => rfl)) (nomark _)))))))), ?_⟩
    obtain ⟨t, ht, ty, _, _, h1, h2, _⟩ := hv.ty (K := K)
    walk_at "vc"
    refine vIsiU (.inl ty) rfl (kit_tab K t ht "tuple" (by simp)) ?_
    walk_at "vc"
    refine ite2 (fun h => ?_) fun h => ?_
    · walk_at "vc"
      have z := q H (L2.Same.refl H)
      rw [tieV_not (fun a xs e y => absurd y (h2 (by simpa using h) a xs e))] at z
      exact z
    · obtain ⟨a, xs, rfl, ea, _, hx⟩ := h1 (by simpa using h)
      walk_at "vc"
      refine vLenT ea ?_
      walk_at "vc"
      refine .inl ⟨rfl, rfl, ?_⟩
      walk_at "vc"
      refine ite2 (fun h => ?_) fun h => ?_
      · walk_at "vc"
        have z := q H (L2.Same.refl H)
        rw [tieV_not (fun a' xs' e y => by
          cases e
          rw [ea] at y
          cases y
          intro e2
          rw [e2] at h
          simp [eqV] at h)] at z
        exact z
      · have hl : xs.length = 2 := by
          simp only [if_true, eqV, Bool.not_eq_true', Bool.not_eq_false'] at h
          have h' : ((xs.length : Int) == 2) = true := by simpa using h
          have := eq_of_beq h'
          omega
        match xs, hl, ea, hx with
        | [y, z], _, ea, hx =>
          have hy := hx y (by simp)
          have hz := hx z (by simp)
          rw [tieV_tup ea] at q
          walk_at "vc"
          refine .inl (vIxT ea rfl ?_)
          walk_at "vc"
          refine ⟨p, n, d, ss, y, rfl, hd, hy, fun H1 s1 => ?_⟩
          walk_at "vc"
          have fin : ∀ H2, L2.Same H H2 → ¬ (placeV ss y = true ∧ placeV ss z = true) → Q (.bl false) H2 := fun H2 s2 hn => by
            have := q H2 s2
            rw [if_neg (fun e => hn (by unfold pairV at e; simp only [Bool.and_eq_true] at e; exact ⟨e.1.1, e.1.2⟩))] at this
            exact this
          refine ite2 (fun h3 => ?_) fun h3 => ?_
          · walk_at "vc"
            refine .inl (vIxT (s1 _ _ ea) rfl ?_)
            walk_at "vc"
            refine ⟨p, n, d, ss, z, rfl, s1 _ _ hd, hz.same s1, fun H2 s2 => ?_⟩
            walk_at "vc"
            refine ite2 (fun h4 => ?_) fun h4 => ?_
            · walk_at "vc"
              refine .inl (vIxT (s2 _ _ (s1 _ _ ea)) rfl ?_)
              walk_at "vc"
              refine .inl (vIxT (s2 _ _ (s1 _ _ ea)) rfl ?_)
              obtain ⟨ny, _⟩ := placeV_name h3
              obtain ⟨nz, _⟩ := placeV_name h4
              obtain ⟨ey, _, _⟩ := nameV_str ny
              obtain ⟨ez, _, _⟩ := nameV_str nz
              have fq := q H2 (s1.trans s2)
              unfold pairV at fq
              rw [h3, h4] at fq
              generalize strV y = sy at ey fq
              generalize strV z = sz at ez fq
              subst ey ez
              refine .inl ⟨rfl, rfl, ?_⟩
              have e : (if true = true then !eqV (V.str sy) (V.str sz) else eqV (V.str sy) (V.str sz)) = (if (true && true && !decide (sy = sz)) = true then some (sy, sz) else none).isSome := by
                by_cases hs : sy = sz
                · subst hs; simp [eqV]
                · simp [eqV, hs]
              rw [e]
              exact fq
            · exact fin H2 (s1.trans s2) fun e => h4 e.2
          · walk_at "vc"
            refine ite2 (fun h => by cases h) fun _ => ?_
            exact fin H1 s1 fun e => h3 e.1
end
/- numbers_of: calls ['is_name']; cells [] -/
abbrev s_numbers_of : Stmt := top 34
theorem sc_numbers_of : FnScope ["names", "numbers", "name"] ["names"] (defScope s_numbers_of) := ⟨rfl, rfl, rfl, by decide +kernel, rfl, by decide +kernel, by decide +kernel⟩
theorem bit_has (m j : Nat) : decide (Builtin.bitAnd ((m : Int) / 2 ^ (j : Int).toNat) 1 = 1) = m.testBit j := by
  rw [PyProof.Rows.bitAnd_m1, Nat.testBit_eq_decide_div_mod_eq]
  rw [Int.toNat_natCast]
  have e : (m : Int) / 2 ^ j = ((m / 2 ^ j : Nat) : Int) := by rw [Int.natCast_ediv, Int.natCast_pow]; rfl
  rw [e]
  congr 1
  apply propext
  omega
theorem bit_or (m j : Nat) : Builtin.bitOr (m : Int) (1 * 2 ^ (j : Int).toNat) = ((m ||| 2 ^ j : Nat) : Int) := by
  have e : (1 * 2 ^ (j : Int).toNat : Int) = ((2 ^ j : Nat) : Int) := by rw [Int.toNat_natCast, Int.one_mul, Int.natCast_pow]; rfl
  rw [e]
  generalize 2 ^ j = k
  have n1 : Builtin.bitNot (m : Int) = -(m : Int) - 1 := rfl
  have n2 : Builtin.bitNot (k : Int) = -(k : Int) - 1 := rfl
  unfold Builtin.bitOr Builtin.bitAnd
  rw [n1, n2, decide_eq_false (by omega), decide_eq_false (by omega)]
  dsimp only
  unfold Builtin.bitNot
  have e1 : (-(-(m : Int) - 1) - 1).toNat = m := by omega
  have e2 : (-(-(k : Int) - 1) - 1).toNat = k := by omega
  rw [e1, e2]
  omega
def But (x : Addr) (H H' : Hp) : Prop := ∀ b o, b ≠ x → H b = some o → H' b = some o
theorem But.refl (x : Addr) (H : Hp) : But x H H := fun _ _ _ e => e
theorem But.same {x : Addr} {H H1 H2 : Hp} (a : But x H H1) (b : L2.Same H1 H2) : But x H H2 := fun c o n e => b c o (a c o n e)
theorem But.put {x : Addr} {H H1 : Hp} {o : HO} (a : But x H H1) : But x H (upd H1 x o) := fun c u n e => by rw [upd_ne n]; exact a c u n e
theorem But.new {x l : Addr} {H H1 : Hp} {o : HO} (a : But x H H1) (hl : H1 l = none) : But x H (upd H1 l o) := a.same (Snew (L2.Same.refl H1) hl)
theorem raise_done {K : W.Frag} {H1 : Hp} {C : Addr} {fl : Str} {y : V} {E : XK} (c : XAt K C) (q : ∀ dx H', L2.Same H1 H' → H' dx = some (.xd [(fl, y)]) → E (.ref C) (some dx) H') :
    [y].length ≤ 1000 ∧ ∀ x, H1 x = none → spX C fl (.ref x :: [y]) (upd H1 x (XN x C none)) (fun v H2 => v = .non ∧ ∃ a C' dx, (V.ref x) = .ref a ∧ H2 a = some (XN a C' dx) ∧ XAt K C' ∧ E (.ref C') dx (upd H2 a (XO a C' dx))) E0 := by
  refine ⟨by show 1 ≤ 1000; decide, fun x hx => ⟨x, y, rfl, upd_same, fun dx hdx => ⟨rfl, x, C, some dx, rfl, upd_same, c, q dx _ (fun b o e => ?_) ?_⟩⟩⟩
  · have nx : b ≠ x := fun z => by rw [z, hx] at e; cases e
    have nd : b ≠ dx := fun z => by rw [← z, upd_ne nx, e] at hdx; cases hdx
    rw [upd_ne nx, upd_ne nx, upd_ne nd, upd_ne nx]
    exact e
  · have nd : dx ≠ x := fun z => by rw [z, upd_same] at hdx; cases hdx
    rw [upd_ne nd, upd_ne nd, upd_same]
def ForR (g : TG) (t : TS) (D : Ends) (σ : L2.St) (J : It) (H1 : Hp) : Prop := ∃ W : Nat → Nat → L2.St → Hp → Prop, (∃ m, W 0 m σ H1) ∧ ∀ i m σ H, W i m σ H →
  (J.stop i H ∧ D.nx σ H) ∨ (J.go i H ∧ ∃ N : L2.St → Hp → Prop, (∀ σ' H', N σ' H' → ∃ m', m' < m ∧ W (i + 1) m' σ' H') ∧ ∀ x H', J.yld i H x H' → g x σ H' fun σ2 H2 => t { D with nx := N, ct := N, bk := D.nx } σ2 H2)
theorem for_arg {K : W.Frag} {p : Addr} {H H1 : Hp} {v : V} {xs : List V} {g : TG} {tb : TS} {D : Ends} {σ : L2.St} (h : Arg p H v (some xs)) (s1 : L2.Same H H1) (Pv : Nat → L2.St → Hp → Prop) (h0 : Pv 0 σ H1) (hl : ∀ i σ H', Pv i σ H' → L2.Same H H')
    (hs : ∀ i x σ H, xs[i]? = some x → Pv i σ H → g x σ H fun σ2 H2 => tb { D with nx := Pv (i + 1), ct := Pv (i + 1), bk := D.nx } σ2 H2) (hd : ∀ σ H, Pv xs.length σ H → D.nx σ H) :
    (match v with
      | .str x => ForR g tb D σ (Its x) H1
      | .ref a => ((∃ xs, SqL K H1 a xs) ∧ ForR g tb D σ (Itl K a) H1) ∨ ((∃ xs, SqT K H1 a xs) ∧ ForR g tb D σ (Itt K a) H1)
      | _ => False) := by
  cases h with
  | lst e ne h l => exact .inl ⟨⟨_, SqL.of (s1 _ _ e)⟩, for_list (K := K) Pv h0 (fun i σ H' _ hp => SqL.of (hl i σ H' hp _ _ e)) hs hd⟩
  | tup e ne h l => exact .inr ⟨⟨_, SqT.of (s1 _ _ e)⟩, for_tup (K := K) Pv h0 (fun i σ H' _ hp => SqT.of (hl i σ H' hp _ _ e)) hs hd⟩
theorem Arg.ty {K : W.Frag} {p : Addr} {H : Hp} {v : V} {o : Option (List V)} (h : Arg p H v o) : ∃ t, TyX K H v t ∧ W.kitAny K t [.type "list", .type "tuple"] = some o.isSome := by
  cases h with
  | lst e ne h l => exact ⟨_, .inl (.lst e), rfl⟩
  | tup e ne h l => exact ⟨_, .inl (.tup e), rfl⟩
  | flat f l =>
    cases v with
    | non => exact ⟨_, .inl .non, rfl⟩
    | bl x => exact ⟨_, .inl (.bl x), rfl⟩
    | int x => exact ⟨_, .inl (.int x), rfl⟩
    | str x => exact ⟨_, .inl (.str x), rfl⟩
    | _ => cases f
  | dct e ne => exact ⟨_, .inl (.dK e), rfl⟩
theorem Arg.len {K : W.Frag} {p : Addr} {H : Hp} {v : V} {xs : List V} {Q : VK} (h : Arg p H v (some xs)) (q : Q (.int xs.length) H) : rLenU K [v] H Q := by
  cases h with
  | lst e ne h l => exact vLenL e q
  | tup e ne h l => exact vLenT e q
theorem Arg.few {p : Addr} {H : Hp} {v : V} {xs : List V} (h : Arg p H v (some xs)) : xs.length ≤ 1000 ∧ ∀ x ∈ xs, Th p H 2 x := by
  cases h with
  | lst e ne h l => exact ⟨l, h⟩
  | tup e ne h l => exact ⟨l, h⟩
theorem Arg.isi {K : W.Frag} {p q : Addr} {H : Hp} {v : V} {o : Option (List V)} {Q : VK} (h : Arg p H v o) (hq : H q = some (.tup [.ty "list", .ty "tuple"])) (k : Q (.bl o.isSome) H) : rIsiTU K [v, .ref q] H Q := by
  obtain ⟨t, ty, e⟩ := h.ty (K := K)
  exact ⟨v, q, _, t, _, _, rfl, ty, hq, rfl, e, k⟩
def dueN : List V → List Str → Option (Nat × V)
  | [], _ => none
  | x :: r, ss => if nameV x = true then (if strV x ∈ ss then some (1, x) else dueN r (ss ++ [strV x])) else some (0, x)
theorem dueN_cons (x : V) (r : List V) (ss : List Str) : dueN (x :: r) ss = if nameV x = true then (if strV x ∈ ss then some (1, x) else dueN r (ss ++ [strV x])) else some (0, x) := rfl
theorem dueN_none : ∀ {xs : List V} {ss : List Str}, dueN xs ss = none → xs = (xs.map strV).map V.str ∧ (∀ x ∈ xs, nameV x = true) ∧ (∀ s ∈ xs.map strV, s ∉ ss) ∧ (xs.map strV).Nodup
  | [], ss, _ => ⟨rfl, by simp, by simp, by simp⟩
  | x :: r, ss, h => by
    unfold dueN at h
    split at h
    · rename_i hn
      split at h
      · cases h
      · rename_i hm
        obtain ⟨i1, i2, i3, i4⟩ := dueN_none h
        obtain ⟨e, _, _⟩ := nameV_str hn
        refine ⟨?_, ?_, ?_, ?_⟩
        · rw [List.map_cons, List.map_cons, ← e, ← i1]
        · intro y hy
          rcases List.mem_cons.mp hy with rfl | hy
          · exact hn
          · exact i2 y hy
        · intro s hs
          rcases List.mem_cons.mp hs with rfl | hs
          · exact hm
          · exact fun z => i3 s hs (List.mem_append_left _ z)
        · rw [List.map_cons, List.nodup_cons]
          exact ⟨fun z => i3 _ z (List.mem_append_right _ (by simp)), i4⟩
    · cases h
def outN (v : V) : Option (List V) → Option (Nat × V)
  | none => some (0, v)
  | some xs => if 14 < xs.length then some (4, .int xs.length) else dueN xs []
def Rz (cc : Nat → Addr) (H : Hp) (E : XK) (r : Nat × V) : Prop := ∀ dx H', L2.Same H H' → H' dx = some (.xd [(fldn r.1, r.2)]) → E (.ref (cc r.1)) (some dx) H'
theorem Rz.later {cc : Nat → Addr} {H H1 : Hp} {E : XK} {r : Nat × V} (h : Rz cc H E r) (s : L2.Same H H1) : Rz cc H1 E r := fun dx H' t e => h dx H' (s.trans t) e
def spNums (cc : Nat → Addr) : Sp := fun vs H Q E => ∃ (p : Addr) (v : V) (o : Option (List V)), vs = [v] ∧ Arg p H v o ∧ (∀ r, outN v o = some r → Rz cc H E r) ∧ (outN v o = none → ∀ d H', L2.Same H H' → H d = none → H' d = some (.dK (numK ((o.getD []).map strV) 0)) → Q (.ref d) H')
section
variable {P : Program} {w : World} {K : W.Frag} {mg : Str → Option Value} {base : Heap} {cc : Nat → Addr} {cw : Addr}
theorem ok_nums {f : Addr} {fd : FuncData} (F : Fun K "numbers_of" "numbers_of" s_numbers_of f fd) (T : Txt K mg cc cw) (D_is_name : DefOk P w K mg base CX0 1 "is_name" ["thing"] spName)
    (D_NoName : XMakeOk P w K mg base 2 (cc 0) "NoName" ["self", "found"] (spX (cc 0) (fldn 0))) (D_Twice : XMakeOk P w K mg base 2 (cc 1) "Twice" ["self", "name"] (spX (cc 1) (fldn 1))) (D_TooMany : XMakeOk P w K mg base 2 (cc 4) "TooMany" ["self", "many"] (spX (cc 4) (fldn 4))) :
    FnOk P w K mg base (CX1 P w) 4 f fd ["names"] (spNums cc) := by
  refine F.ok1 sc_numbers_of (fun vs H Q E h => ?_) fun cdv A outer s H vs Q E hr h => ?_
  · obtain ⟨p, v, o, rfl, _⟩ := h; rfl
  · obtain ⟨p, v, o, rfl, ha, hz, q⟩ := h
    have hu := u100 hr
    refine ⟨_, (pss_cons (ps_if (pt_not (pt_val (pe_callB (k_isiTU (K := K) rfl) rfl T.b_isinstance boot_isinstance (pa_cons (pv 0) (pa_cons (pe_tup (pa_cons (pe_bltn (v := .ty "list") rfl T.b_list boot_list rfl) (pa_cons (pe_bltn (v := .ty "tuple") rfl T.b_tuple boot_tuple rfl) pa_nil))) pa_nil))))) (pss_one (k_raise (K := K) rfl xok_fn (pe_xm D_NoName (hm hr) (pa_cons (pv 0) pa_nil)))) pss_nil)
  (pss_cons (ps_if (pt_cmpR op_gt (pe_callB (k_len (K := K) rfl) rfl T.b_len boot_len (pa_cons (pv 0) pa_nil)) (pe_globI rfl T.g_MOST_PLACES) (nomark _)) (pss_one (k_raise (K := K) rfl xok_fn (pe_xm D_TooMany (hm hr) (pa_cons (pe_callB (k_len (K := K) rfl) rfl T.b_len boot_len (pa_cons (pv 0) pa_nil)) pa_nil)))) pss_nil)
  (pss_cons (ps_set (i := 1) sc_numbers_of.nd rfl (Or.inl rfl) pe_dnewK)
  (pss_cons (ps_for PassesOwn.leaving rfl (ki_any (K := K) rfl (pv 0)) (pg_name (i := 2) sc_numbers_of.nd rfl (Or.inl rfl))
  (pss_cons (ps_if (pt_not (pt_val (pe_def D_is_name (hm hr) pass0 (pa_cons (pv 2) pa_nil)))) (pss_one (k_raise (K := K) rfl xok_fn (pe_xm D_NoName (hm hr) (pa_cons (pv 2) pa_nil)))) pss_nil)
  (pss_cons (ps_if (pt_cmpR (k_inU (K := K) rfl hu) (pv 2) (pv 1) (by with_unfolding_all rfl)) (pss_one (k_raise (K := K) rfl xok_fn (pe_xm D_Twice (hm hr) (pa_cons (pv 2) pa_nil)))) pss_nil)
  (pss_one (ps_asg (pe_callB (k_len (K := K) rfl) rfl T.b_len boot_len (pa_cons (pv 1) pa_nil)) (pg_sub (pv 1) (pv 2) (k_setU hu)))))))
  (pss_one (ps_ret (pv 1))))))), ?_⟩
    walk_at "vc"
    refine ⟨by show 2 ≤ sizeLine; decide, fun g hg => ?_⟩
    have s0 := Snew (L2.Same.refl H) (o := .tup [.ty "list", .ty "tuple"]) hg
    walk_at "vc"
    refine (ha.same s0).isi upd_same ?_
    walk_at "vc"
    cases o with
    | none =>
      refine ite2 (fun _ => ?_) (fun h => absurd rfl h)
      walk_at "vc"
      exact raise_done (T.xat 0 (by decide)) ((hz (0, v) rfl).later s0)
    | some xs =>
      refine ite2 (fun h => by cases h) fun _ => ?_
      obtain ⟨few, hth⟩ := ha.few
      walk_at "vc"
      refine (ha.same s0).len ?_
      walk_at "vc"
      refine ite2 (fun h => ?_) fun h => ?_
      · walk_at "vc"
        refine (ha.same s0).len ?_
        walk_at "vc"
        have h' : 14 < xs.length := by have := of_decide_eq_true h; omega
        exact raise_done (T.xat 4 (by decide)) ((hz (4, .int xs.length) (by show (if 14 < xs.length then _ else _) = _; rw [if_pos h'])).later s0)
      · have h' : ¬ 14 < xs.length := fun z => h (decide_eq_true (by omega))
        have ho : outN v (some xs) = dueN xs [] := by show (if 14 < xs.length then _ else _) = _; rw [if_neg h']
        rw [ho] at hz q
        walk_at "vc"
        intro d hd
        have s1 := Snew s0 (o := .dK []) hd
        have hd0 : H d = none := s0.free hd
        walk_at "vc"
        refine for_arg ha s1 (fun i σ H' => ∃ v2, σ = [some v, some (.ref d), v2] ∧ L2.Same H H' ∧ H' d = some (.dK (numK ((xs.take i).map strV) 0)) ∧ dueN xs [] = dueN (xs.drop i) ((xs.take i).map strV)) ⟨none, rfl, s1, upd_same, rfl⟩ (fun i σ H' hp => by obtain ⟨_, _, z, _⟩ := hp; exact z) (fun i x σ H' hx hp => ?_) fun σ H' hp => ?_
        · obtain ⟨v2, rfl, s2, hk, hdue⟩ := hp
          have hil : i < xs.length := (List.getElem?_eq_some_iff.mp hx).1
          have hdr : xs.drop i = x :: xs.drop (i + 1) := by
            rw [List.drop_eq_getElem_cons hil]
            have := (List.getElem?_eq_some_iff.mp hx).2
            rw [this]
          have htk : xs.take (i + 1) = xs.take i ++ [x] := by rw [List.take_add_one, hx]; rfl
          rw [hdr, dueN_cons] at hdue
          walk_at "vc"
          refine ⟨p, 2, x, rfl, (hth x (List.mem_of_getElem? hx)).same s2, fun H1 t1 => ?_⟩
          have s3 := s2.trans t1
          walk_at "vc"
          refine ite2 (fun hn => ?_) fun hn => ?_
          · walk_at "vc"
            have hn' : ¬ nameV x = true := by simpa using hn
            rw [if_neg hn'] at hdue
            exact raise_done (T.xat 0 (by decide)) ((hz (0, x) hdue).later s3)
          · have hn' : nameV x = true := by simpa using hn
            rw [if_pos hn'] at hdue
            obtain ⟨ex, _, hx6⟩ := nameV_str hn'
            have key : ∀ y, y = strV x → x = .str y := fun y hy => by rw [hy]; exact ex
            generalize hy : strV x = y at hdue hx6 ex
            subst ex
            walk_at "vc"
            refine .inr (.inl ⟨d, _, rfl, DGet.k (k := Sum.inr y) (t1 _ _ hk), ?_⟩)
            rw [numK_isSome]
            walk_at "vc"
            refine ite2 (fun hm => ?_) fun hm => ?_
            · walk_at "vc"
              have hm' : y ∈ (xs.take i).map strV := of_decide_eq_true hm
              rw [if_pos hm'] at hdue
              exact raise_done (T.xat 1 (by decide)) ((hz (1, .str y) hdue).later s3)
            · have hm' : y ∉ (xs.take i).map strV := fun z => hm (decide_eq_true z)
              rw [if_neg hm'] at hdue
              walk_at "vc"
              refine .inr ⟨_, t1 _ _ hk, ?_⟩
              walk_at "vc"
              refine .inr ⟨d, _, rfl, DPut.k (k := Sum.inr y) (t1 _ _ hk) (small1000 (by rw [numK_length, List.length_map, List.length_take]; omega)), ?_⟩
              refine ⟨_, rfl, Supd s3 hd0, ?_, ?_⟩
              · rw [upd_same, putK_new _ (numK_none hm'), htk, List.map_append, List.map_cons, List.map_nil, numK_snoc, numK_length]
                simp only [Nat.zero_add]
                rfl
              · rw [hdue, htk, List.map_append]
                rfl
        · obtain ⟨v2, rfl, s2, hk, hdue⟩ := hp
          rw [List.drop_length] at hdue
          walk_at "vc"
          rw [List.take_length] at hk
          exact q hdue d H' s2 hd0 hk
end
/- Web.__init__: calls ['numbers_of', 'near_of'] -/
abbrev s_Web_init : Stmt := inClass (top 30) 0
theorem sc_Web_init : FnScope ["self", "names", "ties"] ["self", "names", "ties"] (defScope s_Web_init) := ⟨rfl, rfl, rfl, by decide +kernel, rfl, by decide +kernel, by decide +kernel⟩
/- near_of: calls ['are_two_places', 'has_bit']; cells [] -/
abbrev s_near_of : Stmt := top 35
theorem sc_near_of : FnScope ["numbers", "ties", "near", "tie", "one", "other"] ["numbers", "ties"] (defScope s_near_of) := ⟨rfl, rfl, rfl, by decide +kernel, rfl, by decide +kernel, by decide +kernel⟩
def goT (H : Hp) (ss : List Str) : List V → List (Str × Str) → Option V
  | [], _ => none
  | x :: r, seen => match tieV H ss x with
    | none => some x
    | some t => if t ∈ seen ∨ (t.2, t.1) ∈ seen then some x else goT H ss r (seen ++ [t])
theorem goT_no {H : Hp} {ss : List Str} {x : V} {r : List V} {seen : List (Str × Str)} (h : tieV H ss x = none) : goT H ss (x :: r) seen = some x := by
  show (match tieV H ss x with | none => _ | some t => _) = _
  rw [h]
theorem goT_on {H : Hp} {ss : List Str} {x : V} {r : List V} {seen : List (Str × Str)} {t : Str × Str} (h : tieV H ss x = some t) : goT H ss (x :: r) seen = if t ∈ seen ∨ (t.2, t.1) ∈ seen then some x else goT H ss r (seen ++ [t]) := by
  show (match tieV H ss x with | none => _ | some t => _) = _
  rw [h]
def outT (H : Hp) (ss : List Str) (v : V) : Option (List V) → Option (Nat × V)
  | none => some (3, v)
  | some xs => if 30 < xs.length then some (4, .int xs.length) else (goT H ss xs []).map fun y => (3, y)
theorem tieV_some {H : Hp} {ss : List Str} {x : V} {t : Str × Str} (h : tieV H ss x = some t) : ∃ a, x = .ref a ∧ H a = some (.tup [.str t.1, .str t.2]) ∧ nameS t.1 = true ∧ nameS t.2 = true ∧ t.1.length ≤ 6 ∧ t.2.length ≤ 6 ∧ t.1 ∈ ss ∧ t.2 ∈ ss ∧ t.1 ≠ t.2 := by
  unfold tieV at h
  split at h
  · rename_i a
    split at h
    · rename_i y z e
      split at h
      · rename_i hp
        cases h
        unfold pairV at hp
        simp only [Bool.and_eq_true] at hp
        obtain ⟨⟨h1, h2⟩, h3⟩ := hp
        obtain ⟨n1, m1⟩ := placeV_name h1
        obtain ⟨n2, m2⟩ := placeV_name h2
        obtain ⟨e1, g1, l1⟩ := nameV_str n1
        obtain ⟨e2, g2, l2⟩ := nameV_str n2
        refine ⟨a, rfl, ?_, g1, g2, l1, l2, m1, m2, ?_⟩
        · show H a = some (.tup [.str (strV y), .str (strV z)])
          rw [← e1, ← e2]
          exact e
        · simpa using h3
      · cases h
    · cases h
  · cases h
def BitsOk (ss : List Str) (ns : List Nat) (seen : List (Str × Str)) : Prop := ns.length = ss.length ∧ (∀ a, ns.getD a 0 < 2 ^ ss.length) ∧ ∀ a b s t, ss[a]? = some s → ss[b]? = some t → (ns.getD a 0).testBit b = decide ((s, t) ∈ seen ∨ (t, s) ∈ seen)
theorem nodup_inj {ss : List Str} (h : ss.Nodup) {a b : Nat} {s : Str} (ha : ss[a]? = some s) (hb : ss[b]? = some s) : a = b := by
  have hp := List.pairwise_iff_getElem.mp h
  obtain ⟨la, ea⟩ := List.getElem?_eq_some_iff.mp ha
  obtain ⟨lb, eb⟩ := List.getElem?_eq_some_iff.mp hb
  rcases Nat.lt_trichotomy a b with q | q | q
  · exact absurd (ea.trans eb.symm) (hp a b la lb q)
  · exact q
  · exact absurd (eb.trans ea.symm) (hp b a lb la q)
theorem bits_zero {ss : List Str} : BitsOk ss (List.replicate ss.length 0) [] := by
  have z : ∀ a, (List.replicate ss.length 0).getD a 0 = 0 := fun a => by
    simp only [List.getD, List.getElem?_replicate]
    split <;> rfl
  refine ⟨by simp, fun a => by rw [z a]; exact Nat.two_pow_pos _, fun a b s t ha hb => ?_⟩
  rw [z a]
  simp
theorem getD_set {ns : List Nat} {i j v : Nat} (h : i < ns.length) : (ns.set i v).getD j 0 = if i = j then v else ns.getD j 0 := by
  simp only [List.getD, List.getElem?_set]
  by_cases e : i = j
  · subst e; simp [h]
  · simp [e]
theorem bits_step {ss : List Str} {ns : List Nat} {seen : List (Str × Str)} (hb : BitsOk ss ns seen) (hn : ss.Nodup) {i j : Nat} {s t : Str} (hi : ss[i]? = some s) (hj : ss[j]? = some t) (hst : s ≠ t) :
    BitsOk ss ((ns.set i (ns.getD i 0 ||| 2 ^ j)).set j (ns.getD j 0 ||| 2 ^ i)) (seen ++ [(s, t)]) := by
  obtain ⟨hl, hlt, h⟩ := hb
  have li : i < ns.length := by rw [hl]; exact (List.getElem?_eq_some_iff.mp hi).1
  have lj : j < ns.length := by rw [hl]; exact (List.getElem?_eq_some_iff.mp hj).1
  have nij : i ≠ j := fun e => by rw [e, hj] at hi; cases hi; exact hst rfl
  have li' : i < ss.length := (List.getElem?_eq_some_iff.mp hi).1
  have lj' : j < ss.length := (List.getElem?_eq_some_iff.mp hj).1
  refine ⟨by simp [hl], fun a => ?_, fun a b u v ha hb' => ?_⟩
  · rw [getD_set (by simpa using lj), getD_set li]
    split
    · exact Nat.or_lt_two_pow (hlt _) (Nat.pow_lt_pow_right (by decide) li')
    · split
      · exact Nat.or_lt_two_pow (hlt _) (Nat.pow_lt_pow_right (by decide) lj')
      · exact hlt _
  rw [getD_set (by simpa using lj), getD_set li]
  have h0 := h a b u v ha hb'
  have key : ∀ P Q : Prop, (P ↔ Q) → ∀ [Decidable P] [Decidable Q], decide P = decide Q := fun P Q e => by intro _ _; exact decide_eq_decide.mpr e
  by_cases ja : j = a
  · subst ja
    rw [hj] at ha
    cases ha
    rw [if_pos rfl, Nat.testBit_or, h0, Nat.testBit_two_pow]
    by_cases ib : i = b
    · subst ib
      rw [hi] at hb'
      cases hb'
      simp
    · have vs : v ≠ s := fun e => by subst e; exact ib (nodup_inj hn hi hb')
      simp only [ib, decide_false, Bool.or_false]
      apply decide_eq_decide.mpr
      simp only [List.mem_append, List.mem_singleton, Prod.mk.injEq]
      constructor
      · rintro (z | z)
        · exact .inl (.inl z)
        · exact .inr (.inl z)
      · rintro ((z | ⟨z, _⟩) | (z | ⟨z, _⟩))
        · exact .inl z
        · exact absurd z.symm hst
        · exact .inr z
        · exact absurd z vs
  · rw [if_neg ja]
    by_cases ia : i = a
    · subst ia
      rw [hi] at ha
      cases ha
      rw [if_pos rfl, Nat.testBit_or, h0, Nat.testBit_two_pow]
      by_cases jb : j = b
      · subst jb
        rw [hj] at hb'
        cases hb'
        simp
      · have vt : v ≠ t := fun e => by subst e; exact jb (nodup_inj hn hj hb')
        simp only [jb, decide_false, Bool.or_false]
        apply decide_eq_decide.mpr
        simp only [List.mem_append, List.mem_singleton, Prod.mk.injEq]
        constructor
        · rintro (z | z)
          · exact .inl (.inl z)
          · exact .inr (.inl z)
        · rintro ((z | ⟨_, z⟩) | (z | ⟨_, z⟩))
          · exact .inl z
          · exact absurd z vt
          · exact .inr z
          · exact absurd z hst
    · rw [if_neg ia, h0]
      have us : u ≠ s := fun e => by subst e; exact ia (nodup_inj hn hi ha)
      have ut : u ≠ t := fun e => by subst e; exact ja (nodup_inj hn hj ha)
      apply decide_eq_decide.mpr
      simp only [List.mem_append, List.mem_singleton, Prod.mk.injEq]
      constructor
      · rintro (z | z)
        · exact .inl (.inl z)
        · exact .inr (.inl z)
      · rintro ((z | ⟨z, _⟩) | (z | ⟨_, z⟩))
        · exact .inl z
        · exact absurd z us
        · exact .inr z
        · exact absurd z ut
def natV (ns : List Nat) : List V := ns.map fun (n : Nat) => .int (n : Int)
theorem natV_get {ns : List Nat} {i : Nat} (h : i < ns.length) : (natV ns)[i]? = some (.int (ns.getD i 0 : Nat)) := by
  unfold natV
  rw [List.getElem?_map, List.getElem?_eq_getElem h]
  simp [List.getD, h]
theorem natV_set (ns : List Nat) (i m : Nat) : (natV ns).set i (.int m) = natV (ns.set i m) := by
  unfold natV
  rw [List.map_set]
theorem natV_zero (k : Nat) : (List.replicate k [V.int 0]).flatten = natV (List.replicate k 0) := by
  induction k with
  | zero => rfl
  | succ k ih => rw [List.replicate_succ, List.flatten_cons, ih]; rfl
theorem ixN_nat {n j : Nat} (h : j < n) : ixN n (j : Int) = some j := by
  unfold ixN
  rw [if_pos (by omega), if_pos (by omega)]
  rfl
def spNear (cc : Nat → Addr) : Sp := fun vs H Q E => ∃ (p d : Addr) (ss : List Str) (v : V) (o : Option (List V)), vs = [.ref d, v] ∧ H d = some (.dK (numK ss 0)) ∧ ss.length ≤ 14 ∧ ss.Nodup ∧ Arg p H v o ∧ (∀ r, outT H ss v o = some r → Rz cc H E r) ∧
  (outT H ss v o = none → ∀ n ns H', L2.Same H H' → H n = none → H' n = some (.lst (natV ns)) → BitsOk ss ns ((o.getD []).filterMap (tieV H ss)) → Q (.ref n) H')
section
variable {P : Program} {w : World} {K : W.Frag} {mg : Str → Option Value} {base : Heap} {cc : Nat → Addr} {cw : Addr}
theorem ok_near {f : Addr} {fd : FuncData} (F : Fun K "near_of" "near_of" s_near_of f fd) (T : Txt K mg cc cw) (D_are_two_places : DefOk P w K mg base CX0 3 "are_two_places" ["numbers", "thing"] spTwo) (D_has_bit : DefOk P w K mg base CX0 1 "has_bit" ["bits", "number"] spBit)
    (D_NoTie : XMakeOk P w K mg base 2 (cc 3) "NoTie" ["self", "found"] (spX (cc 3) (fldn 3))) (D_TooMany : XMakeOk P w K mg base 2 (cc 4) "TooMany" ["self", "many"] (spX (cc 4) (fldn 4))) :
    FnOk P w K mg base (CX1 P w) 4 f fd ["numbers", "ties"] (spNear cc) := by
  refine F.ok1 sc_near_of (fun vs H Q E h => ?_) fun cdv A outer s H vs Q E hr h => ?_
  · obtain ⟨p, d, ss, v, o, rfl, _⟩ := h; rfl
  · obtain ⟨p, d, ss, v, o, rfl, hd, hs14, hnd, ha, hz, q⟩ := h
    have hu := u100 hr
    refine ⟨_, (pss_cons (ps_if (pt_not (pt_val (pe_callB (k_isiTU (K := K) rfl) rfl T.b_isinstance boot_isinstance (pa_cons (pv 1) (pa_cons (pe_tup (pa_cons (pe_bltn (v := .ty "list") rfl T.b_list boot_list rfl) (pa_cons (pe_bltn (v := .ty "tuple") rfl T.b_tuple boot_tuple rfl) pa_nil))) pa_nil))))) (pss_one (k_raise (K := K) rfl xok_fn (pe_xm D_NoTie (hm hr) (pa_cons (pv 1) pa_nil)))) pss_nil)
  (pss_cons (ps_if (pt_cmpR op_gt (pe_callB (k_len (K := K) rfl) rfl T.b_len boot_len (pa_cons (pv 1) pa_nil)) (pe_globI rfl T.g_MOST_TIES) (nomark _)) (pss_one (k_raise (K := K) rfl xok_fn (pe_xm D_TooMany (hm hr) (pa_cons (pe_callB (k_len (K := K) rfl) rfl T.b_len boot_len (pa_cons (pv 1) pa_nil)) pa_nil)))) pss_nil)
  (pss_cons (ps_set (i := 2) sc_near_of.nd rfl (Or.inl rfl) (pe_op u_mul (pe_lst (pa_cons pe_int pa_nil)) (pe_callB (k_len (K := K) rfl) rfl T.b_len boot_len (pa_cons (pv 0) pa_nil))))
  (pss_cons (ps_for PassesOwn.leaving rfl (ki_any (K := K) rfl (pv 1)) (pg_name (i := 3) sc_near_of.nd rfl (Or.inl rfl))
  (pss_cons (ps_if (pt_not (pt_val (pe_def D_are_two_places (hm hr) pass0 (pa_cons (pv 0) (pa_cons (pv 3) pa_nil))))) (pss_one (k_raise (K := K) rfl xok_fn (pe_xm D_NoTie (hm hr) (pa_cons (pv 3) pa_nil)))) pss_nil)
  (pss_cons (ps_set (i := 4) sc_near_of.nd rfl (Or.inl rfl) (pe_ix (k_ixU (K := K) rfl hu) (pv 0) (pe_ix (k_ixU (K := K) rfl hu) (pv 3) pe_int (fun _ _ => rfl)) (fun _ _ => rfl)))
  (pss_cons (ps_set (i := 5) sc_near_of.nd rfl (Or.inl rfl) (pe_ix (k_ixU (K := K) rfl hu) (pv 0) (pe_ix (k_ixU (K := K) rfl hu) (pv 3) pe_int (fun _ _ => rfl)) (fun _ _ => rfl)))
  (pss_cons (ps_if (pt_val (pe_def D_has_bit (hm hr) pass0 (pa_cons (pe_ix (k_ixU (K := K) rfl hu) (pv 2) (pv 4) (fun _ _ => rfl)) (pa_cons (pv 5) pa_nil)))) (pss_one (k_raise (K := K) rfl xok_fn (pe_xm D_NoTie (hm hr) (pa_cons (pv 3) pa_nil)))) pss_nil)
  (pss_cons (ps_asg (pe_op op_or (pe_ix (k_ixU (K := K) rfl hu) (pv 2) (pv 4) (fun _ _ => rfl)) (pe_op op_shl pe_int (pv 5))) (pg_sub (pv 2) (pv 4) (k_setU hu)))
  (pss_one (ps_asg (pe_op op_or (pe_ix (k_ixU (K := K) rfl hu) (pv 2) (pv 5) (fun _ _ => rfl)) (pe_op op_shl pe_int (pv 4))) (pg_sub (pv 2) (pv 5) (k_setU hu))))))))))
  (pss_one (ps_ret (pv 2))))))), ?_⟩
    walk_at "vc"
    refine ⟨by show 2 ≤ sizeLine; decide, fun g hg => ?_⟩
    have s0 := Snew (L2.Same.refl H) (o := .tup [.ty "list", .ty "tuple"]) hg
    walk_at "vc"
    refine (ha.same s0).isi upd_same ?_
    walk_at "vc"
    cases o with
    | none =>
      refine ite2 (fun _ => ?_) (fun h => absurd rfl h)
      walk_at "vc"
      exact raise_done (T.xat 3 (by decide)) ((hz (3, v) rfl).later s0)
    | some xs =>
      refine ite2 (fun h => by cases h) fun _ => ?_
      obtain ⟨few, hth⟩ := ha.few
      walk_at "vc"
      refine (ha.same s0).len ?_
      walk_at "vc"
      refine ite2 (fun h => ?_) fun h => ?_
      · walk_at "vc"
        refine (ha.same s0).len ?_
        walk_at "vc"
        have h' : 30 < xs.length := by have := of_decide_eq_true h; omega
        exact raise_done (T.xat 4 (by decide)) ((hz (4, .int xs.length) (by show (if 30 < xs.length then _ else _) = _; rw [if_pos h'])).later s0)
      · have h' : ¬ 30 < xs.length := fun z => h (decide_eq_true (by omega))
        have ho : outT H ss v (some xs) = (goT H ss xs []).map fun y => (3, y) := by show (if 30 < xs.length then _ else _) = _; rw [if_neg h']
        rw [ho] at hz q
        walk_at "vc"
        refine ⟨by show 1 ≤ sizeLine; decide, fun z hzz => ?_⟩
        have s1 := Snew s0 (o := .lst [.int 0]) hzz
        walk_at "vc"
        refine .inr ⟨_, s1 _ _ hd, ?_⟩
        walk_at "vc"
        rw [numK_length]
        refine ⟨z, _, _, rfl, rfl, upd_same, by omega, by omega, by show 1 * _ ≤ sizeLine; rw [Int.toNat_natCast]; exact Nat.le_of_lt (small1000 (by omega)), fun n hn => ?_⟩
        rw [Int.toNat_natCast, natV_zero]
        have s2 := Snew s1 (o := .lst (natV (List.replicate ss.length 0))) hn
        have n0 : H n = none := s1.free hn
        walk_at "vc"
        refine for_arg ha s2 (fun i σ H' => ∃ v3 v4 v5 ns, σ = [some (.ref d), some v, some (.ref n), v3, v4, v5] ∧ L2.Same H H' ∧ H' n = some (.lst (natV ns)) ∧ BitsOk ss ns ((xs.take i).filterMap (tieV H ss)) ∧ goT H ss xs [] = goT H ss (xs.drop i) ((xs.take i).filterMap (tieV H ss)))
          ⟨none, none, none, _, rfl, s2, upd_same, bits_zero, rfl⟩ (fun i σ H' hp => by obtain ⟨_, _, _, _, _, z, _⟩ := hp; exact z) (fun i x σ H' hx hp => ?_) fun σ H' hp => ?_
        · obtain ⟨v3, v4, v5, ns, rfl, s3, hnn, hbits, hgo⟩ := hp
          have hil : i < xs.length := (List.getElem?_eq_some_iff.mp hx).1
          have hdr : xs.drop i = x :: xs.drop (i + 1) := by
            rw [List.drop_eq_getElem_cons hil]
            have := (List.getElem?_eq_some_iff.mp hx).2
            rw [this]
          have htk : xs.take (i + 1) = xs.take i ++ [x] := by rw [List.take_add_one, hx]; rfl
          have hxt := hth x (List.mem_of_getElem? hx)
          rw [hdr] at hgo
          walk_at "vc"
          refine ⟨p, 2, d, ss, x, rfl, s3 _ _ hd, hxt.same s3, fun H1 t1 => ?_⟩
          rw [tieV_same hxt s3]
          have s4 := s3.trans t1
          have hn1 := t1 _ _ hnn
          walk_at "vc"
          cases ht : tieV H ss x with
          | none =>
            refine ite2 (fun _ => ?_) (fun h => absurd rfl h)
            walk_at "vc"
            rw [goT_no ht] at hgo
            exact raise_done (T.xat 3 (by decide)) ((hz (3, x) (by rw [hgo]; rfl)).later s4)
          | some st =>
            refine ite2 (fun h => by cases h) fun _ => ?_
            obtain ⟨a, rfl, ea, n1, n2, l1, l2, m1, m2, hne⟩ := tieV_some ht
            rw [goT_on ht] at hgo
            obtain ⟨sx, sy⟩ := st
            dsimp only at ea n1 n2 l1 l2 m1 m2 hne hgo
            obtain ⟨ja, hja, gja, vja⟩ := numK_some (i := 0) m1
            obtain ⟨jb, hjb, gjb, vjb⟩ := numK_some (i := 0) m2
            rw [Nat.zero_add] at vja vjb
            have nab : ja ≠ jb := fun e => by rw [e, gjb] at gja; cases gja; exact hne rfl
            have lna : ja < ns.length := by rw [hbits.1]; exact hja
            have lnb : jb < ns.length := by rw [hbits.1]; exact hjb
            walk_at "vc"
            refine .inl (vIxT (s4 _ _ ea) rfl ?_)
            refine .inr ⟨d, .int ja, rfl, ?_, ?_⟩
            · have := DGet.k (k := Sum.inr sx) (s4 _ _ hd)
              rw [vja] at this
              exact this
            walk_at "vc"
            refine .inl (vIxT (s4 _ _ ea) rfl ?_)
            refine .inr ⟨d, .int jb, rfl, ?_, ?_⟩
            · have := DGet.k (k := Sum.inr sy) (s4 _ _ hd)
              rw [vjb] at this
              exact this
            walk_at "vc"
            refine .inl (vIxL hn1 (atI_nat (natV_get lna)) ?_)
            walk_at "vc"
            refine ⟨_, _, rfl, by omega, ?_⟩
            rw [bit_has, hbits.2.2 ja jb sx sy gja gjb]
            walk_at "vc"
            refine ite2 (fun hm => ?_) fun hm => ?_
            · walk_at "vc"
              rw [if_pos (of_decide_eq_true hm)] at hgo
              exact raise_done (T.xat 3 (by decide)) ((hz (3, .ref a) (by rw [hgo]; rfl)).later s4)
            · rw [if_neg (fun e => hm (decide_eq_true e))] at hgo
              walk_at "vc"
              refine .inl (vIxL hn1 (atI_nat (natV_get lna)) ?_)
              walk_at "vc"
              refine vI ⟨by omega, by omega, by decide⟩ ?_
              walk_at "vc"
              rw [bit_or]
              refine .inl (vSetL hn1 (ixN_nat (by unfold natV; rw [List.length_map]; exact lna)) ?_)
              rw [natV_set]
              walk_at "vc"
              have e2 : (ns.set ja (ns.getD ja 0 ||| 2 ^ jb)).getD jb 0 = ns.getD jb 0 := by rw [getD_set lna, if_neg nab]
              refine .inl (vIxL upd_same (atI_nat (natV_get (by simpa using lnb))) ?_)
              walk_at "vc"
              refine vI ⟨by omega, by omega, by decide⟩ ?_
              walk_at "vc"
              rw [bit_or, e2]
              refine .inl (vSetL upd_same (ixN_nat (by unfold natV; rw [List.length_map]; simpa using lnb)) ?_)
              rw [natV_set]
              have hfm : (xs.take (i + 1)).filterMap (tieV H ss) = (xs.take i).filterMap (tieV H ss) ++ [(sx, sy)] := by
                rw [htk, List.filterMap_append]
                simp [ht]
              refine ⟨_, _, _, _, rfl, Supd (Supd s4 n0) n0, upd_same, ?_, ?_⟩
              · rw [hfm]
                exact bits_step hbits hnd gja gjb hne
              · rw [hfm]
                exact hgo
        · obtain ⟨v3, v4, v5, ns, rfl, s3, hnn, hbits, hgo⟩ := hp
          rw [List.drop_length] at hgo
          walk_at "vc"
          rw [List.take_length] at hbits
          exact q (by rw [hgo]; rfl) n _ H' s3 n0 hnn hbits
def outW (H : Hp) (v : V) (o : Option (List V)) (v2 : V) (o2 : Option (List V)) : Option (Nat × V) := match outN v o with
  | some r => some r
  | none => outT H ((o.getD []).map strV) v2 o2
theorem outN_good {v : V} {o : Option (List V)} (h : outN v o = none) : ∃ xs, o = some xs ∧ xs.length ≤ 14 ∧ xs = (xs.map strV).map V.str ∧ (∀ x ∈ xs, nameV x = true) ∧ (xs.map strV).Nodup := by
  cases o with
  | none => cases h
  | some xs =>
    have h' : (if 14 < xs.length then some ((4 : Nat), V.int xs.length) else dueN xs []) = none := h
    split at h'
    · cases h'
    · obtain ⟨a, b, c, d⟩ := dueN_none h'
      exact ⟨xs, rfl, by omega, a, b, d⟩
theorem goT_keep {p x : Addr} {H H' : Hp} {ss : List Str} (k : ∀ b o, b ≠ p → H b = some o → H' b = some o) : ∀ (xs : List V) (seen : List (Str × Str)), (∀ x ∈ xs, Th p H 2 x) → goT H' ss xs seen = goT H ss xs seen
  | [], _, _ => rfl
  | y :: r, seen, h => by
    have e := tieV_keep (ss := ss) (h y List.mem_cons_self) k
    have hr := fun z hz => h z (List.mem_cons_of_mem y hz)
    cases ht : tieV H ss y with
    | none => rw [goT_no (e.trans ht), goT_no ht]
    | some t => rw [goT_on (e.trans ht), goT_on ht, goT_keep (x := x) k r _ hr]
theorem outT_keep {p : Addr} {H H' : Hp} {ss : List Str} {v : V} {o : Option (List V)} (h : Arg p H v o) (k : ∀ b o, b ≠ p → H b = some o → H' b = some o) : outT H' ss v o = outT H ss v o := by
  cases o with
  | none => rfl
  | some xs =>
    show (if _ then _ else (goT H' ss xs []).map _) = if _ then _ else (goT H ss xs []).map _
    rw [goT_keep (x := p) k xs [] h.few.2]
structure WOk (ss : List Str) (ns : List Nat) : Prop where
  len : ns.length = ss.length
  few : ss.length ≤ 14
  nd : ss.Nodup
  lt : ∀ a, ns.getD a 0 < 2 ^ ss.length
  nm : ∀ s ∈ ss, nameS s = true
def WebAt (cw : Addr) (H : Hp) (x : Addr) (ss : List Str) (ns : List Nat) : Prop := ∃ dx d ol n, H x = some (.ins cw dx (putF "near" (.ref n) (putF "order" (.ref ol) (putF "numbers" (.ref d) [])))) ∧ H d = some (.dK (numK ss 0)) ∧ H ol = some (.lst (ss.map V.str)) ∧ H n = some (.lst (natV ns)) ∧ WOk ss ns
theorem WebAt.same {cw x : Addr} {H H' : Hp} {ss : List Str} {ns : List Nat} (h : WebAt cw H x ss ns) (s : L2.Same H H') : WebAt cw H' x ss ns := by
  obtain ⟨dx, d, ol, n, h1, h2, h3, h4, h5⟩ := h
  exact ⟨dx, d, ol, n, s _ _ h1, s _ _ h2, s _ _ h3, s _ _ h4, h5⟩
def WebN (H0 : Hp) (cw : Addr) (H : Hp) (x : Addr) (ss : List Str) (ns : List Nat) : Prop := ∃ dx d ol n, H x = some (.ins cw dx (putF "near" (.ref n) (putF "order" (.ref ol) (putF "numbers" (.ref d) [])))) ∧ H d = some (.dK (numK ss 0)) ∧ H ol = some (.lst (ss.map V.str)) ∧ H n = some (.lst (natV ns)) ∧ WOk ss ns ∧ H0 d = none ∧ H0 ol = none ∧ H0 n = none
theorem WebN.web {H0 : Hp} {cw x : Addr} {H : Hp} {ss : List Str} {ns : List Nat} (h : WebN H0 cw H x ss ns) : WebAt cw H x ss ns := by
  obtain ⟨dx, d, ol, n, h1, h2, h3, h4, h5, _⟩ := h
  exact ⟨dx, d, ol, n, h1, h2, h3, h4, h5⟩
def WebP (A : Addr → Prop) (cw : Addr) (H : Hp) (x : Addr) (ss : List Str) (ns : List Nat) : Prop := ∃ dx d ol n, H x = some (.ins cw dx (putF "near" (.ref n) (putF "order" (.ref ol) (putF "numbers" (.ref d) [])))) ∧ H d = some (.dK (numK ss 0)) ∧ H ol = some (.lst (ss.map V.str)) ∧ H n = some (.lst (natV ns)) ∧ WOk ss ns ∧ ¬ A x ∧ ¬ A d ∧ ¬ A ol ∧ ¬ A n
theorem numK_keys : ∀ (ss : List Str) (i : Nat), (numK ss i).map (fun kv => kV kv.1) = ss.map V.str
  | [], _ => rfl
  | s :: r, i => congrArg (V.str s :: ·) (numK_keys r (i + 1))
def spWeb (cc : Nat → Addr) (cw : Addr) : Sp := fun vs H Q E => ∃ (p x dx : Addr) (v : V) (o : Option (List V)) (v2 : V) (o2 : Option (List V)), vs = [.ref x, v, v2] ∧ H x = some (.ins cw dx []) ∧ Arg p H v o ∧ Arg p H v2 o2 ∧
  (∀ r, outW H v o v2 o2 = some r → ∀ dy H', But x H H' → H' dy = some (.xd [(fldn r.1, r.2)]) → E (.ref (cc r.1)) (some dy) H') ∧ (outW H v o v2 o2 = none → ∀ ns H', But x H H' → WebN H cw H' x ((o.getD []).map strV) ns → BitsOk ((o.getD []).map strV) ns ((o2.getD []).filterMap (tieV H ((o.getD []).map strV))) → Q .non H')
theorem Arg.but {p x dx C : Addr} {H H' : Hp} {v : V} {o : Option (List V)} {fs : List (Str × V)} (h : Arg p H v o) (hx : H x = some (.ins C dx fs)) (b : But x H H') : Arg p H' v o ∧ ∀ ss, outT H' ss v o = outT H ss v o := by
  have hth : ∀ {n : Nat} {v : V}, Th p H n v → Th p (fun a => if a = x then none else H a) n v := by
    intro n v h
    induction h with
    | flat f l => exact .flat f l
    | lst e ne h l ih => exact .lst (by rw [if_neg (ne_of e hx (by intro z; cases z))]; exact e) ne ih l
    | tup e ne h l ih => exact .tup (by rw [if_neg (ne_of e hx (by intro z; cases z))]; exact e) ne ih l
    | dct e ne => exact .dct (by rw [if_neg (ne_of e hx (by intro z; cases z))]; exact e) ne
  have h2 : Arg p (fun a => if a = x then none else H a) v o := by
    cases h with
    | lst e ne h l => exact .lst (by rw [if_neg (ne_of e hx (by intro z; cases z))]; exact e) ne (fun x hx => hth (h x hx)) l
    | tup e ne h l => exact .tup (by rw [if_neg (ne_of e hx (by intro z; cases z))]; exact e) ne (fun x hx => hth (h x hx)) l
    | flat f l => exact .flat f l
    | dct e ne => exact .dct (by rw [if_neg (ne_of e hx (by intro z; cases z))]; exact e) ne
  have k1 : L2.Same (fun a => if a = x then none else H a) H' := fun c u e => by
    have e : (if c = x then none else H c) = some u := e
    by_cases hc : c = x
    · rw [if_pos hc] at e; cases e
    · rw [if_neg hc] at e; exact b c u hc e
  have k2 : L2.Same (fun a => if a = x then none else H a) H := fun c u e => by
    have e : (if c = x then none else H c) = some u := e
    by_cases hc : c = x
    · rw [if_pos hc] at e; cases e
    · rw [if_neg hc] at e; exact e
  exact ⟨h2.same k1, fun ss => (outT_keep h2 fun b o _ e => k1 b o e).trans (outT_keep h2 fun b o _ e => k2 b o e).symm⟩
theorem fm_congr {α β : Type} {f g : α → Option β} : ∀ {l : List α}, (∀ x ∈ l, f x = g x) → l.filterMap f = l.filterMap g
  | [], _ => rfl
  | a :: r, h => by
    rw [List.filterMap_cons, List.filterMap_cons, h a List.mem_cons_self, fm_congr fun x hx => h x (List.mem_cons_of_mem _ hx)]
theorem Arg.tie_but {p x dx C : Addr} {H H' : Hp} {v : V} {o : Option (List V)} {fs : List (Str × V)} (h : Arg p H v o) (hx : H x = some (.ins C dx fs)) (b : But x H H') (y : V) (hy : y ∈ o.getD []) (ss : List Str) : tieV H' ss y = tieV H ss y := by
  cases o with
  | none => cases hy
  | some xs =>
    have hth := h.few.2 y hy
    cases hth with
    | flat f l => cases y <;> first | rfl | cases f
    | lst e ne h l => rw [tieV_not (H := H') (fun a zs z y => by (cases z; rw [b _ _ (ne_of e hx (by intro z; cases z)) e] at y; cases y)), tieV_not (H := H) fun a zs z y => by (cases z; rw [e] at y; cases y)]
    | tup e ne h l => unfold tieV; dsimp only; rw [b _ _ (ne_of e hx (by intro z; cases z)) e, e]
    | dct e ne => rw [tieV_not (H := H') (fun a zs z y => by (cases z; rw [b _ _ (ne_of e hx (by intro z; cases z)) e] at y; cases y)), tieV_not (H := H) fun a zs z y => by (cases z; rw [e] at y; cases y)]
theorem ok_web {f : Addr} {fd : FuncData} (F : Fun K "__init__" "Web.__init__" s_Web_init f fd) (T : Txt K mg cc cw) (D_numbers_of : DefOk P w K mg base (CX1 P w) 4 "numbers_of" ["names"] (spNums cc)) (D_near_of : DefOk P w K mg base (CX1 P w) 4 "near_of" ["numbers", "ties"] (spNear cc)) :
    FnOk P w K mg base (CX1 P w) 5 f fd ["self", "names", "ties"] (spWeb cc cw) := by
  refine F.ok1 sc_Web_init (fun vs H Q E h => ?_) fun cdv A outer s H vs Q E hr h => ?_
  · obtain ⟨p, x, dx, v, o, v2, o2, rfl, _⟩ := h; rfl
  · obtain ⟨p, x, dx, v, o, v2, o2, rfl, hx, ha, ha2, hz, q⟩ := h
    have hu := u100 hr
    refine ⟨_, (pss_cons (k_sfldU (K := K) rfl (pv 0) (pe_defS D_numbers_of (hm hr) xok_fn (pa_cons (pv 1) pa_nil)) rfl)
  (pss_cons (k_sfldU (K := K) rfl (pv 0) (pe_callTy (k_listU (K := K) rfl rfl) rfl T.b_list boot_list (pa_cons (k_fldU (K := K) rfl (pv 0) rfl) pa_nil)) rfl)
  (pss_one (k_sfldU (K := K) rfl (pv 0) (pe_defS D_near_of (hm hr) xok_fn (pa_cons (k_fldU (K := K) rfl (pv 0) rfl) (pa_cons (pv 2) pa_nil))) rfl)))), ?_⟩
    walk_at "vc"
    refine ⟨p, v, o, rfl, ha, fun r e => ?_, fun hN d H1 s1 hd0 hd => ?_⟩
    · intro dy H' s' hy
      exact hz r (by unfold outW; rw [e]) dy H' ((But.refl x H).same s') hy
    · have hW : outW H v o v2 o2 = outT H ((o.getD []).map strV) v2 o2 := by unfold outW; rw [hN]
      obtain ⟨xs, rfl, l14, _, allN, nd⟩ := outN_good hN
      rw [hW] at hz q
      have b1 := (But.refl x H).same s1
      have hx1 := s1 _ _ hx
      have ndx : d ≠ x := ne_of hd hx1 (by intro z; cases z)
      walk_at "vc"
      refine .inl ⟨x, cw, dx, [], rfl, hx1, T.wcl, T.wn, by decide, ?_⟩
      have b2 := b1.put (o := .ins cw dx (putF "numbers" (.ref d) []))
      have hd2 : upd H1 x (.ins cw dx (putF "numbers" (.ref d) [])) d = some (.dK (numK (((some xs).getD []).map strV) 0)) := by rw [upd_ne ndx]; exact hd
      walk_at "vc"
      refine .inl ⟨x, cw, dx, _, .ref d, rfl, upd_same, T.wcl, T.wn, by rw [lookup_putF, if_pos rfl], ?_⟩
      walk_at "vc"
      refine .inr (.inl ⟨d, _, rfl, hd2, fun ol ho => ?_⟩)
      have no : ol ≠ x := fun e => by subst e; rw [upd_same] at ho; cases ho
      have b3 := b2.new (o := .lst ((numK (((some xs).getD []).map strV) 0).map fun kv => kV kv.1)) ho
      have nol : ol ≠ d := fun e => by rw [e, hd2] at ho; cases ho
      walk_at "vc"
      refine .inl ⟨x, cw, dx, _, rfl, (by rw [upd_ne no.symm]; exact upd_same), T.wcl, T.wo, Nat.lt_of_le_of_lt (length_putF _ _ _) (by decide), ?_⟩
      have hd3 : upd (upd (upd H1 x (.ins cw dx (putF "numbers" (.ref d) []))) ol (.lst ((numK (((some xs).getD []).map strV) 0).map fun kv => kV kv.1))) x (.ins cw dx (putF "order" (.ref ol) (putF "numbers" (.ref d) []))) d = some (.dK (numK (((some xs).getD []).map strV) 0)) := by
        rw [upd_ne ndx, upd_ne (ne_of_none hd2 ho)]; exact hd2
      have b4 := b3.put (o := .ins cw dx (putF "order" (.ref ol) (putF "numbers" (.ref d) [])))
      walk_at "vc"
      refine .inl ⟨x, cw, dx, _, .ref d, rfl, upd_same, T.wcl, T.wn, by rw [lookup_putF, if_neg (by decide +kernel), lookup_putF, if_pos rfl], ?_⟩
      walk_at "vc"
      obtain ⟨ha3, ho3⟩ := ha2.but hx b4
      refine ⟨p, d, _, v2, o2, rfl, hd3, by rw [List.length_map]; exact l14, nd, ha3, fun r e => ?_, fun e n ns H2 s2 hn0 hn hbits => ?_⟩
      · intro dy H' s' hy
        rw [ho3] at e
        exact hz r e dy H' (b4.same s') hy
      · rw [ho3] at e
        have b5 := b4.same s2
        walk_at "vc"
        refine .inl ⟨x, cw, dx, _, rfl, s2 _ _ upd_same, T.wcl, T.wr, Nat.lt_of_le_of_lt (length_putF _ _ _) (Nat.lt_of_le_of_lt (Nat.succ_le_succ (length_putF _ _ _)) (by decide)), ?_⟩
        have hx2 := s2 _ _ (upd_same : upd (upd (upd H1 x (.ins cw dx (putF "numbers" (.ref d) []))) ol (.lst ((numK (((some xs).getD []).map strV) 0).map fun kv => kV kv.1))) x (.ins cw dx (putF "order" (.ref ol) (putF "numbers" (.ref d) []))) x = _)
        have nnx : n ≠ x := ne_of hn hx2 (by intro z; cases z)
        have hd4 := s2 _ _ hd3
        have ho4 : H2 ol = some (.lst ((numK (((some xs).getD []).map strV) 0).map fun kv => kV kv.1)) := s2 _ _ (by rw [upd_ne no]; exact upd_same)
        have eT : (((some xs).getD []).map strV) = (((some xs).getD []).map strV) := rfl
        have ebt : ∀ y ∈ (o2.getD []), tieV H (((some xs).getD []).map strV) y = tieV (upd (upd (upd H1 x (.ins cw dx (putF "numbers" (.ref d) []))) ol (.lst ((numK (((some xs).getD []).map strV) 0).map fun kv => kV kv.1))) x (.ins cw dx (putF "order" (.ref ol) (putF "numbers" (.ref d) [])))) (((some xs).getD []).map strV) y := fun y hy => ?tie
        have hol0 : H ol = none := by
          cases q' : H ol with
          | none => rfl
          | some o' => rw [b2 ol o' no q'] at ho; cases ho
        have hn00 : H n = none := by
          cases q' : H n with
          | none => rfl
          | some o' => rw [b4 n o' nnx q'] at hn0; cases hn0
        refine q e ns _ b5.put ⟨dx, d, ol, n, upd_same, by rw [upd_ne ndx]; exact hd4, by rw [upd_ne no, ho4, numK_keys], by rw [upd_ne nnx]; exact hn, ⟨hbits.1, by show (xs.map strV).length ≤ 14; rw [List.length_map]; exact l14, nd, hbits.2.1, fun s hs => by obtain ⟨y, hy, rfl⟩ := List.mem_map.mp hs; exact (nameV_str (allN y hy)).2.1⟩, hd0, hol0, hn00⟩ ?_
        · have : (o2.getD []).filterMap (tieV H (((some xs).getD []).map strV)) = (o2.getD []).filterMap (tieV (upd (upd (upd H1 x (.ins cw dx (putF "numbers" (.ref d) []))) ol (.lst ((numK (((some xs).getD []).map strV) 0).map fun kv => kV kv.1))) x (.ins cw dx (putF "order" (.ref ol) (putF "numbers" (.ref d) [])))) (((some xs).getD []).map strV)) := fm_congr ebt
          rw [this]
          exact hbits
        case tie => exact (ha2.tie_but hx b4 y hy _).symm
end
/- Web.places: calls [] -/
abbrev s_Web_places : Stmt := inClass (top 30) 1
theorem sc_Web_places : FnScope ["self"] ["self"] (defScope s_Web_places) := ⟨rfl, rfl, rfl, by decide +kernel, rfl, by decide +kernel, by decide +kernel⟩
/- Web.has_place: calls ['is_place'] -/
abbrev s_Web_has_place : Stmt := inClass (top 30) 4
theorem sc_Web_has_place : FnScope ["self", "thing"] ["self", "thing"] (defScope s_Web_has_place) := ⟨rfl, rfl, rfl, by decide +kernel, rfl, by decide +kernel, by decide +kernel⟩
/- Web.number_of: calls [] -/
abbrev s_Web_number_of : Stmt := inClass (top 30) 6
theorem sc_Web_number_of : FnScope ["self", "place"] ["self", "place"] (defScope s_Web_number_of) := ⟨rfl, rfl, rfl, by decide +kernel, rfl, by decide +kernel, by decide +kernel⟩
/- Web.beside: calls [] -/
abbrev s_Web_beside : Stmt := inClass (top 30) 7
theorem sc_Web_beside : FnScope ["self", "place"] ["self", "place"] (defScope s_Web_beside) := ⟨rfl, rfl, rfl, by decide +kernel, rfl, by decide +kernel, by decide +kernel⟩
/- Web.bits_beside: calls [] -/
abbrev s_Web_bits_beside : Stmt := inClass (top 30) 8
theorem sc_Web_bits_beside : FnScope ["self", "place"] ["self", "place"] (defScope s_Web_bits_beside) := ⟨rfl, rfl, rfl, by decide +kernel, rfl, by decide +kernel, by decide +kernel⟩
/- Web.names_in: calls ['has_bit'] -/
abbrev s_Web_names_in : Stmt := inClass (top 30) 12
theorem sc_Web_names_in : FnScope ["self", "bits"] ["self", "bits"] (defScope s_Web_names_in) := ⟨rfl, rfl, rfl, by decide +kernel, rfl, by decide +kernel, by decide +kernel⟩
theorem lk_numbers {d ol n : V} : (putF "near" n (putF "order" ol (putF "numbers" d []))).lookup ("numbers" : Str) = some d := by
  rw [lookup_putF, if_neg (by decide +kernel), lookup_putF, if_neg (by decide +kernel), lookup_putF, if_pos rfl]
theorem lk_order {d ol n : V} : (putF "near" n (putF "order" ol (putF "numbers" d []))).lookup ("order" : Str) = some ol := by
  rw [lookup_putF, if_neg (by decide +kernel), lookup_putF, if_pos rfl]
theorem lk_near {d ol n : V} : (putF "near" n (putF "order" ol (putF "numbers" d []))).lookup ("near" : Str) = some n := by
  rw [lookup_putF, if_pos rfl]
theorem lk_no {f : Str} {d ol n : V} (h : (f == "near" || f == "order" || f == "numbers") = false) : (putF "near" n (putF "order" ol (putF "numbers" d []))).lookup f = none := by
  simp only [Bool.or_eq_false_iff, beq_eq_false_iff_ne] at h
  rw [lookup_putF, if_neg h.1.1, lookup_putF, if_neg h.1.2, lookup_putF, if_neg h.2]
  rfl
theorem place_ix {ss : List Str} {v : V} (h : placeV ss v = true) : v = .str (strV v) ∧ ∃ j, j < ss.length ∧ ss[j]? = some (strV v) ∧ valV (numK ss 0) (.inr (strV v) : Key) = some (.int (j : Nat)) := by
  obtain ⟨n1, m1⟩ := placeV_name h
  obtain ⟨e1, _, _⟩ := nameV_str n1
  obtain ⟨j, hj, gj, vj⟩ := numK_some (i := 0) m1
  rw [Nat.zero_add] at vj
  exact ⟨e1, j, hj, gj, vj⟩
def inB : List Str → Nat → Nat → List Str
  | [], _, _ => []
  | s :: r, i, b => if b.testBit i = true then s :: inB r (i + 1) b else inB r (i + 1) b
theorem inB_snoc (y : Str) (b : Nat) : ∀ (l : List Str) (k : Nat), inB (l ++ [y]) k b = inB l k b ++ (if b.testBit (k + l.length) = true then [y] else [])
  | [], k => by simp [inB]
  | s :: r, k => by
    have ih := inB_snoc y b r (k + 1)
    have e : k + 1 + r.length = k + (s :: r).length := by simp; omega
    rw [e] at ih
    simp only [List.cons_append, inB, ih]
    split <;> simp
theorem inB_len (b : Nat) : ∀ (l : List Str) (k : Nat), (inB l k b).length ≤ l.length
  | [], _ => Nat.le_refl _
  | s :: r, k => by
    have ih := inB_len b r (k + 1)
    simp only [inB]
    split
    · simp; omega
    · simp; omega
def spHas (cw : Addr) : Sp := fun vs H Q _ => ∃ (p : Addr) (k : Nat) (x : Addr) (ss : List Str) (ns : List Nat) (v : V), vs = [.ref x, v] ∧ WebAt cw H x ss ns ∧ Th p H k v ∧ ∀ H', L2.Same H H' → Q (.bl (placeV ss v)) H'
def spNum (cc : Nat → Addr) (cw : Addr) : Sp := fun vs H Q E => ∃ (p : Addr) (k : Nat) (x : Addr) (ss : List Str) (ns : List Nat) (v : V), vs = [.ref x, v] ∧ WebAt cw H x ss ns ∧ Th p H k v ∧ (placeV ss v = false → Rz cc H E (2, v)) ∧
  ∀ j, ss[j]? = some (strV v) → placeV ss v = true → ∀ H', L2.Same H H' → Q (.int (j : Nat)) H'
def spBB (cc : Nat → Addr) (cw : Addr) : Sp := fun vs H Q E => ∃ (p : Addr) (k : Nat) (x : Addr) (ss : List Str) (ns : List Nat) (v : V), vs = [.ref x, v] ∧ WebAt cw H x ss ns ∧ Th p H k v ∧ (placeV ss v = false → Rz cc H E (2, v)) ∧
  ∀ j, ss[j]? = some (strV v) → placeV ss v = true → ∀ H', L2.Same H H' → Q (.int (ns.getD j 0 : Nat)) H'
def spNIn (cw : Addr) : Sp := fun vs H Q _ => ∃ (x : Addr) (ss : List Str) (ns : List Nat) (b : Nat), vs = [.ref x, .int b] ∧ WebAt cw H x ss ns ∧ ∀ l, H l = none → Q (.ref l) (upd H l (.lst ((inB ss 0 b).map V.str)))
def spBs (cc : Nat → Addr) (cw : Addr) : Sp := fun vs H Q E => ∃ (p : Addr) (k : Nat) (x : Addr) (ss : List Str) (ns : List Nat) (v : V), vs = [.ref x, v] ∧ WebAt cw H x ss ns ∧ Th p H k v ∧ (placeV ss v = false → Rz cc H E (2, v)) ∧
  ∀ j, ss[j]? = some (strV v) → placeV ss v = true → ∀ H', L2.Same H H' → ∀ l, H' l = none → Q (.ref l) (upd H' l (.lst ((inB ss 0 (ns.getD j 0)).map V.str)))
def spPls (cw : Addr) : Sp := fun vs H Q _ => ∃ (x : Addr) (ss : List Str) (ns : List Nat), vs = [.ref x] ∧ WebAt cw H x ss ns ∧ ∀ l, H l = none → Q (.ref l) (upd H l (.lst (ss.map V.str)))
section
variable {P : Program} {w : World} {K : W.Frag} {mg : Str → Option Value} {base : Heap} {cc : Nat → Addr} {cw : Addr}
theorem ok_has {f : Addr} {fd : FuncData} (F : Fun K "has_place" "Web.has_place" s_Web_has_place f fd) (T : Txt K mg cc cw) (D_is_place : DefOk P w K mg base CX0 2 "is_place" ["numbers", "thing"] spPlace) : FnOk P w K mg base CX0 3 f fd ["self", "thing"] (spHas cw) := by
  refine F.ok sc_Web_has_place (fun vs H Q E h => ?_) fun cdv A outer s H vs Q E hr h => ?_
  · obtain ⟨p, k, x, ss, ns, v, rfl, _⟩ := h; rfl
  · obtain ⟨p, k, x, ss, ns, v, rfl, ⟨dx, d, ol, n, hx, hd, ho, hn, hw⟩, hv, q⟩ := h
    refine ⟨_, (pss_one (ps_ret (pe_def D_is_place (hm hr) pass0 (pa_cons (k_fldU (K := K) rfl (pv 0) rfl) (pa_cons (pv 1) pa_nil))))), ?_⟩
    walk_at "vc"
    refine .inl ⟨x, cw, dx, _, .ref d, rfl, hx, T.wcl, T.wn, lk_numbers, ?_⟩
    walk_at "vc"
    exact ⟨p, k, d, ss, v, rfl, hd, hv, q⟩
theorem ok_num {f : Addr} {fd : FuncData} (F : Fun K "number_of" "Web.number_of" s_Web_number_of f fd) (T : Txt K mg cc cw) (D_Web_has_place : MethOk P w K mg base CX0 3 cw "has_place" ["self", "thing"] (spHas cw))
    (D_NoPlace : XMakeOk P w K mg base 2 (cc 2) "NoPlace" ["self", "found"] (spX (cc 2) (fldn 2))) : FnOk P w K mg base (CX1 P w) 4 f fd ["self", "place"] (spNum cc cw) := by
  refine F.ok1 sc_Web_number_of (fun vs H Q E h => ?_) fun cdv A outer s H vs Q E hr h => ?_
  · obtain ⟨p, k, x, ss, ns, v, rfl, _⟩ := h; rfl
  · obtain ⟨p, k, x, ss, ns, v, rfl, hW, hv, hz, q⟩ := h
    have hu := u100 hr
    obtain ⟨dx, d, ol, n, hx, hd, ho, hn, hw⟩ := id hW
    refine ⟨_, (pss_cons (ps_if (pt_not (pt_val (pe_methQ D_Web_has_place (hm hr) (pv 0) (pa_cons (pv 1) pa_nil)))) (pss_one (k_raise (K := K) rfl xok_fn (pe_xm D_NoPlace (hm hr) (pa_cons (pv 1) pa_nil)))) pss_nil)
  (pss_one (ps_ret (pe_ix (k_ixU (K := K) rfl hu) (k_fldU (K := K) rfl (pv 0) rfl) (pv 1) (fun _ _ => rfl))))), ?_⟩
    walk_at "vc"
    refine ⟨x, dx, _, rfl, hx, lk_no (by decide +kernel), ?_⟩
    walk_at "vc"
    refine ⟨p, k, x, ss, ns, v, rfl, hW, hv, fun H1 s1 => ?_⟩
    walk_at "vc"
    refine ite2 (fun h => ?_) fun h => ?_
    · walk_at "vc"
      exact raise_done (T.xat 2 (by decide)) ((hz (by simpa using h)).later s1)
    · have hp : placeV ss v = true := by simpa using h
      obtain ⟨ev, j, hj, gj, vj⟩ := place_ix hp
      walk_at "vc"
      refine .inl ⟨x, cw, dx, _, .ref d, rfl, s1 _ _ hx, T.wcl, T.wn, lk_numbers, ?_⟩
      walk_at "vc"
      refine .inr ⟨d, .int j, rfl, ?_, q j gj hp H1 s1⟩
      have := DGet.k (k := Sum.inr (strV v)) (s1 _ _ hd)
      rw [vj] at this
      rw [ev]
      exact this
theorem ok_bb {f : Addr} {fd : FuncData} (F : Fun K "bits_beside" "Web.bits_beside" s_Web_bits_beside f fd) (T : Txt K mg cc cw) (D_Web_number_of : MethOk P w K mg base (CX1 P w) 4 cw "number_of" ["self", "place"] (spNum cc cw)) : FnOk P w K mg base (CX1 P w) 5 f fd ["self", "place"] (spBB cc cw) := by
  refine F.ok1 sc_Web_bits_beside (fun vs H Q E h => ?_) fun cdv A outer s H vs Q E hr h => ?_
  · obtain ⟨p, k, x, ss, ns, v, rfl, _⟩ := h; rfl
  · obtain ⟨p, k, x, ss, ns, v, rfl, hW, hv, hz, q⟩ := h
    have hu := u100 hr
    obtain ⟨dx, d, ol, n, hx, hd, ho, hn, hw⟩ := id hW
    refine ⟨_, (pss_one (ps_ret (pe_ix (k_ixU (K := K) rfl hu) (k_fldU (K := K) rfl (pv 0) rfl) (pe_methS D_Web_number_of (hm hr) xok_fn (pv 0) (pa_cons (pv 1) pa_nil)) (fun _ _ => rfl)))), ?_⟩
    walk_at "vc"
    refine .inl ⟨x, cw, dx, _, .ref n, rfl, hx, T.wcl, T.wr, lk_near, ?_⟩
    walk_at "vc"
    refine ⟨x, dx, _, rfl, hx, lk_no (by decide +kernel), ?_⟩
    walk_at "vc"
    refine ⟨p, k, x, ss, ns, v, rfl, hW, hv, hz, fun j gj hp H1 s1 => ?_⟩
    exact .inl (vIxL (s1 _ _ hn) (atI_nat (natV_get (by rw [hw.len]; exact (List.getElem?_eq_some_iff.mp gj).1))) (q j gj hp H1 s1))
theorem ok_nin {f : Addr} {fd : FuncData} (F : Fun K "names_in" "Web.names_in" s_Web_names_in f fd) (T : Txt K mg cc cw) (D_has_bit : DefOk P w K mg base CX0 1 "has_bit" ["bits", "number"] spBit) : FnOk P w K mg base CX0 2 f fd ["self", "bits"] (spNIn cw) := by
  refine F.ok sc_Web_names_in (fun vs H Q E h => ?_) fun cdv A outer s H vs Q E hr h => ?_
  · obtain ⟨x, ss, ns, b, rfl, _⟩ := h; rfl
  · obtain ⟨x, ss, ns, b, rfl, ⟨dx, d, ol, n, hx, hd, ho, hn, hw⟩, q⟩ := h
    have hu := u100 hr
    refine ⟨_, (pss_one (ps_ret (pe_comp (sc := defScope s_Web_names_in) (XN := ["self", "bits"]) ["name", "bits", "self"] 1 [1, 0] rfl rfl rfl (by decide +kernel) rfl (by decide +kernel)
   (ki_any (K := K) rfl (k_fldU (K := K) rfl (pv 0) rfl)) (fun _ _ _ _ => (pg_name (i := 0) (show (["name", "bits", "self"] : List Str).Nodup by decide +kernel) rfl (Or.inl rfl))) gk_name
   (fun _ _ _ _ => (pifs_one (pt_val (pe_def D_has_bit (hm hr) pass0 (pa_cons (pv 1) (pa_cons (pe_ix (k_ixU (K := K) rfl hu) (k_fldU (K := K) rfl (pv 2) rfl) (pv 0) (fun _ _ => rfl)) pa_nil))))))
   (fun _ _ _ _ => (pv 0))))), ?_⟩
    walk_at "vc"
    refine .inl ⟨x, cw, dx, _, .ref ol, rfl, hx, T.wcl, T.wo, lk_order, ?_⟩
    refine .inl ⟨⟨_, SqL.of ho⟩, comp_list (K := K) (fun i ys H' => H' = H ∧ ys = (inB (ss.take i) 0 b).map V.str) ⟨rfl, by simp [inB]⟩ (fun i ys H' _ hp => by rw [hp.1]; exact SqL.of ho) (fun i y ys H' hy hp => ?_) fun ys H' hp => ?_⟩
    · obtain ⟨rfl, rfl⟩ := hp
      have hi : i < ss.length := by simpa using (List.getElem?_eq_some_iff.mp hy).1
      have gi : ss[i]? = some ss[i] := List.getElem?_eq_getElem hi
      generalize ss[i] = sy at gi
      have ey : y = .str sy := by rw [List.getElem?_map, gi] at hy; cases hy; rfl
      subst ey
      obtain ⟨j, hj, gj, vj⟩ := numK_some (i := 0) (List.mem_of_getElem? gi)
      rw [Nat.zero_add] at vj
      have hji : j = i := nodup_inj hw.nd gj gi
      subst hji
      have htk : ss.take (j + 1) = ss.take j ++ [sy] := by rw [List.take_add_one, gi]; rfl
      have hln : (ss.take j).length = j := by rw [List.length_take]; omega
      walk_at "vc"
      refine .inl ⟨x, cw, dx, _, .ref d, rfl, hx, T.wcl, T.wn, lk_numbers, ?_⟩
      walk_at "vc"
      refine .inr ⟨d, .int j, rfl, ?_, ?_⟩
      · have := DGet.k (k := Sum.inr sy) hd
        rw [vj] at this
        exact this
      walk_at "vc"
      refine ⟨_, _, rfl, by omega, ?_⟩
      rw [bit_has]
      walk_at "vc"
      have few : ((inB (ss.take j) 0 b).map V.str).length < sizeLine := by
        rw [List.length_map]
        exact small1000 (Nat.le_trans (inB_len _ _ _) (by rw [hln]; have := hw.few; omega))
      refine ite2 (fun hb => ?_) fun hb => ?_
      · walk_at "vc"
        refine ⟨few, rfl, ?_⟩
        rw [htk, inB_snoc, hln, Nat.zero_add, if_pos hb]
        simp
      · refine ⟨rfl, ?_⟩
        rw [htk, inB_snoc, hln, Nat.zero_add, if_neg hb]
        simp
    · obtain ⟨rfl, rfl⟩ := hp
      have etk : ss.take (ss.map V.str).length = ss := by rw [List.length_map, List.take_length]
      rw [etk]
      refine ⟨?_, fun l hl => q l hl⟩
      rw [List.length_map]
      exact Nat.le_of_lt (small1000 (Nat.le_trans (inB_len _ _ _) (by have := hw.few; omega)))
theorem ok_bs {f : Addr} {fd : FuncData} (F : Fun K "beside" "Web.beside" s_Web_beside f fd) (T : Txt K mg cc cw) (D_Web_bits_beside : MethOk P w K mg base (CX1 P w) 5 cw "bits_beside" ["self", "place"] (spBB cc cw)) (D_Web_names_in : MethOk P w K mg base CX0 2 cw "names_in" ["self", "bits"] (spNIn cw)) : FnOk P w K mg base (CX1 P w) 6 f fd ["self", "place"] (spBs cc cw) := by
  refine F.ok1 sc_Web_beside (fun vs H Q E h => ?_) fun cdv A outer s H vs Q E hr h => ?_
  · obtain ⟨p, k, x, ss, ns, v, rfl, _⟩ := h; rfl
  · obtain ⟨p, k, x, ss, ns, v, rfl, hW, hv, hz, q⟩ := h
    obtain ⟨dx, d, ol, n, hx, hd, ho, hn, hw⟩ := id hW
    refine ⟨_, (pss_one (ps_ret (pe_methQ D_Web_names_in (hm hr) (pv 0) (pa_cons (pe_methS D_Web_bits_beside (hm hr) xok_fn (pv 0) (pa_cons (pv 1) pa_nil)) pa_nil)))), ?_⟩
    walk_at "vc"
    refine ⟨x, dx, _, rfl, hx, lk_no (by decide +kernel), ?_⟩
    walk_at "vc"
    refine ⟨x, dx, _, rfl, hx, lk_no (by decide +kernel), ?_⟩
    walk_at "vc"
    refine ⟨p, k, x, ss, ns, v, rfl, hW, hv, hz, fun j gj hp H1 s1 => ?_⟩
    walk_at "vc"
    exact ⟨x, ss, ns, _, rfl, hW.same s1, q j gj hp H1 s1⟩
theorem ok_pls {f : Addr} {fd : FuncData} (F : Fun K "places" "Web.places" s_Web_places f fd) (T : Txt K mg cc cw) : FnOk P w K mg base CX0 1 f fd ["self"] (spPls cw) := by
  refine F.ok sc_Web_places (fun vs H Q E h => ?_) fun cdv A outer s H vs Q E hr h => ?_
  · obtain ⟨x, ss, ns, rfl, _⟩ := h; rfl
  · obtain ⟨x, ss, ns, rfl, ⟨dx, d, ol, n, hx, hd, ho, hn, hw⟩, q⟩ := h
    refine ⟨_, (pss_one (ps_ret (pe_callTy (k_listU (K := K) rfl rfl) rfl T.b_list boot_list (pa_cons (k_fldU (K := K) rfl (pv 0) rfl) pa_nil)))), ?_⟩
    walk_at "vc"
    refine .inl ⟨x, cw, dx, _, .ref ol, rfl, hx, T.wcl, T.wo, lk_order, ?_⟩
    walk_at "vc"
    exact .inl ⟨ol, _, rfl, .inl (SqL.of ho), q⟩
end
inductive Rch (ns : List Nat) (i : Nat) : Nat → Prop
  | base : Rch ns i i
  | step {a b : Nat} (h : Rch ns i a) (t : (ns.getD a 0).testBit b = true) : Rch ns i b
structure All2 {α β : Type} (R : α → β → Prop) (l : List α) (m : List β) : Prop where
  len : l.length = m.length
  at_ : ∀ (k : Nat) a b, l[k]? = some a → m[k]? = some b → R a b
theorem All2.nil {α β : Type} {R : α → β → Prop} : All2 R [] [] := ⟨rfl, fun k a b h => by simp at h⟩
theorem All2.mono {α β : Type} {R S : α → β → Prop} {l : List α} {m : List β} (h : All2 R l m) (f : ∀ a b, R a b → S a b) : All2 S l m := ⟨h.len, fun k a b x y => f a b (h.at_ k a b x y)⟩
theorem All2.snoc {α β : Type} {R : α → β → Prop} {l : List α} {m : List β} {x : α} {y : β} (h : All2 R l m) (r : R x y) : All2 R (l ++ [x]) (m ++ [y]) := by
  refine ⟨by rw [List.length_append, List.length_append, h.len]; rfl, fun k a b ha hb => ?_⟩
  by_cases hk : k < l.length
  · rw [List.getElem?_append_left hk] at ha
    rw [List.getElem?_append_left (by rw [← h.len]; exact hk)] at hb
    exact h.at_ k a b ha hb
  · rw [List.getElem?_append_right (by omega)] at ha
    rw [List.getElem?_append_right (by rw [← h.len]; omega)] at hb
    have h0 : k - l.length = 0 := by
      have := (List.getElem?_eq_some_iff.mp ha).1
      simp at this
      omega
    rw [← h.len] at hb
    rw [h0] at ha hb
    cases ha
    cases hb
    exact r
theorem All2.mem {α β : Type} {R : α → β → Prop} {l : List α} {m : List β} (h : All2 R l m) {x : α} (hx : x ∈ l) : ∃ y ∈ m, R x y := by
  obtain ⟨k, hk, e⟩ := List.getElem_of_mem hx
  have hk' : k < m.length := by rw [← h.len]; exact hk
  exact ⟨m[k], List.getElem_mem hk', h.at_ k x m[k] (by rw [List.getElem?_eq_getElem hk, e]) (List.getElem?_eq_getElem hk')⟩
open Classical in
theorem idx_at {ss : List Str} (hn : ss.Nodup) {i : Nat} {s : Str} (h : ss[i]? = some s) : ss.idxOf s = i := by
  have hm : s ∈ ss := List.mem_of_getElem? h
  have hl : ss.idxOf s < ss.length := List.idxOf_lt_length_of_mem hm
  exact nodup_inj hn (by rw [List.getElem?_eq_getElem hl, List.getElem_idxOf]) h
theorem inB_filter {ss : List Str} (hn : ss.Nodup) (b : Nat) : inB ss 0 b = ss.filter fun s => b.testBit (ss.idxOf s) := by
  have key : ∀ k, k ≤ ss.length → inB (ss.take k) 0 b = (ss.take k).filter fun s => b.testBit (ss.idxOf s) := fun k => by
    induction k with
    | zero => intro _; simp [inB]
    | succ k ih =>
      intro hk
      have gk : ss[k]? = some ss[k] := List.getElem?_eq_getElem (by omega)
      generalize ss[k] = sk at gk
      have htk : ss.take (k + 1) = ss.take k ++ [sk] := by rw [List.take_add_one, gk]; rfl
      have hln : (ss.take k).length = k := by rw [List.length_take]; omega
      rw [htk, inB_snoc, List.filter_append, ih (by omega), hln, Nat.zero_add]
      congr 1
      rw [List.filter_cons, List.filter_nil, idx_at hn gk]
  have := key ss.length (Nat.le_refl _)
  rwa [List.take_length] at this
section
variable {P : Program} {w : World} {K : W.Frag} {mg : Str → Option Value} {base : Heap} {cc : Nat → Addr} {cw : Addr}
end
/- Web.ties: calls [] -/
theorem name_place {ss : List Str} {s : Str} (hs : s ∈ ss) (hn : nameS s = true) : placeV ss (.str s) = true := by
  unfold placeV
  rw [if_pos (show nameV (.str s) = true from hn)]
  exact decide_eq_true hs
theorem nameS_len {s : Str} (h : nameS s = true) : s.length ≤ 6 := (nameV_str (x := .str s) h).2.2
def tRow (ss : List Str) (ns : List Nat) (i : Nat) : List (Str × Str) := ((inB ss 0 (ns.getD i 0)).filter fun o => decide (i < ss.idxOf o)).map fun o => (ss.getD i "", o)
def tiesOf (ss : List Str) (ns : List Nat) (i : Nat) : List (Str × Str) := (List.range i).flatMap (tRow ss ns)
def PrAt (H H' : Hp) (l : Addr) (t : Addr) (ab : Str × Str) : Prop := H t = none ∧ t ≠ l ∧ H' t = some (.tup [.str ab.1, .str ab.2])
section
variable {P : Program} {w : World} {K : W.Frag} {mg : Str → Option Value} {base : Heap} {cc : Nat → Addr} {cw : Addr}
end
def Box (H : Hp) (p : Addr) : Prop := ∃ a b c : Int, H p = some (.lst [.int a, .int b, .int c])
def BB (p : Addr) (H H' : Hp) : Prop := (∀ b o, b ≠ p → H b = some o → H' b = some o) ∧ Box H' p
section
variable {P : Program} {w : World} {K : W.Frag} {mg : Str → Option Value} {base : Heap} {cc : Nat → Addr} {cw : Addr}
theorem Th.str {p : Addr} {H : Hp} {n : Nat} {s : Str} (h : s.length ≤ 100000) : Th p H n (.str s) := .flat rfl fun t e => by cases e; exact h
def NewH (H H' : Hp) : Hp := fun a => match H a with | none => H' a | some _ => none
theorem inV_str (c : Str) (ss : List Str) : inV (.str c) (ss.map V.str) = decide (c ∈ ss) := by
  unfold inV
  rw [List.any_map, Bool.eq_iff_iff, List.any_eq_true, decide_eq_true_iff]
  constructor
  · rintro ⟨y, hy, e⟩
    have : y = c := eq_of_beq e
    rw [← this]; exact hy
  · intro h
    exact ⟨c, h, beq_self_eq_true c⟩
theorem flat_strs (ss : List Str) : (ss.map V.str).all flatV = true := by rw [List.all_map]; exact List.all_eq_true.mpr fun _ _ => rfl
def signs : List Str := ("abcdefghijklmno" : Str).cps.toList.map fun c => ⟨#[c]⟩
end
theorem slice_ix (k n : Nat) : Builtin.Str.strSliceIndices none (some (k : Int)) 1 n = List.range (min k n) := by
  unfold Builtin.Str.strSliceIndices sliceRange
  simp only [show (1 : Int) > 0 by decide, if_true]
  rw [if_neg (show ¬ ((k : Int) < 0) by omega)]
  have e1 : max 0 (min (k : Int) n) = ((min k n : Nat) : Int) := by omega
  rw [e1]
  have e2 : (fun (j : Nat) => ((0 : Int) + 1 * (j : Int)).toNat) = id := by funext j; show _ = j; omega
  rw [e2, List.map_id]
  congr 1
  split
  · rw [Int.ediv_one]; omega
  · omega
theorem fm_take (a : Array Nat) : ∀ m, m ≤ a.size → (List.range m).filterMap (a[·]?) = a.toList.take m
  | 0, _ => rfl
  | m + 1, h => by
    rw [List.range_succ, List.filterMap_append, fm_take a m (by omega), List.take_add_one]
    congr 1
    have e : a[m]? = some a[m] := Array.getElem?_eq_getElem (by omega)
    have e' : a.toList[m]? = some a[m] := by rw [Array.getElem?_toList]; exact e
    rw [e', List.filterMap_cons, e]
    rfl
theorem slice_take (z : Str) (k : Nat) : (Txt.slice z none (some (k : Int))).cps.toList = z.cps.toList.take k := by
  unfold Txt.slice
  rw [slice_ix]
  have hz : z.length = z.cps.toList.length := by simp [Str.length]
  split
  · rename_i h
    rw [List.length_range] at h
    have : min k z.length = z.length := by simpa using h
    rw [List.take_of_length_le (by omega)]
  · show (List.filterMap _ _).toArray.toList = _
    rw [fm_take z.cps (min k z.length) (Nat.min_le_right _ _)]
    show z.cps.toList.take (min k z.length) = _
    by_cases hk : k ≤ z.length
    · rw [Nat.min_eq_left hk]
    · rw [Nat.min_eq_right (by omega), List.take_of_length_le (by omega), List.take_of_length_le (by omega)]
theorem app_list (a b : Str) : (a ++ b).cps.toList = a.cps.toList ++ b.cps.toList := by
  show (a.cps ++ b.cps).toList = _
  exact Array.toList_append
theorem sg_of {c : Nat} (h : 97 ≤ c) (h2 : c ≤ 122) : sg c = true := by
  have key : ∀ i, i < 26 → sg (97 + i) = true := by decide +kernel
  have := key (c - 97) (by omega)
  rwa [show 97 + (c - 97) = c by omega] at this
def Signs (p : Addr) (H : Hp) (i : Nat) (ys : List V) (H' : Hp) : Prop := BB p H H' ∧ ∃ xs : List Str, ys = xs.map V.str ∧ xs.length = i ∧ ∀ x ∈ xs, x.length = 1 ∧ x.cps.toList.all sg = true
def L26 : Str := "abcdefghijklmnopqrstuvwxyz"
theorem L26_at {i : Int} (h0 : 0 ≤ i) (h1 : i < 26) : atI L26.cps.toList i = some (97 + i.toNat) := by
  obtain ⟨n, rfl⟩ := Int.eq_ofNat_of_zero_le h0
  have key : ∀ n, n < 26 → L26.cps.toList[n]? = some (97 + n) := by decide +kernel
  rw [Int.toNat_natCast]
  exact atI_nat (key n (by omega))
theorem nameS_of {x : Str} {l : List Nat} (e : x.cps.toList = l) (h1 : 1 ≤ l.length) (h6 : l.length ≤ 6) (h : l.all sg = true) : nameS x = true := by
  have hl : x.length = l.length := by rw [← e]; simp [Str.length]
  unfold nameS
  rw [if_pos ⟨by omega, by omega⟩, e]
  exact h
theorem nodup_key {ss : List Str} (h : ∀ (i j : Nat) (s : Str), ss[i]? = some s → ss[j]? = some s → i = j) : ss.Nodup := by
  refine List.pairwise_iff_getElem.mpr fun i j hi hj hij e => ?_
  have := h i j ss[j] (by rw [List.getElem?_eq_getElem hi, e]) (List.getElem?_eq_getElem hj)
  omega
theorem step_inj {step sh a b : Int} (hs : step ∈ [(1 : Int), 3, 5, 7, 9, 11, 15, 25]) (ha : 0 ≤ a) (hb : 0 ≤ b) (ha' : a < 26) (hb' : b < 26) (e : (sh + step * a) % 26 = (sh + step * b) % 26) : a = b := by
  simp only [List.mem_cons, List.not_mem_nil, or_false] at hs
  rcases hs with rfl | rfl | rfl | rfl | rfl | rfl | rfl | rfl <;> omega
def NL (p : Addr) (H' : Hp) (l : Addr) (ss : List Str) : Prop := H' l = some (.lst (ss.map V.str)) ∧ l ≠ p
structure NOk (ss : List Str) : Prop where
  few : ss.length ≤ 14
  nd : ss.Nodup
  nm : ∀ s ∈ ss, nameS s = true
section
variable {P : Program} {w : World} {K : W.Frag} {mg : Str → Option Value} {base : Heap} {cc : Nat → Addr} {cw : Addr}
end
def PrT (p : Addr) (H : Hp) (t : Addr) (ab : Str × Str) : Prop := t ≠ p ∧ H t = some (.tup [.str ab.1, .str ab.2])
def TL (p : Addr) (H : Hp) (l : Addr) (ts : List Addr) (tps : List (Str × Str)) : Prop := H l = some (.lst (ts.map V.ref)) ∧ l ≠ p ∧ All2 (PrT p H) ts tps
theorem erase_map {α β : Type} (f : α → β) : ∀ (l : List α) (k : Nat), (l.map f).eraseIdx k = (l.eraseIdx k).map f
  | [], _ => rfl
  | _ :: _, 0 => rfl
  | a :: r, k + 1 => congrArg (f a :: ·) (erase_map f r k)
theorem All2.erase {α β : Type} {R : α → β → Prop} {l : List α} {m : List β} (h : All2 R l m) (k : Nat) : All2 R (l.eraseIdx k) (m.eraseIdx k) := by
  refine ⟨by rw [List.length_eraseIdx, List.length_eraseIdx, h.len], fun j a b ha hb => ?_⟩
  rw [List.getElem?_eraseIdx] at ha hb
  split at ha
  · rename_i hlt
    rw [if_pos hlt] at hb
    exact h.at_ j a b ha hb
  · rename_i hlt
    rw [if_neg hlt] at hb
    exact h.at_ (j + 1) a b ha hb
theorem erase_perm {α : Type} : ∀ (l : List α) (k : Nat) (h : k < l.length), (l[k] :: l.eraseIdx k).Perm l
  | [], _, h => absurd h (Nat.not_lt_zero _)
  | a :: r, 0, _ => .refl _
  | a :: r, k + 1, h => (List.Perm.swap a _ _).trans (.cons a (erase_perm r k (Nat.lt_of_succ_lt_succ h)))
structure TOk (ss : List Str) (tps : List (Str × Str)) : Prop where
  few : tps.length ≤ 30
  ok : ∀ ab ∈ tps, ∃ j k : Nat, j < k ∧ ss[j]? = some ab.1 ∧ ss[k]? = some ab.2
  nd : tps.Nodup
def Shuf (tps ups : List (Str × Str)) : Prop := ∃ qps, ups.Perm qps ∧ All2 (fun a b => b = a ∨ b = (a.2, a.1)) tps qps
section
variable {P : Program} {w : World} {K : W.Frag} {mg : Str → Option Value} {base : Heap} {cc : Nat → Addr} {cw : Addr}
end
theorem eqV_self {v : V} (h : flatV v = true) : eqV v v = true := by
  cases v <;> first | rfl | (simp [eqV]; done) | cases h
theorem all_true (n : Nat) : (List.range n).all (fun _ => true) = true := by simp
theorem pair_eqD {K : W.Frag} {H : Hp} {a b : Addr} {s t s' t' : Str} (hb : H b = some (.tup [.str s', .str t'])) (ha : H a = some (.tup [.str s, .str t])) : EqD K H 1 (.ref b) (.ref a) (decide ((s', t') = (s, t))) := by
  by_cases e : b = a
  · subst e
    rw [hb] at ha
    cases ha
    rw [decide_eq_true rfl]
    exact .self
  · have z := EqT.tup (K := K) (H := H) (n := 0) (e := fun j => if j = 0 then eqV (.str s') (.str s) else eqV (.str t') (.str t)) (SqT.of hb) (SqT.of ha) fun j x y hx hy => by
      match j, hx, hy with
      | 0, hx, hy => cases hx; cases hy; exact .flat rfl rfl
      | 1, hx, hy => cases hx; cases hy; exact .flat rfl rfl
    have ev : ((List.range (min [V.str s', V.str t'].length [V.str s, V.str t].length)).all (fun j => if j = 0 then eqV (.str s') (.str s) else eqV (.str t') (.str t)) && [V.str s', V.str t'].length == [V.str s, V.str t].length) = decide ((s', t') = (s, t)) := by
      show ((s' == s) && ((t' == t) && true) && true) = _
      rw [Bool.eq_iff_iff]
      simp
    rw [ev] at z
    exact .deep z e
def PL (H : Hp) (l : Addr) (ts : List Addr) (tps : List (Str × Str)) : Prop := H l = some (.lst (ts.map V.ref)) ∧ All2 (fun t ab => H t = some (.tup [.str ab.1, .str ab.2])) ts tps
theorem PL.same {l : Addr} {H H' : Hp} {ts : List Addr} {tps : List (Str × Str)} (h : PL H l ts tps) (s : L2.Same H H') : PL H' l ts tps := ⟨s _ _ h.1, h.2.mono fun _ _ z => s _ _ z⟩
def contV (H : Hp) (z : V) : Option (Str × Str) := match z with
  | .ref t => (match H t with
    | some (.tup [.str a, .str b]) => some (a, b)
    | _ => none)
  | _ => none
theorem contV_at {H : Hp} {t : Addr} {a b : Str} (h : H t = some (.tup [.str a, .str b])) : contV H (.ref t) = some (a, b) := by
  unfold contV
  dsimp only
  rw [h]
theorem any_in {H : Hp} {ts : List Addr} {tps : List (Str × Str)} (h : All2 (fun t ab => H t = some (.tup [.str ab.1, .str ab.2])) ts tps) (st : Str × Str) : ((ts.map V.ref).any fun z => decide (contV H z = some st)) = decide (st ∈ tps) := by
  rw [Bool.eq_iff_iff, List.any_eq_true, decide_eq_true_iff]
  constructor
  · rintro ⟨z, hz, e⟩
    obtain ⟨t, ht, rfl⟩ := List.mem_map.mp hz
    obtain ⟨ab, hab, r⟩ := h.mem ht
    have e := of_decide_eq_true e
    rw [contV_at r] at e
    cases e
    exact hab
  · intro hm
    obtain ⟨k, hk, e⟩ := List.getElem_of_mem hm
    have hk' : k < ts.length := by rw [h.len]; exact hk
    have r := h.at_ k ts[k] tps[k] (List.getElem?_eq_getElem hk') (List.getElem?_eq_getElem hk)
    refine ⟨.ref ts[k], List.mem_map.mpr ⟨_, List.getElem_mem hk', rfl⟩, decide_eq_true ?_⟩
    rw [contV_at r, e]
theorem pl_in {K : W.Frag} {H : Hp} {l a : Addr} {ts : List Addr} {tps : List (Str × Str)} {s t : Str} {Q : VK} (h : PL H l ts tps) (ha : H a = some (.tup [.str s, .str t])) (q : Q (.bl (decide ((s, t) ∈ tps))) H) : rInU K false (.ref a) (.ref l) H Q := by
  refine .inr (.inr ⟨l, ts.map V.ref, fun z => decide (contV H z = some (s, t)), 1, rfl, SqL.of h.1, by decide, fun z hz => ?_, ?_⟩)
  · obtain ⟨b, hb, rfl⟩ := List.mem_map.mp hz
    obtain ⟨ab, _, r⟩ := h.2.mem hb
    have e := pair_eqD (K := K) r ha
    have ee : decide (contV H (.ref b) = some (s, t)) = decide ((ab.1, ab.2) = (s, t)) := by
      rw [contV_at r]
      apply decide_eq_decide.mpr
      rw [Option.some.injEq]
    show EqD K H 1 (.ref b) (.ref a) (decide (contV H (.ref b) = some (s, t)))
    rw [ee]
    exact e
  · rw [any_in h.2]
    exact q
def risRow (ss : List Str) (tps : List (Str × Str)) (one : Str) : List (Str × Str) := (ss.filter fun o => decide ((one, o) ∈ tps)).map fun o => (one, o)
def risOf (ss : List Str) (tps : List (Str × Str)) (l : List Str) : List (Str × Str) := l.flatMap (risRow ss tps)
def besOf (ss : List Str) (tps : List (Str × Str)) (pl : Str) : List Str := ss.filter fun o => decide ((pl, o) ∈ tps) || decide ((o, pl) ∈ tps)
theorem str_eq_list {ss : List Str} {i : Nat} {y : V} (hy : (ss.map V.str)[i]? = some y) : ∃ s, ss[i]? = some s ∧ y = .str s := by
  rw [List.getElem?_map] at hy
  cases h : ss[i]? with
  | none => rw [h] at hy; cases hy
  | some s => rw [h] at hy; cases hy; exact ⟨s, rfl, rfl⟩
section
variable {P : Program} {w : World} {K : W.Frag} {mg : Str → Option Value} {base : Heap} {cc : Nat → Addr} {cw : Addr}
end
def Adj (ss : List Str) (ns : List Nat) (tps : List (Str × Str)) : Prop := ∀ a b s t, ss[a]? = some s → ss[b]? = some t → ((ns.getD a 0).testBit b = true ↔ ((s, t) ∈ tps ∨ (t, s) ∈ tps))
theorem idx_get {ss : List Str} {s : Str} (h : s ∈ ss) : ss[ss.idxOf s]? = some s := by
  have hl := List.idxOf_lt_length_of_mem h
  rw [List.getElem?_eq_getElem hl, List.getElem_idxOf]
section
variable {P : Program} {w : World} {K : W.Frag} {mg : Str → Option Value} {base : Heap} {cc : Nat → Addr} {cw : Addr}
structure Wk (ss : List Str) (ns : List Nat) (k : Nat) (name : Str) (ps qs : List Str) : Prop where
  nd : ps.Nodup
  has : name ∈ ps
  rch : ∀ s ∈ ps, s ∈ ss ∧ Rch ns k (ss.idxOf s)
  sub : ∀ s ∈ qs, s ∈ ps
end
section
variable {P : Program} {w : World} {K : W.Frag} {mg : Str → Option Value} {base : Heap} {cc : Nat → Addr} {cw : Addr}
theorem eqD_flat {H : Hp} {n : Nat} {x : V} (h : flatV x = true) : EqD K H n x x true := by
  have e := EqD.flat (K := K) (H := H) (n := n) h h
  rw [eqV_self h] at e
  exact e
theorem Th.eqD {p : Addr} {H : Hp} {n m : Nat} {v : V} (h : Th p H n v) : EqD K H m v v true := by
  cases h with
  | flat f l => exact eqD_flat f
  | lst e ne h l => exact .self
  | tup e ne h l => exact .self
  | dct e ne => exact .self
end
theorem bes_of {ss : List Str} {ns : List Nat} {dps : List (Str × Str)} (hw : WOk ss ns) (ha : Adj ss ns dps) {k : Nat} {s : Str} (gk : ss[k]? = some s) : inB ss 0 (ns.getD k 0) = besOf ss dps s := by
  rw [inB_filter hw.nd]
  unfold besOf
  apply List.filter_congr
  intro t ht
  rw [Bool.eq_iff_iff, Bool.or_eq_true, decide_eq_true_iff, decide_eq_true_iff]
  exact ha _ _ s t gk (idx_get ht)
section
variable {P : Program} {w : World} {K : W.Frag} {mg : Str → Option Value} {base : Heap} {cc : Nat → Addr} {cw : Addr}
end
theorem vAsgT {te : TE} {K : W.Frag} {n : Nat} {gs : TGs} {D : Ends} {σ : L2.St} {H : Hp} (h : te σ H fun x H1 => gTup K n gs x σ H1 D.nx) : tAsg te (gTup K n gs) D σ H := h
def UN (x y : Str × Str) : Prop := x ≠ y ∧ x ≠ (y.2, y.1)
theorem UN.symm {x y : Str × Str} (h : UN x y) : UN y x := ⟨fun e => h.1 e.symm, fun e => h.2 (by rw [e])⟩
theorem TOk.un {ss : List Str} {tps : List (Str × Str)} (hn : ss.Nodup) (h : TOk ss tps) : tps.Pairwise UN := by
  have nd := h.nd
  refine List.Pairwise.imp_of_mem (fun {a b} ha hb (hne : a ≠ b) => ⟨hne, fun e => ?_⟩) nd
  obtain ⟨j, k, h1, h2, h3⟩ := h.ok a ha
  obtain ⟨j', k', g1, g2, g3⟩ := h.ok b hb
  rw [e] at h2 h3
  have e1 := nodup_inj hn h2 g3
  have e2 := nodup_inj hn h3 g2
  omega
theorem Shuf.un {ss : List Str} {tps ups : List (Str × Str)} (hn : ss.Nodup) (h : TOk ss tps) (sh : Shuf tps ups) : ups.Pairwise UN := by
  obtain ⟨qps, hp, hA⟩ := sh
  have hu := h.un hn
  refine hp.symm.pairwise ?_ fun h => h.symm
  refine List.pairwise_iff_getElem.mpr fun i j hi hj hij => ?_
  have hi' : i < tps.length := by rw [hA.len]; exact hi
  have hj' : j < tps.length := by rw [hA.len]; exact hj
  have hu' := List.pairwise_iff_getElem.mp hu i j hi' hj' hij
  have ai := hA.at_ i tps[i] qps[i] (List.getElem?_eq_getElem hi') (List.getElem?_eq_getElem hi)
  have aj := hA.at_ j tps[j] qps[j] (List.getElem?_eq_getElem hj') (List.getElem?_eq_getElem hj)
  generalize tps[i] = a at hu' ai
  generalize tps[j] = b at hu' aj
  generalize qps[i] = c at ai
  generalize qps[j] = d at aj
  obtain ⟨a1, a2⟩ := a
  obtain ⟨b1, b2⟩ := b
  obtain ⟨h1, h2⟩ := hu'
  rcases ai with rfl | rfl <;> rcases aj with rfl | rfl <;> refine ⟨fun e => ?_, fun e => ?_⟩ <;> dsimp only at e h1 h2 <;> rw [Prod.mk.injEq] at e <;> simp only [ne_eq, Prod.mk.injEq] at h1 h2 <;> first | exact h1 ⟨e.1, e.2⟩ | exact h2 ⟨e.1, e.2⟩ | exact h1 ⟨e.2, e.1⟩ | exact h2 ⟨e.2, e.1⟩
theorem Shuf.mem {tps ups : List (Str × Str)} (sh : Shuf tps ups) (s t : Str) : ((s, t) ∈ ups ∨ (t, s) ∈ ups) ↔ ((s, t) ∈ tps ∨ (t, s) ∈ tps) := by
  obtain ⟨qps, hp, hA⟩ := sh
  rw [hp.mem_iff, hp.mem_iff]
  constructor
  · have key : ∀ c ∈ qps, c ∈ tps ∨ (c.2, c.1) ∈ tps := fun c hc => by
      obtain ⟨k, hk, e⟩ := List.getElem_of_mem hc
      have hk' : k < tps.length := by rw [hA.len]; exact hk
      have a := hA.at_ k tps[k] qps[k] (List.getElem?_eq_getElem hk') (List.getElem?_eq_getElem hk)
      rw [e] at a
      rcases a with a | a
      · rw [a]; exact .inl (List.getElem_mem hk')
      · rw [a]; exact .inr (List.getElem_mem hk')
    rintro (h | h)
    · exact key _ h
    · rcases key _ h with h | h
      · exact .inr h
      · exact .inl h
  · have key : ∀ c ∈ tps, c ∈ qps ∨ (c.2, c.1) ∈ qps := fun c hc => by
      obtain ⟨d, hd, r⟩ := hA.mem hc
      rcases r with r | r
      · rw [← r]; exact .inl hd
      · rw [← r]; exact .inr hd
    rintro (h | h)
    · exact key _ h
    · rcases key _ h with h | h
      · exact .inr h
      · exact .inl h
theorem Shuf.good {ss : List Str} {tps ups : List (Str × Str)} (h : TOk ss tps) (sh : Shuf tps ups) : ∀ ab ∈ ups, ab.1 ∈ ss ∧ ab.2 ∈ ss ∧ (ss.Nodup → ab.1 ≠ ab.2) := fun ab hab => by
  have := (sh.mem ab.1 ab.2).mp (.inl hab)
  rcases this with h' | h'
  · obtain ⟨j, k, h1, h2, h3⟩ := h.ok _ h'
    exact ⟨List.mem_of_getElem? h2, List.mem_of_getElem? h3, fun nd e => by dsimp only at h2 h3; rw [e] at h2; have := nodup_inj nd h2 h3; omega⟩
  · obtain ⟨j, k, h1, h2, h3⟩ := h.ok _ h'
    exact ⟨List.mem_of_getElem? h3, List.mem_of_getElem? h2, fun nd e => by dsimp only at h2 h3; rw [e] at h3; have := nodup_inj nd h2 h3; omega⟩
theorem Shuf.len {tps ups : List (Str × Str)} (sh : Shuf tps ups) : ups.length = tps.length := by
  obtain ⟨qps, hp, hA⟩ := sh
  rw [hp.length_eq, hA.len]
theorem dueN_ok : ∀ (l acc : List Str), (∀ s ∈ l, nameS s = true) → l.Nodup → (∀ s ∈ l, s ∉ acc) → dueN (l.map V.str) acc = none
  | [], _, _, _, _ => rfl
  | s :: r, acc, hn, nd, hd => by
    rw [List.map_cons, dueN_cons, if_pos (show nameV (.str s) = true from hn s List.mem_cons_self), if_neg (show ¬ strV (.str s) ∈ acc from hd s List.mem_cons_self)]
    show dueN (r.map V.str) (acc ++ [s]) = none
    rw [List.nodup_cons] at nd
    refine dueN_ok r _ (fun t ht => hn t (List.mem_cons_of_mem _ ht)) nd.2 fun t ht hm => ?_
    rcases List.mem_append.mp hm with h | h
    · exact hd t (List.mem_cons_of_mem _ ht) h
    · have : t = s := List.mem_singleton.mp h
      rw [this] at ht
      exact nd.1 ht
theorem tieV_ok {H : Hp} {ss : List Str} {t : Addr} {a b : Str} (e : H t = some (.tup [.str a, .str b])) (ha : placeV ss (.str a) = true) (hb : placeV ss (.str b) = true) (hne : a ≠ b) : tieV H ss (.ref t) = some (a, b) := by
  rw [tieV_tup e, if_pos]
  · rfl
  · unfold pairV
    rw [ha, hb]
    simp [strV, hne]
theorem goT_ok {H : Hp} {ss : List Str} : ∀ (us : List Addr) (ups seen : List (Str × Str)), us.length = ups.length → (∀ (k : Nat) t ab, us[k]? = some t → ups[k]? = some ab → tieV H ss (.ref t) = some ab) → (seen ++ ups).Pairwise UN → goT H ss (us.map V.ref) seen = none
  | [], _, _, _, _, _ => rfl
  | u :: us, [], _, hl, _, _ => by cases hl
  | u :: us, ab :: ups, seen, hl, hc, hp => by
    rw [List.map_cons, goT_on (hc 0 u ab rfl rfl), if_neg]
    · refine goT_ok us ups (seen ++ [ab]) (Nat.succ.inj hl) (fun k t cd h1 h2 => hc (k + 1) t cd (by simpa using h1) (by simpa using h2)) ?_
      rw [List.append_assoc]
      exact hp
    · rw [List.pairwise_append] at hp
      rintro (h | h)
      · exact (hp.2.2 ab h ab List.mem_cons_self).1 rfl
      · exact (hp.2.2 _ h ab List.mem_cons_self).2 rfl
theorem fm_ties {H : Hp} {ss : List Str} : ∀ (us : List Addr) (ups : List (Str × Str)), us.length = ups.length → (∀ (k : Nat) t ab, us[k]? = some t → ups[k]? = some ab → tieV H ss (.ref t) = some ab) → (us.map V.ref).filterMap (tieV H ss) = ups
  | [], [], _, _ => rfl
  | [], _ :: _, hl, _ => by cases hl
  | _ :: _, [], hl, _ => by cases hl
  | u :: us, ab :: ups, hl, hc => by
    rw [List.map_cons, List.filterMap_cons, hc 0 u ab rfl rfl]
    exact congrArg (ab :: ·) (fm_ties us ups (Nat.succ.inj hl) fun k t cd h1 h2 => hc (k + 1) t cd (by simpa using h1) (by simpa using h2))
theorem names_map (ss : List Str) : (ss.map V.str).map strV = ss := by
  rw [List.map_map]
  exact List.map_id ss
theorem make_ok {H : Hp} {ss : List Str} {v v2 : V} {us : List Addr} {tps ups : List (Str × Str)} (hO : NOk ss) (hT : TOk ss tps) (sh : Shuf tps ups) (hc : All2 (fun t ab => H t = some (.tup [.str ab.1, .str ab.2])) us ups) :
    outW H v (some (ss.map V.str)) v2 (some (us.map V.ref)) = none ∧ (us.map V.ref).filterMap (tieV H ss) = ups := by
  have pl : ∀ s, s ∈ ss → placeV ss (.str s) = true := fun s hs => name_place hs (hO.nm s hs)
  have tv : ∀ (k : Nat) t ab, us[k]? = some t → ups[k]? = some ab → tieV H ss (.ref t) = some ab := fun k t ab h1 h2 => by
    obtain ⟨g1, g2, g3⟩ := sh.good hT ab (List.mem_of_getElem? h2)
    exact tieV_ok (hc.at_ k t ab h1 h2) (pl _ g1) (pl _ g2) (g3 hO.nd)
  have hN : outN v (some (ss.map V.str)) = none := by
    show (if 14 < (ss.map V.str).length then _ else dueN (ss.map V.str) []) = none
    rw [if_neg (by rw [List.length_map]; have := hO.few; omega)]
    exact dueN_ok ss [] hO.nm hO.nd (by simp)
  refine ⟨?_, fm_ties us ups hc.len tv⟩
  unfold outW
  rw [hN]
  show outT H ((ss.map V.str).map strV) v2 (some (us.map V.ref)) = none
  rw [names_map]
  show (if 30 < (us.map V.ref).length then _ else (goT H ss (us.map V.ref) []).map _) = none
  rw [if_neg (by rw [List.length_map, hc.len, sh.len]; have := hT.few; omega), goT_ok us ups [] hc.len tv (by simpa using sh.un hO.nd hT)]
  rfl
theorem adj_of {ss : List Str} {ns : List Nat} {tps ups : List (Str × Str)} (sh : Shuf tps ups) (hb : BitsOk ss ns ups) : Adj ss ns tps := fun a b s t ga gb => by
  rw [hb.2.2 a b s t ga gb, decide_eq_true_iff]
  exact sh.mem s t
theorem mem_ris {ss : List Str} {tps : List (Str × Str)} (hT : TOk ss tps) (s t : Str) : (s, t) ∈ risOf ss tps ss ↔ (s, t) ∈ tps := by
  unfold risOf
  rw [List.mem_flatMap]
  constructor
  · rintro ⟨one, _, h⟩
    unfold risRow at h
    obtain ⟨o, ho, e⟩ := List.mem_map.mp h
    cases e
    exact of_decide_eq_true (List.mem_filter.mp ho).2
  · intro h
    obtain ⟨j, k, h1, h2, h3⟩ := hT.ok _ h
    refine ⟨s, List.mem_of_getElem? h2, ?_⟩
    unfold risRow
    exact List.mem_map.mpr ⟨t, List.mem_filter.mpr ⟨List.mem_of_getElem? h3, decide_eq_true h⟩, rfl⟩
theorem Adj.ris {ss : List Str} {ns : List Nat} {tps : List (Str × Str)} (hT : TOk ss tps) (h : Adj ss ns tps) : Adj ss ns (risOf ss tps ss) := fun a b s t ga gb => by
  rw [mem_ris hT, mem_ris hT]
  exact h a b s t ga gb
theorem range_map (ss : List Str) : (List.range ss.length).map (fun i => ss.getD i "") = ss := by
  apply List.ext_getElem?
  intro i
  rw [List.getElem?_map]
  by_cases h : i < ss.length
  · rw [List.getElem?_range h, List.getElem?_eq_getElem h]
    simp [List.getD, h]
  · rw [List.getElem?_eq_none (by simpa using h), List.getElem?_eq_none (by omega)]
    rfl
theorem ties_ris {ss : List Str} {ns : List Nat} {tps : List (Str × Str)} (hw : WOk ss ns) (hT : TOk ss tps) (ha : Adj ss ns tps) : tiesOf ss ns ss.length = risOf ss tps ss := by
  have e : risOf ss tps ss = (List.range ss.length).flatMap fun i => risRow ss tps (ss.getD i "") := by
    unfold risOf
    conv => lhs; rw [← range_map ss]
    rw [List.flatMap_map]
    rw [range_map]
  rw [e]
  unfold tiesOf
  have key : ∀ i ∈ List.range ss.length, tRow ss ns i = risRow ss tps (ss.getD i "") := fun i hi => by
    have hi : i < ss.length := List.mem_range.mp hi
    have gi : ss[i]? = some (ss.getD i "") := by simp [List.getD, hi]
    unfold tRow risRow
    congr 1
    rw [inB_filter hw.nd, List.filter_filter]
    apply List.filter_congr
    intro o ho
    have go := idx_get ho
    rw [Bool.eq_iff_iff, Bool.and_eq_true, decide_eq_true_iff, decide_eq_true_iff, ha i _ _ o gi go]
    constructor
    · rintro ⟨h1, h2 | h2⟩
      · exact h2
      · obtain ⟨j, k, l1, l2, l3⟩ := hT.ok _ h2
        have e1 := nodup_inj hw.nd l2 go
        have e2 := nodup_inj hw.nd l3 gi
        omega
    · intro h
      obtain ⟨j, k, l1, l2, l3⟩ := hT.ok _ h
      have e1 := nodup_inj hw.nd l2 gi
      have e2 := nodup_inj hw.nd l3 go
      exact ⟨by omega, .inl h⟩
  have fmc : ∀ l : List Nat, (∀ i ∈ l, tRow ss ns i = risRow ss tps (ss.getD i "")) → l.flatMap (tRow ss ns) = l.flatMap fun i => risRow ss tps (ss.getD i "") := fun l => by
    induction l with
    | nil => intro _; rfl
    | cons a r ih =>
      intro h
      rw [List.flatMap_cons, List.flatMap_cons, h a List.mem_cons_self, ih fun i hi => h i (List.mem_cons_of_mem _ hi)]
  exact fmc _ key
theorem But.out {x : Addr} {H H0 H' : Hp} (b : But x H0 H') (s : L2.Same H H0) (hx : H x = none) : L2.Same H H' := fun c o e => b c o (fun z => by subst z; rw [hx] at e; cases e) (s c o e)
def spLaw (K : W.Frag) : Sp := fun vs H Q _ => ∃ (a : Addr) (ns : List Int), vs = [.ref a] ∧ SqL K H a (ns.map V.int) ∧ ns.length ≤ 63 ∧ ∀ H', Q (.bl true) H'
section
variable {P : Program} {w : World} {K : W.Frag} {mg : Str → Option Value} {base : Heap} {cc : Nat → Addr} {cw : Addr}
end
def pHead (l : Str) : Str := (PySem.Txt.partition l ":").1
def pMid (l : Str) : Str := (PySem.Txt.partition l ":").2.1
def pTail (l : Str) : Str := (PySem.Txt.partition l ":").2.2
def wds (l : Str) : List Str := PySem.Txt.split (pTail l) " "
def fw : List Str → Nat → List Str → Sum Nat (List Str)
  | [], _, acc => .inr acc
  | l :: r, k, acc => if pMid l = "" ∨ nameS (pHead l) = false ∨ pHead l ∈ acc ∨ 14 ≤ k then .inl k else fw r (k + 1) (acc ++ [pHead l])
def bel (ss : List Str) : List Str → Nat → Bool
  | [], _ => true
  | w :: r, k => if w ∈ ss ∧ k < ss.idxOf w then bel ss r (ss.idxOf w) else false
def rowT (l : Str) : List (Str × Str) := (wds l).tail.map fun o => (pHead l, o)
def ti (ss : List Str) : List Str → Nat → List (Str × Str) → Sum Nat (List (Str × Str))
  | [], _, acc => .inr acc
  | l :: r, k, acc => if (wds l).headD "" ≠ "" ∨ bel ss (wds l).tail k = false ∨ 30 < (acc ++ rowT l).length then .inl k else ti ss r (k + 1) (acc ++ rowT l)
section
variable {P : Program} {w : World} {K : W.Frag} {mg : Str → Option Value} {base : Heap} {cc : Nat → Addr} {cw : Addr}
end
section
variable {P : Program} {w : World} {K : W.Frag} {mg : Str → Option Value} {base : Heap} {cc : Nat → Addr} {cw : Addr}
end
theorem WebN.old {H0 H1 : Hp} {cw : Addr} {H : Hp} {x : Addr} {ss : List Str} {ns : List Nat} (h : WebN H1 cw H x ss ns) (s : L2.Same H0 H1) : WebN H0 cw H x ss ns := by
  obtain ⟨dx, d, ol, n, h1, h2, h3, h4, h5, a2, a3, a4⟩ := h
  exact ⟨dx, d, ol, n, h1, h2, h3, h4, h5, s.free a2, s.free a3, s.free a4⟩
theorem web_made {cc : Nat → Addr} {cw : Addr} {G : Hp} {c1 l' x dx : Addr} {ss : List Str} {us : List Addr} {tps ups : List (Str × Str)} {Q : VK} {E : XK} (h1 : G c1 = some (.lst (ss.map V.str))) (h2 : G l' = some (.lst (us.map V.ref))) (hA : All2 (fun t ab => G t = some (.tup [.str ab.1, .str ab.2])) us ups)
    (hO : NOk ss) (hT : TOk ss tps) (sh : Shuf tps ups) (hx0 : G x = none) (hdx : G dx = none) (hne : x ≠ dx) (q : ∀ ns H', L2.Same G H' → WebN G cw H' x ss ns → BitsOk ss ns ups → Q .non H') :
    spWeb cc cw [.ref x, .ref c1, .ref l'] (upd (upd G dx (.own x)) x (.ins cw dx [])) Q E := by
  have s0 : L2.Same G (upd (upd G dx (.own x)) x (.ins cw dx [])) := Snew (Snew (L2.Same.refl G) hdx) (by rw [upd_ne hne]; exact hx0)
  have hl0 := hA.mono fun t ab z => s0 _ _ z
  have mk0 := make_ok (H := upd (upd G dx (.own x)) x (.ins cw dx [])) (v := .ref c1) (v2 := .ref l') hO hT sh hl0
  have nx : ∀ {a : Addr} {o : HO}, G a = some o → a ≠ x := fun e z => by rw [z, hx0] at e; cases e
  refine ⟨x, x, dx, .ref c1, some (ss.map V.str), .ref l', some (us.map V.ref), rfl, upd_same, .lst (s0 _ _ h1) (nx h1) (fun v hv => ?_) (by rw [List.length_map]; have := hO.few; omega), .lst (s0 _ _ h2) (nx h2) (fun v hv => ?_) (by rw [List.length_map, hA.len, sh.len]; have := hT.few; omega), (fun r e => by rw [mk0.1] at e; cases e), fun _ ns H' b hWN hbits => ?_⟩
  · obtain ⟨s, hs, rfl⟩ := List.mem_map.mp hv
    exact Th.flat rfl fun z e => by cases e; have := nameS_len (hO.nm _ hs); omega
  · obtain ⟨u, hu', rfl⟩ := List.mem_map.mp hv
    obtain ⟨ab, hab, eu⟩ := hA.mem hu'
    obtain ⟨g1, g2, _⟩ := sh.good hT ab hab
    refine (Th.tup (n := 1) (s0 _ _ eu) (nx eu) (fun z hz => ?_) (by show 2 ≤ 1000; decide))
    simp only [List.mem_cons, List.not_mem_nil, or_false] at hz
    rcases hz with rfl | rfl
    · exact Th.flat rfl fun z e => by cases e; have := nameS_len (hO.nm _ g1); omega
    · exact Th.flat rfl fun z e => by cases e; have := nameS_len (hO.nm _ g2); omega
  · have e1 : ((some (ss.map V.str)).getD []).map strV = ss := names_map ss
    rw [e1] at hbits hWN
    have e2 : ((some (us.map V.ref)).getD []).filterMap (tieV (upd (upd G dx (.own x)) x (.ins cw dx [])) ss) = ups := mk0.2
    rw [e2] at hbits
    exact q ns H' (b.out s0 hx0) (hWN.old s0) hbits
section
variable {P : Program} {w : World} {K : W.Frag} {mg : Str → Option Value} {base : Heap} {cc : Nat → Addr} {cw : Addr}
end
structure WG (ss : List Str) (ns : List Nat) (dps : List (Str × Str)) : Prop where
  tok : TOk ss dps
  adj : Adj ss ns dps
  due : tiesOf ss ns ss.length = dps
def keepT (dps : List (Str × Str)) (ks : List Str) : List (Str × Str) := dps.filter fun t => decide (t.1 ∈ ks) && decide (t.2 ∈ ks)
section
variable {P : Program} {w : World} {K : W.Frag} {mg : Str → Option Value} {base : Heap} {cc : Nat → Addr} {cw : Addr}
end
/- _law_cell: calls []; cells [] -/
abbrev s_l_cell : Stmt := top 37
theorem sc_l_cell : FnScope ["_law_script", "_law_k"] ["_law_script", "_law_k"] (defScope s_l_cell) := ⟨rfl, rfl, rfl, by decide +kernel, rfl, by decide +kernel, by decide +kernel⟩
/- _law_numbers: calls []; cells [] -/
abbrev s_l_numbers : Stmt := top 38
theorem sc_l_numbers : FnScope ["_law_cell_here", "_law_bases", "_law_prime", "_law_great", "_law_number", "_law_found", "_law_base"] ["_law_cell_here", "_law_bases", "_law_prime"] (defScope s_l_numbers) := ⟨rfl, rfl, rfl, by decide +kernel, rfl, by decide +kernel, by decide +kernel⟩
def spCl (K : W.Frag) : Sp := fun vs H Q _ => ∃ (a : Addr) (ns : List Int) (k : Int), vs = [.ref a, .int k] ∧ SqL K H a (ns.map V.int) ∧ 0 ≤ k ∧ k < 1000 ∧ ∀ i : Int, Q (.int i) H
def spNs : Sp := fun vs H Q _ => ∃ (b : Addr) (c pr : Int) (bs : List Int), vs = [.int c, .ref b, .int pr] ∧ H b = some (.lst (bs.map V.int)) ∧ 0 < pr ∧ pr < 2147483648 ∧ bs.length ≤ 100 ∧ (∀ x ∈ bs, 0 < x ∧ x < 1073741824) ∧
  ∀ (l : Addr) (ns : List Int) (H' : Hp), L2.Same H H' → H l = none → H' l = some (.lst (ns.map V.int)) → ns.length = bs.length → (∀ (i : Nat) n x, ns[i]? = some n → bs[i]? = some x → 0 ≤ n ∧ n < x) → Q (.ref l) H'
section
variable {P : Program} {w : World} {K : W.Frag} {mg : Str → Option Value} {base : Heap} {cc : Nat → Addr} {cw : Addr}
theorem ok_cl {f : Addr} {fd : FuncData} (F : Fun K "_law_cell" "_law_cell" s_l_cell f fd) (T : Txt K mg cc cw) : FnOk P w K mg base CX0 1 f fd ["_law_script", "_law_k"] (spCl K) := by
  refine F.ok sc_l_cell (fun vs H Q E h => ?_) fun cdv A outer s H vs Q E hr h => ?_
  · obtain ⟨a, ns, k, rfl, _⟩ := h; rfl
  · obtain ⟨a, ns, k, rfl, hS, h0, h1, q⟩ := h
    have hu := u100 hr
    refine ⟨_, (pss_cons (ps_if (pt_cmpR (k_eqZ (K := K) rfl hu) (pe_callB (k_len (K := K) rfl) rfl T.b_len boot_len (pa_cons (pv 0) pa_nil)) pe_int (nomark _)) (pss_one (ps_ret pe_int)) pss_nil)
  (pss_one (ps_ret (pe_ix (k_ixU (K := K) rfl hu) (pv 0) (pe_op op_mod (pv 1) (pe_callB (k_len (K := K) rfl) rfl T.b_len boot_len (pa_cons (pv 0) pa_nil))) (fun _ _ => rfl))))), ?_⟩
    walk_at "vc"
    refine vLenLs hS ?_
    rw [List.length_map]
    walk_at "vc"
    refine .inl (.inl (.inl ⟨rfl, rfl, ?_⟩))
    rw [if_neg Bool.false_ne_true]
    walk_at "vc"
    refine ite2 (fun hc => ?_) (fun hc => ?_)
    · walk_at "vc"
      exact q 0
    · have hpos : 0 < ns.length := by
        refine Nat.pos_of_ne_zero fun e => hc ?_
        rw [e]
        rfl
      walk_at "vc"
      refine vLenLs hS ?_
      rw [List.length_map]
      walk_at "vc"
      refine vI (show (0 : Int) < (ns.length : Int) by omega) ?_
      have e1 := Int.emod_nonneg k (show (ns.length : Int) ≠ 0 by omega)
      have e2 := Int.emod_lt_of_pos k (show (0 : Int) < (ns.length : Int) by omega)
      obtain ⟨v, i1, i2⟩ := atI_lt (xs := ns.map V.int) e1 (by rw [List.length_map]; exact e2)
      rw [List.getElem?_map] at i2
      cases e3 : ns[(k % (ns.length : Int)).toNat]? with
      | none => rw [e3] at i2; cases i2
      | some i =>
        rw [e3] at i2
        cases i2
        exact .inl (vIxLs hS i1 (q i))
theorem ok_ns {f : Addr} {fd : FuncData} (F : Fun K "_law_numbers" "_law_numbers" s_l_numbers f fd) (T : Txt K mg cc cw) : FnOk P w K mg base CX0 1 f fd ["_law_cell_here", "_law_bases", "_law_prime"] spNs := by
  refine F.ok sc_l_numbers (fun vs H Q E h => ?_) fun cdv A outer s H vs Q E hr h => ?_
  · obtain ⟨b, c, pr, bs, rfl, _⟩ := h; rfl
  · obtain ⟨b, c, pr, bs, rfl, hb, p0, p1, few, hbs, q⟩ := h
    have hu := u100 hr
    refine ⟨_, (pss_cons (ps_set (i := 3) sc_l_numbers.nd rfl (Or.inl rfl) (pe_cmpR op_ge (pv 0) (pe_op op_pow pe_int pe_int) (nomark _)))
  (pss_cons (ps_set (i := 4) sc_l_numbers.nd rfl (Or.inl rfl) (pe_op (k_add (K := K) rfl) (pe_op op_mod (pe_op u_mul (pe_op op_mod (pv 0) (pv 2)) pe_int) (pv 2)) pe_int))
  (pss_cons (ps_set (i := 5) sc_l_numbers.nd rfl (Or.inl rfl) (pe_lst pa_nil))
  (pss_cons (ps_for PassesOwn.never rfl (ki_any (K := K) rfl (pv 1)) (pg_name (i := 6) sc_l_numbers.nd rfl (Or.inl rfl))
  (pss_cons (ps_set (i := 4) sc_l_numbers.nd rfl (Or.inl rfl) (pe_op op_mod (pe_op (k_add (K := K) rfl) (pe_op u_mul (pv 4) pe_int) pe_int) (pv 2)))
  (pss_one (ps_if (pt_val (pv 3)) (pss_cons (ps_expr (k_bm (K := K) rfl PySem.F.plainAttrs_list PySem.F.slot_list_append PySem.F.type_list_append mtR_append (pv 5) (pa_cons (pe_op op_mod (pv 0) (pv 6)) pa_nil)))
  (pss_one (ps_set (i := 0) sc_l_numbers.nd rfl (Or.inl rfl) (pe_op op_fdiv (pv 0) (pv 6))))) (pss_one (ps_expr (k_bm (K := K) rfl PySem.F.plainAttrs_list PySem.F.slot_list_append PySem.F.type_list_append mtR_append (pv 5) (pa_cons (pe_op op_mod (pe_op op_mod (pe_op u_mul (pv 4) (pe_op (k_add (K := K) rfl) (pe_op op_fdiv (pv 4) pe_int) pe_int)) pe_int) (pv 6)) pa_nil))))))))
  (pss_one (ps_ret (pv 5))))))), ?_⟩
    walk_at "vc"
    refine vI ⟨by decide, by decide, by decide⟩ ?_
    walk_at "vc"
    generalize decide (c ≥ 10 ^ (18 : Int).toNat) = g
    refine vI p0 ?_
    walk_at "vc"
    refine vMulI (.inr (by decide)) ?_
    walk_at "vc"
    refine vI p0 ?_
    walk_at "vc"
    refine ⟨by decide, fun l hl0 => ?_⟩
    have s1 := Snew (L2.Same.refl H) (o := .lst []) hl0
    have el : upd H l (.lst []) l = some (.lst []) := upd_same
    have nbl : b ≠ l := ne_of_none hb hl0
    generalize upd H l (.lst []) = H1 at s1 el ⊢
    walk_at "vc"
    have n1 := Int.emod_nonneg (c % pr * 48271) (show pr ≠ 0 by omega)
    have n2 := Int.emod_lt_of_pos (c % pr * 48271) p0
    generalize c % pr * 48271 % pr = z0 at n1 n2
    refine .inl ⟨⟨_, SqL.of (s1 _ _ hb)⟩, for_list (K := K) (fun i σ H' => ∃ (c' num : Int) (ns : List Int) (x6 : Option V), σ = [some (.int c'), some (.ref b), some (.int pr), some (.bl g), some (.int num), some (.ref l), x6] ∧ L2.Same H H' ∧ H' l = some (.lst (ns.map V.int)) ∧ 0 ≤ num ∧ num < 2147500000 ∧ ns.length = i ∧ ∀ (j : Nat) n x, ns[j]? = some n → bs[j]? = some x → 0 ≤ n ∧ n < x) ⟨c, z0 + 8191, [], none, rfl, s1, el, by omega, by omega, rfl, fun j n x h => by simp at h⟩ (fun i σ H' _ hp => by obtain ⟨_, _, _, _, _, z, _⟩ := hp; exact SqL.of (z _ _ hb)) (fun i y σ H2 hy hp => ?_) fun σ H2 hp => ?_⟩
    · obtain ⟨c', num, ns, x6, rfl, s2, hl2, m0, m1, hnl, hns⟩ := hp
      rw [List.getElem?_map] at hy
      cases e : bs[i]? with
      | none => rw [e] at hy; cases hy
      | some x =>
        rw [e] at hy
        cases hy
        have hi : i < bs.length := (List.getElem?_eq_some_iff.mp e).1
        obtain ⟨x0, x1⟩ := hbs x (List.mem_of_getElem? e)
        have more : ∀ r : Int, 0 ≤ r → r < x → ∀ (j : Nat) n y, (ns ++ [r])[j]? = some n → bs[j]? = some y → 0 ≤ n ∧ n < y := fun r r0 r1 j n y hj gj => by
          by_cases hji : j < ns.length
          · rw [List.getElem?_append_left hji] at hj
            exact hns j n y hj gj
          · rw [List.getElem?_append_right (by omega)] at hj
            have e0 : j - ns.length = 0 := by
              have := (List.getElem?_eq_some_iff.mp hj).1
              simp only [List.length_cons, List.length_nil] at this
              omega
            rw [e0] at hj
            cases hj
            have : j = i := by omega
            subst this
            rw [e] at gj
            cases gj
            exact ⟨r0, r1⟩
        walk_at "vc"
        refine vMulI (.inr (by decide)) ?_
        walk_at "vc"
        refine vI p0 ?_
        walk_at "vc"
        have k1 := Int.emod_nonneg (num * 69621 + 4099) (show pr ≠ 0 by omega)
        have k2 := Int.emod_lt_of_pos (num * 69621 + 4099) p0
        generalize (num * 69621 + 4099) % pr = z at k1 k2 ⊢
        refine ite2 (fun hg => ?_) fun hg => ?_
        · walk_at "vc"
          refine ⟨.inl ⟨rfl, _, SqL.of hl2⟩, ?_⟩
          walk_at "vc"
          refine vI x0 ?_
          walk_at "vc"
          refine ⟨l, _, _, rfl, rfl, hl2, by rw [List.length_map]; exact small1000 (by omega), ?_⟩
          walk_at "vc"
          refine vI ⟨x0, x1⟩ ?_
          walk_at "vc"
          exact ⟨_, _, ns ++ [c' % x], _, rfl, Supd s2 hl0, by rw [upd_same, List.map_append]; rfl, k1, by omega, by rw [List.length_append, hnl]; rfl, more _ (Int.emod_nonneg _ (by omega)) (Int.emod_lt_of_pos _ x0)⟩
        · walk_at "vc"
          refine ⟨.inl ⟨rfl, _, SqL.of hl2⟩, ?_⟩
          walk_at "vc"
          refine vI ⟨by decide, by decide⟩ ?_
          walk_at "vc"
          refine vMulI (.inl ⟨by omega, by omega⟩) ?_
          walk_at "vc"
          refine vI (by decide) ?_
          walk_at "vc"
          refine vI x0 ?_
          walk_at "vc"
          refine ⟨l, _, _, rfl, rfl, hl2, by rw [List.length_map]; exact small1000 (by omega), ?_⟩
          exact ⟨_, _, ns ++ [z * (z / 977 + 3) % 2147483629 % x], _, rfl, Supd s2 hl0, by rw [upd_same, List.map_append]; rfl, k1, by omega, by rw [List.length_append, hnl]; rfl, more _ (Int.emod_nonneg _ (by omega)) (Int.emod_lt_of_pos _ x0)⟩
    · obtain ⟨c', num, ns, x6, rfl, s2, hl2, m0, m1, hnl, hns⟩ := hp
      walk_at "vc"
      exact q l ns H2 s2 hl0 hl2 (by rw [hnl, List.length_map]) hns
end
/- _law_names: calls ['_law_numbers']; cells ['_law_end', '_law_letters', '_law_start', '_law_step'] -/
abbrev s_l_names : Stmt := top 39
theorem sc_l_names : FnScope ["_law_cell_here", "_law_long", "_law_few", "_law_many", "_law_start", "_law_step", "_law_tail", "_law_rest", "_law_size", "_law_letters", "_law_end"] ["_law_cell_here"] (defScope s_l_names) := ⟨rfl, rfl, rfl, by decide +kernel, rfl, by decide +kernel, by decide +kernel⟩
theorem pss_cut {X : L2.Cx} {st : List PySem.Stmt} {t : L2.TS} (t' : L2.TS) (h : L2.PSs X st t) (k : ∀ D σ H, t' D σ H → t D σ H) : L2.PSs X st t' := fun pins s σ H D I q => h pins s σ H D I (k D σ H q)
theorem rep_ok {c : Nat} {n : Int} (h : n = 1 ∨ n = 2 ∨ n = 3) : MulOk ⟨#[c]⟩ n ∧ (Txt.mul ⟨#[c]⟩ n).cps.toList = List.replicate n.toNat c ∧ (Txt.mul ⟨#[c]⟩ n).length = n.toNat := by
  rcases h with rfl | rfl | rfl
  · exact ⟨⟨by decide, fun _ _ => by show ¬ ((1 : Int) > (2 ^ 63 - 1) / 1); decide, fun _ _ => by show Builtin.Str.tooLong (1 * 1) = false; decide⟩, rfl, rfl⟩
  · exact ⟨⟨by decide, fun _ _ => by show ¬ ((1 : Int) > (2 ^ 63 - 1) / 2); decide, fun _ _ => by show Builtin.Str.tooLong (1 * 2) = false; decide⟩, rfl, rfl⟩
  · exact ⟨⟨by decide, fun _ _ => by show ¬ ((1 : Int) > (2 ^ 63 - 1) / 3); decide, fun _ _ => by show Builtin.Str.tooLong (1 * 3) = false; decide⟩, rfl, rfl⟩
theorem L26_sg : L26.cps.toList.all sg = true := by decide +kernel
theorem L26_len : L26.length = 26 := by decide +kernel
def spNm : Sp := fun vs H Q _ => ∃ c : Int, vs = [.int c] ∧ ∀ (l : Addr) (ss : List Str) (H' : Hp), L2.Same H H' → H l = none → H' l = some (.lst (ss.map V.str)) → NOk ss → Q (.ref l) H'
section
variable {P : Program} {w : World} {K : W.Frag} {mg : Str → Option Value} {base : Heap} {cc : Nat → Addr} {cw : Addr}
theorem ok_nm {f : Addr} {fd : FuncData} (F : Fun K "_law_names" "_law_names" s_l_names f fd) (T : Txt K mg cc cw) (D_l_numbers : DefOk P w K mg base CX0 1 "_law_numbers" ["_law_cell_here", "_law_bases", "_law_prime"] spNs) : FnOk P w K mg base CX0 2 f fd ["_law_cell_here"] spNm := by
  refine F.ok sc_l_names (fun vs H Q E h => ?_) fun cdv A outer s H vs Q E hr h => ?_
  · obtain ⟨c, rfl, _⟩ := h; rfl
  · obtain ⟨c, rfl, q⟩ := h
    have hu := u100 hr
    obtain ⟨TC3, hTC3⟩ : ∃ t : TS, t = fun D σ H' => (∀ u H', Q u H' → D.rt u H') ∧ ∃ x0 x1 x2 x3 x9 x10 start step tail rest size, σ = [x0, x1, x2, x3, some (.int start), some (.int step), some (.int tail), some (.int rest), some (.int size), x9, x10] ∧ L2.Same H H' ∧ (0 ≤ start ∧ start < 26) ∧ (0 ≤ step ∧ step < 6) ∧ (0 ≤ tail ∧ tail < 4) ∧ (0 ≤ rest ∧ rest < 26) ∧ 0 ≤ size ∧ size < 15 := ⟨_, rfl⟩
    refine ⟨_, (pss_cons (ps_asg (pe_def D_l_numbers (hm hr) pass0 (pa_cons (pv 0) (pa_cons (pe_lst (pa_cons pe_int (pa_cons pe_int (pa_cons pe_int (pa_cons pe_int (pa_cons pe_int (pa_cons pe_int (pa_cons pe_int pa_nil)))))))) (pa_cons pe_int pa_nil)))) (pg_tupU rfl (pgs_cons (pg_name (i := 1) sc_l_names.nd rfl (Or.inl rfl)) (pgs_cons (pg_name (i := 2) sc_l_names.nd rfl (Or.inl rfl)) (pgs_cons (pg_name (i := 3) sc_l_names.nd rfl (Or.inl rfl)) (pgs_cons (pg_name (i := 4) sc_l_names.nd rfl (Or.inr rfl)) (pgs_cons (pg_name (i := 5) sc_l_names.nd rfl (Or.inr rfl)) (pgs_cons (pg_name (i := 6) sc_l_names.nd rfl (Or.inl rfl)) (pgs_cons (pg_name (i := 7) sc_l_names.nd rfl (Or.inl rfl)) pgs_nil)))))))))
  (pss_cons (ps_set (i := 8) sc_l_names.nd rfl (Or.inl rfl) (pv 2))
  (pss_cons (ps_if (pt_cmpR (k_eqZ (K := K) rfl hu) (pv 1) pe_int (nomark _)) (pss_one (ps_set (i := 8) sc_l_names.nd rfl (Or.inl rfl) (pv 3))) pss_nil)
  (pss_cut TC3 (pss_cons (ps_set (i := 9) sc_l_names.nd rfl (Or.inr rfl) pe_str)
  (pss_cons (ps_set (i := 10) sc_l_names.nd rfl (Or.inr rfl) (pe_slice (k_sl (K := K) rfl) (pe_op (k_add (K := K) rfl) (pe_slice (k_sl (K := K) rfl) (pv 9) (po_some (pv 7)) po_none) (pv 9)) po_none (po_some (pv 6))))
  (pss_one (ps_ret (pe_comp (sc := defScope s_l_names) (XN := ["_law_cell_here", "_law_long", "_law_few", "_law_many", "_law_start", "_law_step", "_law_tail", "_law_rest", "_law_size", "_law_letters", "_law_end"]) ["_law_k", "_law_end", "_law_letters", "_law_start", "_law_step"] 1 [10, 9, 4, 5] rfl rfl rfl (by decide +kernel) rfl (by decide +kernel)
   (pi_range1 rfl T.b_range (pa_cons (pv 8) pa_nil)) (fun _ _ _ _ => (pg_name (i := 0) (show (["_law_k", "_law_end", "_law_letters", "_law_start", "_law_step"] : List Str).Nodup by decide +kernel) rfl (Or.inl rfl))) gk_name
   (fun _ _ _ _ => pifs_nil)
   (fun _ _ _ _ => (pe_op (k_add (K := K) rfl) (pe_op u_mul (pe_ix (k_ixU (K := K) rfl hu) (pv 2) (pe_op op_mod (pe_op (k_add (K := K) rfl) (pv 3) (pe_op u_mul (pe_ix (k_ixU (K := K) rfl hu) (pe_lst (pa_cons pe_int (pa_cons pe_int (pa_cons pe_int (pa_cons pe_int (pa_cons pe_int (pa_cons pe_int pa_nil))))))) (pv 4) (fun _ _ => rfl)) (pv 0))) pe_int) (fun _ _ => rfl)) (pe_op (k_add (K := K) rfl) pe_int (pe_op op_mod (pv 0) pe_int))) (pv 1)))))))) ?cut3)))), ?_⟩
    case cut3 =>
      intro D σ H1 h
      rw [hTC3] at h
      obtain ⟨hD, x0, x1, x2, x3, x9, x10, start, step, tail, rest, size, rfl, s1, ⟨a0, a1⟩, ⟨st0, st1⟩, ⟨t0, t1⟩, ⟨r0, r1⟩, z0, z1⟩ := h
      walk_at "vc"
      refine vSlS (by decide +kernel) ?_
      have hsl : (Txt.slice L26 (some rest) none).cps.toList = L26.cps.toList.drop rest.toNat := by
        have := slice_drop L26 rest.toNat
        rw [show ((rest.toNat : Nat) : Int) = rest by omega] at this
        exact this
      have hsn : (Txt.slice L26 (some rest) none).length ≤ 26 := by have := slice_len L26 (some rest) none; rw [L26_len] at this; exact this
      walk_at "vc"
      refine vAddS (by show (Txt.slice L26 (some rest) none).length + L26.length ≤ sizeLine; rw [L26_len]; exact Nat.le_trans (Nat.add_le_add_right hsn 26) (by decide)) ?_
      walk_at "vc"
      have hal := app_list (Txt.slice L26 (some rest) none) L26
      have hall : (Txt.slice L26 (some rest) none ++ L26).length ≤ 52 := by
        have e : (Txt.slice L26 (some rest) none ++ L26).length = (Txt.slice L26 (some rest) none ++ L26).cps.toList.length := by simp [Str.length]
        have e1 : (Txt.slice L26 (some rest) none).length = (Txt.slice L26 (some rest) none).cps.toList.length := by simp [Str.length]
        have e2 : L26.length = L26.cps.toList.length := by simp [Str.length]
        rw [e, hal, List.length_append, ← e1, ← e2, L26_len]
        omega
      refine vSlS (Nat.le_trans hall (by decide)) ?_
      walk_at "vc"
      have htk : (Txt.slice (Txt.slice L26 (some rest) none ++ L26) none (some tail)).cps.toList = (L26.cps.toList.drop rest.toNat ++ L26.cps.toList).take tail.toNat := by
        have := slice_take (Txt.slice L26 (some rest) none ++ L26) tail.toNat
        rw [show ((tail.toNat : Nat) : Int) = tail by omega, hal, hsl] at this
        exact this
      have hend : ∃ E1 : Str, Txt.slice (Txt.slice L26 (some rest) none ++ L26) none (some tail) = E1 ∧ E1.cps.toList.all sg = true ∧ E1.cps.toList.length ≤ 3 := by
        refine ⟨_, rfl, ?_, ?_⟩
        · rw [htk]
          refine List.all_eq_true.mpr fun x hx => ?_
          have := List.mem_of_mem_take hx
          rcases List.mem_append.mp this with z | z
          · exact List.all_eq_true.mp L26_sg x (List.mem_of_mem_drop z)
          · exact List.all_eq_true.mp L26_sg x z
        · rw [htk, List.length_take]
          omega
      obtain ⟨E1, eE, hE, hE3⟩ := hend
      have eE' : Txt.slice (Txt.slice (Str.ofString "abcdefghijklmnopqrstuvwxyz") (some rest) none ++ Str.ofString "abcdefghijklmnopqrstuvwxyz") none (some tail) = E1 := eE
      rw [eE']
      refine ⟨size, rfl, by omega, by omega, comp_range (lo := 0) (fun i ys H' => L2.Same H1 H' ∧ ∃ ss : List Str, ys = ss.map V.str ∧ ss.length = i ∧ ∃ sp ∈ [(1 : Int), 3, 5, 7, 9, 11, 15, 25], (sp = [1, 3, 5, 7, 9, 11].getD step.toNat 0) ∧ ∀ (j : Nat) s, ss[j]? = some s → nameS s = true ∧ s.cps.toList.head? = some (97 + ((start + sp * j) % 26).toNat)) ⟨L2.Same.refl H1, [], rfl, rfl, ?_⟩ (fun i ys H' hi hp => ?_) fun ys H' hp => ?_⟩
      · have : ∀ k : Nat, k < 6 → ([1, 3, 5, 7, 9, 11] : List Int).getD k 0 ∈ [(1 : Int), 3, 5, 7, 9, 11, 15, 25] := by decide
        exact ⟨_, this step.toNat (by omega), rfl, fun j s h => by simp at h⟩
      · obtain ⟨s2, ss, rfl, hsl, sp, hsp, esp, hss⟩ := hp
        walk_at "vc"
        refine iteT ?_
        walk_at "vc"
        refine ⟨by show 6 ≤ sizeLine; decide, fun m hm => ?_⟩
        have s3 := Snew s2 (o := .lst [V.int 1, V.int 3, V.int 5, V.int 7, V.int 9, V.int 11]) hm
        have em : upd H' m (.lst [V.int 1, V.int 3, V.int 5, V.int 7, V.int 9, V.int 11]) m = some (.lst [V.int 1, V.int 3, V.int 5, V.int 7, V.int 9, V.int 11]) := upd_same
        generalize upd H' m (.lst [V.int 1, V.int 3, V.int 5, V.int 7, V.int 9, V.int 11]) = H3 at s3 em ⊢
        have hat : atI [V.int 1, V.int 3, V.int 5, V.int 7, V.int 9, V.int 11] step = some (.int sp) := by
          obtain ⟨k, rfl⟩ := Int.eq_ofNat_of_zero_le st0
          rw [esp, Int.toNat_natCast]
          have hk : k < 6 := by omega
          have : ∀ k : Nat, k < 6 → ([V.int 1, V.int 3, V.int 5, V.int 7, V.int 9, V.int 11] : List V)[k]? = some (.int (([1, 3, 5, 7, 9, 11] : List Int).getD k 0)) := fun k hk => by
            match k, hk with
            | 0, _ => rfl
            | 1, _ => rfl
            | 2, _ => rfl
            | 3, _ => rfl
            | 4, _ => rfl
            | 5, _ => rfl
          exact atI_nat (this k hk)
        walk_at "vc"
        refine .inl (vIxL em hat ?_)
        have spb : 0 ≤ sp ∧ sp ≤ 25 := by
          simp only [List.mem_cons, List.not_mem_nil, or_false] at hsp
          rcases hsp with rfl | rfl | rfl | rfl | rfl | rfl | rfl | rfl <;> decide
        walk_at "vc"
        rw [Int.zero_add]
        refine vMulI (.inl ⟨by omega, by omega⟩) ?_
        walk_at "vc"
        refine vI (by decide) ?_
        have c1 := Int.emod_nonneg (start + sp * (i : Int)) (show (26 : Int) ≠ 0 by decide)
        have c2 := Int.emod_lt_of_pos (start + sp * (i : Int)) (show (0 : Int) < 26 by decide)
        refine .inl (vIxS (by decide +kernel) (L26_at c1 c2) ?_)
        walk_at "vc"
        refine vI (by decide) ?_
        walk_at "vc"
        have hn : 1 + (i : Int) % 3 = 1 ∨ 1 + (i : Int) % 3 = 2 ∨ 1 + (i : Int) % 3 = 3 := by omega
        obtain ⟨mo, ml, mn⟩ := rep_ok (c := 97 + ((start + sp * (i : Int)) % 26).toNat) hn
        refine ⟨mo, ?_⟩
        walk_at "vc"
        have hE0 : E1.length = E1.cps.toList.length := by simp [Str.length]
        have hE1 : E1.length ≤ 3 := by omega
        refine vAddS (by rw [mn]; exact Nat.le_trans (show _ ≤ 6 by omega) (by decide)) ?_
        refine ⟨by rw [List.length_map, hsl]; exact small1000 (by omega), s3, ss ++ [_], by rw [List.map_append]; rfl, by rw [List.length_append, hsl]; rfl, sp, hsp, esp, fun j s hj => ?_⟩
        by_cases hji : j < ss.length
        · rw [List.getElem?_append_left hji] at hj
          exact hss j s hj
        · rw [List.getElem?_append_right (by omega)] at hj
          have e0 : j - ss.length = 0 := by
            have := (List.getElem?_eq_some_iff.mp hj).1
            simp only [List.length_cons, List.length_nil] at this
            omega
          rw [e0] at hj
          cases hj
          have hjeq : j = i := by omega
          subst hjeq
          have ea := app_list (Txt.mul ⟨#[97 + ((start + sp * (j : Int)) % 26).toNat]⟩ (1 + (j : Int) % 3)) E1
          rw [ml] at ea
          refine ⟨nameS_of ea ?_ ?_ ?_, ?_⟩
          · rw [List.length_append, List.length_replicate]; omega
          · rw [List.length_append, List.length_replicate]; omega
          · rw [List.all_append, hE, Bool.and_true]
            refine List.all_eq_true.mpr fun x hx => ?_
            rw [(List.mem_replicate.mp hx).2]
            exact sg_of (by omega) (by omega)
          · rw [ea]
            obtain ⟨k, hk⟩ : ∃ k, (1 + (j : Int) % 3).toNat = k + 1 := ⟨(1 + (j : Int) % 3).toNat - 1, by omega⟩
            rw [hk]
            rfl
      · obtain ⟨s2, ss, rfl, hsl, sp, hsp, esp, hss⟩ := hp
        refine ⟨by rw [List.length_map, hsl]; exact Nat.le_of_lt (small1000 (by omega)), fun l hl0 => hD _ _ ?_⟩
        refine q l ss _ ((s1.trans s2).trans (Snew (L2.Same.refl H') hl0)) ((s1.trans s2).free hl0) upd_same ⟨by omega, nodup_key fun j k s hj hk => ?_, fun s hs => ?_⟩
        · have ej := (hss j s hj).2
          have ek := (hss k s hk).2
          rw [ej] at ek
          have e := Option.some.inj ek
          have hj' : j < ss.length := (List.getElem?_eq_some_iff.mp hj).1
          have hk' : k < ss.length := (List.getElem?_eq_some_iff.mp hk).1
          have q1 := Int.emod_nonneg (start + sp * (j : Int)) (show (26 : Int) ≠ 0 by decide)
          have q2 := Int.emod_nonneg (start + sp * (k : Int)) (show (26 : Int) ≠ 0 by decide)
          have := step_inj (a := j) (b := k) hsp (by omega) (by omega) (by omega) (by omega) (sh := start) (by omega)
          omega
        · obtain ⟨j, hj⟩ := List.getElem?_of_mem hs
          exact (hss j s hj).1
    walk_at "vc"
    refine vAsgU ?_
    walk_at "vc"
    refine ⟨by show 7 ≤ sizeLine; decide, fun b hb => ?_⟩
    have s1 := Snew (L2.Same.refl H) (o := .lst [V.int 8, V.int 8, V.int 15, V.int 26, V.int 6, V.int 4, V.int 26]) hb
    have eb : upd H b (.lst [V.int 8, V.int 8, V.int 15, V.int 26, V.int 6, V.int 4, V.int 26]) b = some (.lst ([8, 8, 15, 26, 6, 4, 26].map V.int)) := upd_same
    generalize upd H b (.lst [V.int 8, V.int 8, V.int 15, V.int 26, V.int 6, V.int 4, V.int 26]) = H1 at s1 eb ⊢
    walk_at "vc"
    refine ⟨b, c, 2147483647, [8, 8, 15, 26, 6, 4, 26], rfl, eb, by decide, by decide, by decide, by decide, fun l ns H2 s2 hl0 hl hlen hns => ?_⟩
    match ns, hlen, hl, hns with
    | [n1, n2, n3, n4, n5, n6, n7], _, hl, hns =>
      have e1 := hns 0 n1 8 rfl rfl
      have e2 := hns 1 n2 8 rfl rfl
      have e3 := hns 2 n3 15 rfl rfl
      have e4 := hns 3 n4 26 rfl rfl
      have e5 := hns 4 n5 6 rfl rfl
      have e6 := hns 5 n6 4 rfl rfl
      have e7 := hns 6 n7 26 rfl rfl
      refine ⟨l, _, rfl, .inr (SqL.of hl), rfl, _, _, rfl, _, _, rfl, _, _, rfl, _, _, rfl, _, _, rfl, _, _, rfl, _, _, rfl, rfl, ?_⟩
      walk_at "vc"
      refine .inl (.inl (.inl ⟨rfl, rfl, ?_⟩))
      walk_at "vc"
      refine ite2 (fun h => ?_) fun h => ?_
      · walk_at "vc"
        rw [hTC3]
        exact ⟨fun _ _ z => z, _, _, _, _, _, _, n4, n5, n6, n7, n3, rfl, s1.trans s2, e4, e5, e6, e7, e3.1, e3.2⟩
      · walk_at "vc"
        rw [hTC3]
        exact ⟨fun _ _ z => z, _, _, _, _, _, _, n4, n5, n6, n7, n2, rfl, s1.trans s2, e4, e5, e6, e7, e2.1, by omega⟩
end
/- _law_ties: calls ['_law_numbers']; cells ['_law_k', '_law_names_here', '_law_pool'] -/
abbrev s_l_ties : Stmt := top 40
theorem sc_l_ties : FnScope ["_law_names_here", "_law_cell_here", "_law_pool", "_law_k", "_law_most", "_law_bases", "_law_numbers_here", "_law_found", "_law_number", "_law_one", "_law_other"] ["_law_names_here", "_law_cell_here"] (defScope s_l_ties) := ⟨rfl, rfl, rfl, by decide +kernel, rfl, by decide +kernel, by decide +kernel⟩
theorem vIxAt {K : W.Frag} {H : Hp} {Q : VK} {p : Addr} {ss : List Str} {k : Nat} {x : Str} (hp : H p = some (.lst (ss.map V.str))) (h : ss[k]? = some x) (q : Q (.str x) H) : rIxU K (.ref p) (.int k) H Q :=
  .inl (vIxL hp (atI_nat (by rw [List.getElem?_map, h]; rfl)) q)
theorem PL.put {H : Hp} {l : Addr} {ts us : List Addr} {tps ups : List (Str × Str)} (h : PL H l ts tps) (g : All2 (fun t ab => H t = some (.tup [.str ab.1, .str ab.2])) us ups) : PL (upd H l (.lst (us.map V.ref))) l us ups :=
  ⟨upd_same, g.mono fun t ab z => by rw [upd_ne (ne_of z h.1 (by intro z; cases z))]; exact z⟩
theorem PL.other {H : Hp} {l l' : Addr} {ts : List Addr} {tps : List (Str × Str)} {xs ys : List V} (h : PL H l ts tps) (ne : l ≠ l') (hl : H l' = some (.lst xs)) : PL (upd H l' (.lst ys)) l ts tps :=
  ⟨by rw [upd_ne ne]; exact h.1, h.2.mono fun t ab z => by rw [upd_ne (ne_of z hl (by intro z; cases z))]; exact z⟩
theorem All2.app {α β : Type} {R : α → β → Prop} {l1 l2 : List α} {m1 m2 : List β} (h1 : All2 R l1 m1) (h2 : All2 R l2 m2) : All2 R (l1 ++ l2) (m1 ++ m2) := by
  refine ⟨by rw [List.length_append, List.length_append, h1.len, h2.len], fun k a b ha hb => ?_⟩
  by_cases hk : k < l1.length
  · rw [List.getElem?_append_left hk] at ha
    rw [List.getElem?_append_left (by rw [← h1.len]; exact hk)] at hb
    exact h1.at_ k a b ha hb
  · rw [List.getElem?_append_right (by omega)] at ha
    rw [List.getElem?_append_right (by rw [← h1.len]; omega), ← h1.len] at hb
    exact h2.at_ _ a b ha hb
theorem vIxN {K : W.Frag} {H : Hp} {Q : VK} {p : Addr} {ns : List Int} {i : Int} {b : Int} {bs : List Int} (hp : H p = some (.lst (ns.map V.int))) (hl : ns.length = bs.length) (hb : ∀ (i : Nat) n x, ns[i]? = some n → bs[i]? = some x → 0 ≤ n ∧ n < x) (h0 : 0 ≤ i) (h1 : bs[i.toNat]? = some b) (h : ∀ n, 0 ≤ n → n < b → Q (.int n) H) : rIxU K (.ref p) (.int i) H Q := by
  have hj : i.toNat < ns.length := by rw [hl]; exact (List.getElem?_eq_some_iff.mp h1).1
  have e : ns[i.toNat]? = some ns[i.toNat] := List.getElem?_eq_getElem hj
  obtain ⟨r1, r2⟩ := hb _ _ _ e h1
  have ea : atI (ns.map V.int) i = some (.int ns[i.toNat]) := by
    have := atI_nat (xs := ns.map V.int) (j := i.toNat) (v := .int ns[i.toNat]) (by rw [List.getElem?_map, e]; rfl)
    rw [show ((i.toNat : Nat) : Int) = i by omega] at this
    exact this
  exact .inl (vIxL hp ea (h _ r1 r2))
theorem cut_len (xs : List V) (a b : Nat) : (cutV xs (some (a : Int)) (some (b : Int))).length ≤ b - a := by
  unfold cutV
  rw [HT.sIx_nat, HT.sIx_nat, List.length_take]
  omega
theorem cut_at {xs : List V} {a b i : Nat} {v : V} (ha : a ≤ xs.length) (h : (cutV xs (some (a : Int)) (some (b : Int)))[i]? = some v) : xs[a + i]? = some v ∧ i < b - a := by
  have hl := (List.getElem?_eq_some_iff.mp h).1
  have := cut_len xs a b
  unfold cutV at h
  rw [HT.sIx_nat, HT.sIx_nat, Nat.min_eq_left ha, List.getElem?_take] at h
  split at h
  · rw [List.getElem?_drop] at h
    exact ⟨h, by omega⟩
  · cases h
def spT2 : Sp := fun vs H Q _ => ∃ (n : Addr) (c : Int) (ss : List Str), vs = [.ref n, .int c] ∧ H n = some (.lst (ss.map V.str)) ∧ NOk ss ∧ ∀ (l : Addr) (ts : List Addr) (tps ups : List (Str × Str)) (H' : Hp), L2.Same H H' → H l = none → PL H' l ts ups → TOk ss tps → Shuf tps ups → Q (.ref l) H'
section
variable {P : Program} {w : World} {K : W.Frag} {mg : Str → Option Value} {base : Heap} {cc : Nat → Addr} {cw : Addr}
theorem ok_ts2 {f : Addr} {fd : FuncData} (F : Fun K "_law_ties" "_law_ties" s_l_ties f fd) (T : Txt K mg cc cw) (D_l_numbers : DefOk P w K mg base CX0 1 "_law_numbers" ["_law_cell_here", "_law_bases", "_law_prime"] spNs) : FnOk P w K mg base CX0 2 f fd ["_law_names_here", "_law_cell_here"] spT2 := by
  refine F.ok sc_l_ties (fun vs H Q E h => ?_) fun cdv A outer s H vs Q E hr h => ?_
  · obtain ⟨n, c, ss, rfl, _⟩ := h; rfl
  · obtain ⟨n, c, ss, rfl, hn, hO, q⟩ := h
    have few := hO.few
    have hu := u100 hr
    refine ⟨_, (pss_cons (ps_set (i := 2) sc_l_ties.nd rfl (Or.inr rfl) (pe_lst pa_nil))
  (pss_cons (ps_for PassesOwn.never rfl (pi_range1 rfl T.b_range (pa_cons (pe_callB (k_len (K := K) rfl) rfl T.b_len boot_len (pa_cons (pv 0) pa_nil)) pa_nil)) (pg_name (i := 3) sc_l_ties.nd rfl (Or.inr rfl))
  (pss_one (ps_expr (k_bm (K := K) rfl PySem.F.plainAttrs_list PySem.F.slot_list_extend PySem.F.type_list_extend mtR_extend (pv 2) (pa_cons (pe_comp (sc := defScope s_l_ties) (XN := ["_law_names_here", "_law_cell_here", "_law_pool", "_law_k", "_law_most", "_law_bases", "_law_numbers_here", "_law_found", "_law_number", "_law_one", "_law_other"]) ["_law_other", "_law_names_here", "_law_k"] 1 [0, 3] rfl rfl rfl (by decide +kernel) rfl (by decide +kernel)
   (ki_any (K := K) rfl (pe_slice (k_sl (K := K) rfl) (pv 0) (po_some (pe_op (k_add (K := K) rfl) (pv 3) pe_int)) po_none)) (fun _ _ _ _ => (pg_name (i := 0) (show (["_law_other", "_law_names_here", "_law_k"] : List Str).Nodup by decide +kernel) rfl (Or.inl rfl))) gk_name
   (fun _ _ _ _ => pifs_nil)
   (fun _ _ _ _ => (pe_tup (pa_cons (pe_ix (k_ixU (K := K) rfl hu) (pv 1) (pv 2) (fun _ _ => rfl)) (pa_cons (pv 0) pa_nil))))) pa_nil)))))
  (pss_cons (ps_set (i := 4) sc_l_ties.nd rfl (Or.inl rfl) (pe_callB (call_min2 rfl) rfl T.b_min boot_min (pa_cons pe_int (pa_cons (pe_callB (k_len (K := K) rfl) rfl T.b_len boot_len (pa_cons (pv 2) pa_nil)) pa_nil))))
  (pss_cons (ps_set (i := 5) sc_l_ties.nd rfl (Or.inl rfl) (pe_op (k_add (K := K) rfl) (pe_lst (pa_cons (pe_op (k_add (K := K) rfl) (pv 4) pe_int) pa_nil)) (pe_comp (sc := defScope s_l_ties) (XN := ["_law_names_here", "_law_cell_here", "_law_pool", "_law_k", "_law_most", "_law_bases", "_law_numbers_here", "_law_found", "_law_number", "_law_one", "_law_other"]) ["_law_k", "_law_pool"] 1 [2] rfl rfl rfl (by decide +kernel) rfl (by decide +kernel)
   (pi_range1 rfl T.b_range (pa_cons (pv 4) pa_nil)) (fun _ _ _ _ => (pg_name (i := 0) (show (["_law_k", "_law_pool"] : List Str).Nodup by decide +kernel) rfl (Or.inl rfl))) gk_name
   (fun _ _ _ _ => pifs_nil)
   (fun _ _ _ _ => (pe_op u_mul pe_int (pe_op op_sub (pe_callB (k_len (K := K) rfl) rfl T.b_len boot_len (pa_cons (pv 1) pa_nil)) (pv 0)))))))
  (pss_cons (ps_set (i := 6) sc_l_ties.nd rfl (Or.inl rfl) (pe_def D_l_numbers (hm hr) pass0 (pa_cons (pv 1) (pa_cons (pv 5) (pa_cons pe_int pa_nil)))))
  (pss_cons (ps_set (i := 7) sc_l_ties.nd rfl (Or.inl rfl) (pe_lst pa_nil))
  (pss_cons (ps_for PassesOwn.never rfl (ki_any (K := K) rfl (pe_slice (k_sl (K := K) rfl) (pv 6) (po_some pe_int) (po_some (pe_op (k_add (K := K) rfl) pe_int (pe_ix (k_ixU (K := K) rfl hu) (pv 6) pe_int (fun _ _ => rfl)))))) (pg_name (i := 8) sc_l_ties.nd rfl (Or.inl rfl))
  (pss_cons (ps_asg (k_bm (K := K) rfl PySem.F.plainAttrs_list PySem.F.slot_list_pop PySem.F.type_list_pop mtR_popAt (pv 2) (pa_cons (pe_op op_fdiv (pv 8) pe_int) pa_nil)) (pg_tup rfl (pgs_cons (pg_name (i := 9) sc_l_ties.nd rfl (Or.inl rfl)) (pgs_cons (pg_name (i := 10) sc_l_ties.nd rfl (Or.inl rfl)) pgs_nil))))
  (pss_one (ps_expr (k_bm (K := K) rfl PySem.F.plainAttrs_list PySem.F.slot_list_append PySem.F.type_list_append mtR_append (pv 7) (pa_cons (pe_ix (k_ixU (K := K) rfl hu) (pe_lst (pa_cons (pe_tup (pa_cons (pv 9) (pa_cons (pv 10) pa_nil))) (pa_cons (pe_tup (pa_cons (pv 10) (pa_cons (pv 9) pa_nil))) pa_nil))) (pe_op op_mod (pv 8) pe_int) (fun _ _ => rfl)) pa_nil))))))
  (pss_one (ps_ret (pv 7)))))))))), ?_⟩
    walk_at "vc"
    refine ⟨by decide, fun l hl => ?_⟩
    have s1 := Snew (L2.Same.refl H) (o := .lst []) hl
    have t1 : PL (upd H l (.lst [])) l [] [] := ⟨upd_same, All2.nil⟩
    generalize upd H l (.lst []) = H1 at s1 t1 ⊢
    walk_at "vc"
    refine vLenL (s1 _ _ hn) ?_
    rw [List.length_map]
    refine ⟨_, rfl, by omega, by omega, for_range (fun i σ H' => L2.Same H H' ∧ ∃ (ts : List Addr) (pps : List (Str × Str)) (x3 : Option V), σ = [some (.ref n), some (.int c), some (.ref l), x3, none, none, none, none, none, none, none] ∧ PL H' l ts pps ∧ pps.length ≤ 14 * i ∧ pps.Nodup ∧ ∀ ab ∈ pps, ∃ j k, j < k ∧ ss[j]? = some ab.1 ∧ ss[k]? = some ab.2 ∧ j < i)
      ⟨s1, [], [], none, rfl, t1, by simp, by simp, by simp⟩ (fun i σ H2 hi hp => ?_) fun σ H2 hp => ?_⟩
    · obtain ⟨s2, ts, pps, x3, rfl, t2, l14, nd, ok⟩ := hp
      have hi' : i < ss.length := by omega
      have gx : ss[i]? = some ss[i] := List.getElem?_eq_getElem hi'
      generalize ss[i] = x at gx
      walk_at "vc"
      refine ⟨.inl ⟨rfl, _, SqL.of t2.1⟩, ?_⟩
      rw [Int.zero_add]
      have ec1 : cutV (ss.map V.str) (some ((i : Int) + 1)) none = (ss.drop (i + 1)).map V.str := by
        have := cutV_drop (ss.map V.str) (i + 1)
        rw [← List.map_drop] at this
        exact this
      walk_at "vc"
      refine .inl ⟨n, _, rfl, SqL.of (s2 _ _ hn), fun d hd => ?_⟩
      rw [ec1]
      have s23 := Snew (L2.Same.refl H2) (o := .lst ((ss.drop (i + 1)).map V.str)) hd
      have ed : upd H2 d (.lst ((ss.drop (i + 1)).map V.str)) d = some (.lst ((ss.drop (i + 1)).map V.str)) := upd_same
      replace t2 := t2.same s23
      have s3 := s2.trans s23
      generalize upd H2 d (.lst ((ss.drop (i + 1)).map V.str)) = H3 at s3 ed t2 ⊢
      clear s23 s2
      have lr : (ss.drop (i + 1)).length ≤ 13 := by rw [List.length_drop]; omega
      refine .inl ⟨⟨_, SqL.of ed⟩, comp_list (K := K) (fun m ys H' => L2.Same H3 H' ∧ ∃ us : List Addr, ys = us.map V.ref ∧ us.length = m ∧ All2 (fun t ab => H' t = some (.tup [.str ab.1, .str ab.2])) us (((ss.drop (i + 1)).take m).map fun y => (x, y))) ⟨L2.Same.refl H3, [], rfl, rfl, by simpa using All2.nil⟩ (fun m ys H' _ hp => SqL.of (hp.1 _ _ ed)) (fun m v ys H' hv hp => ?_) fun ys H4 hp => ?_⟩
      · obtain ⟨s4, us, rfl, hul, hA⟩ := hp
        obtain ⟨y, gy, rfl⟩ : ∃ y, (ss.drop (i + 1))[m]? = some y ∧ v = .str y := by
          rw [List.getElem?_map] at hv
          cases e : (ss.drop (i + 1))[m]? with
          | none => rw [e] at hv; cases hv
          | some y => rw [e] at hv; exact ⟨y, rfl, (Option.some.inj hv).symm⟩
        have hm : m < (ss.drop (i + 1)).length := (List.getElem?_eq_some_iff.mp gy).1
        walk_at "vc"
        refine iteT ?_
        walk_at "vc"
        refine vIxAt (s4 _ _ (s3 _ _ hn)) gx ?_
        walk_at "vc"
        refine ⟨by show 2 ≤ sizeLine; decide, fun u hu0 => ?_⟩
        have s45 := Snew (L2.Same.refl H') (o := .tup [.str x, .str y]) hu0
        have eu : upd H' u (.tup [.str x, .str y]) u = some (.tup [.str x, .str y]) := upd_same
        generalize upd H' u (.tup [.str x, .str y]) = H5 at s45 eu ⊢
        refine ⟨by rw [List.length_map, hul]; exact small1000 (by omega), s4.trans s45, us ++ [u], by rw [List.map_append]; rfl, by rw [List.length_append, hul]; rfl, ?_⟩
        rw [List.take_add_one, gy, List.map_append]
        exact (hA.mono fun t ab z => s45 _ _ z).snoc eu
      · obtain ⟨s4, us, rfl, hul, hA⟩ := hp
        rw [List.length_map] at hul hA
        rw [List.take_length] at hA
        refine ⟨by rw [List.length_map, hul]; exact Nat.le_of_lt (small1000 (by omega)), fun e he => ?_⟩
        have s45 := Snew (L2.Same.refl H4) (o := .lst (us.map V.ref)) he
        have ee : upd H4 e (.lst (us.map V.ref)) e = some (.lst (us.map V.ref)) := upd_same
        replace hA := hA.mono (S := fun t ab => upd H4 e (.lst (us.map V.ref)) t = some (.tup [.str ab.1, .str ab.2])) fun t ab z => s45 _ _ z
        have s5 := s3.trans (s4.trans s45)
        replace t2 := t2.same (s4.trans s45)
        generalize upd H4 e (.lst (us.map V.ref)) = H5 at s5 ee hA t2 ⊢
        clear s4 s45
        have htl := t2.2.len
        have l4 : (ss.drop (i + 1)).map (fun y => (x, y)) = (ss.drop (i + 1)).map fun y => (x, y) := rfl
        walk_at "vc"
        refine ⟨l, e, _, _, rfl, rfl, t2.1, ee, Nat.le_trans (show _ ≤ 1000 by rw [List.length_map, List.length_map, hul]; omega) (by decide), ?_⟩
        rw [← List.map_append]
        refine ⟨Supd s5 hl, ts ++ us, _, _, rfl, t2.put (t2.2.app hA), ?_, ?_, fun ab hab => ?_⟩
        · rw [List.length_append, List.length_map]
          omega
        · refine List.nodup_append.mpr ⟨nd, ?_, fun ab h cd h2 e => ?_⟩
          · exact List.Pairwise.map (fun y => (x, y)) (fun a b h e => h (congrArg Prod.snd e)) (hO.nd.sublist (List.drop_sublist _ _))
          · subst e
            obtain ⟨j, k, h1, h2', h3, h4⟩ := ok _ h
            obtain ⟨y, _, rfl⟩ := List.mem_map.mp h2
            have e1 : j = i := nodup_inj hO.nd h2' gx
            omega
        · rcases List.mem_append.mp hab with h | h
          · obtain ⟨j, k, h1, h2, h3, h4⟩ := ok ab h
            exact ⟨j, k, h1, h2, h3, by omega⟩
          · obtain ⟨y, hy, rfl⟩ := List.mem_map.mp h
            obtain ⟨k, hk⟩ := List.getElem?_of_mem hy
            rw [List.getElem?_drop] at hk
            exact ⟨i, i + 1 + k, by omega, gx, hk, by omega⟩
    · obtain ⟨s2, ts, pps, x3, rfl, t2, l14, nd, ok⟩ := hp
      have htl := t2.2.len
      have l196 : pps.length ≤ 196 := by omega
      walk_at "vc"
      refine vLenL t2.1 ?_
      rw [List.length_map]
      walk_at "vc"
      refine ⟨_, _, rfl, ?_⟩
      obtain ⟨m, hm, m30, mL⟩ : ∃ m : Nat, (if (ts.length : Int) < 30 then (ts.length : Int) else 30) = (m : Int) ∧ m ≤ 30 ∧ m ≤ ts.length := by
        split
        · exact ⟨ts.length, rfl, by omega, Nat.le_refl _⟩
        · exact ⟨30, rfl, by omega, by omega⟩
      rw [hm]
      walk_at "vc"
      refine ⟨by show 1 ≤ sizeLine; decide, fun b1 hb1 => ?_⟩
      have s23 := Snew (L2.Same.refl H2) (o := .lst [.int ((m : Int) + 1)]) hb1
      have eb1 : upd H2 b1 (.lst [.int ((m : Int) + 1)]) b1 = some (.lst [.int ((m : Int) + 1)]) := upd_same
      replace t2 := t2.same s23
      have s3 := s2.trans s23
      generalize upd H2 b1 (.lst [.int ((m : Int) + 1)]) = H3 at s3 eb1 t2 ⊢
      clear s23 s2
      walk_at "vc"
      refine ⟨m, rfl, by omega, by omega, comp_range (lo := 0) (fun i ys H' => L2.Same H3 H' ∧ ys = ((List.range i).map fun k : Nat => (2 * ((ts.length : Int) - (k : Int)))).map V.int) ⟨L2.Same.refl H3, rfl⟩ (fun i ys H' hi hp => ?_) fun ys H4 hp => ?_⟩
      · obtain ⟨s4, rfl⟩ := hp
        walk_at "vc"
        refine iteT ?_
        walk_at "vc"
        refine vLenL (s4 _ _ t2.1) ?_
        rw [List.length_map]
        walk_at "vc"
        rw [Int.zero_add]
        refine vMulI (.inl ⟨by decide, by decide⟩) ?_
        have hi : i < m := by omega
        refine ⟨by rw [List.length_map, List.length_map, List.length_range]; exact small1000 (by omega), s4, ?_⟩
        rw [List.range_succ, List.map_append, List.map_append]
        rfl
      · obtain ⟨s4, rfl⟩ := hp
        rw [Int.toNat_natCast]
        refine ⟨by rw [List.length_map, List.length_map, List.length_range]; exact Nat.le_of_lt (small1000 (by omega)), fun b2 hb2 => ?_⟩
        generalize hbs : ((List.range m).map fun k : Nat => (2 * ((ts.length : Int) - (k : Int)))) = bs
        have s45 := Snew (L2.Same.refl H4) (o := .lst (bs.map V.int)) hb2
        have eb2 : upd H4 b2 (.lst (bs.map V.int)) b2 = some (.lst (bs.map V.int)) := upd_same
        replace t2 := t2.same (s4.trans s45)
        replace eb1 := (s4.trans s45) _ _ eb1
        have s5 := s3.trans (s4.trans s45)
        generalize upd H4 b2 (.lst (bs.map V.int)) = H5 at s5 eb1 eb2 t2 ⊢
        clear s45 s4 s3
        have hbl : bs.length = m := by rw [← hbs, List.length_map, List.length_range]
        refine .inl ⟨b1, b2, _, _, rfl, rfl, eb1, eb2, Nat.le_trans (show _ ≤ 1000 by rw [List.length_map, hbl]; show 1 + m ≤ 1000; omega) (by decide), fun b3 hb3 => ?_⟩
        have e3 : [V.int ((m : Int) + 1)] ++ bs.map V.int = (((m : Int) + 1) :: bs).map V.int := rfl
        rw [e3]
        have s56 := Snew (L2.Same.refl H5) (o := .lst ((((m : Int) + 1) :: bs).map V.int)) hb3
        have eb3 : upd H5 b3 (.lst ((((m : Int) + 1) :: bs).map V.int)) b3 = some (.lst ((((m : Int) + 1) :: bs).map V.int)) := upd_same
        replace t2 := t2.same s56
        have s6 := s5.trans s56
        generalize upd H5 b3 (.lst ((((m : Int) + 1) :: bs).map V.int)) = H6 at s6 eb3 t2 ⊢
        clear s56 s5 e3 eb1 eb2
        walk_at "vc"
        refine ⟨b3, _, _, ((m : Int) + 1) :: bs, rfl, eb3, by decide, by decide, by rw [List.length_cons]; omega, fun x hx => ?_, fun nl ns H7 s67 hnl0 hns hnsl hnb => ?_⟩
        · rcases List.mem_cons.mp hx with rfl | hx
          · omega
          · rw [← hbs] at hx
            obtain ⟨k, hk, rfl⟩ := List.mem_map.mp hx
            have := List.mem_range.mp hk
            omega
        replace t2 := t2.same s67
        have s7 := s6.trans s67
        clear s6 eb3
        walk_at "vc"
        refine ⟨by decide, fun fl hfl => ?_⟩
        have s78 := Snew (L2.Same.refl H7) (o := .lst []) hfl
        have f8 : PL (upd H7 fl (.lst [])) fl [] [] := ⟨upd_same, All2.nil⟩
        have nfl : l ≠ fl := ne_of_none t2.1 hfl
        have hfl0 : H fl = none := s7.free hfl
        replace t2 := t2.same s78
        replace hns := s78 _ _ hns
        have s8 := s7.trans s78
        generalize upd H7 fl (.lst []) = H8 at s8 f8 t2 hns ⊢
        clear s78 s7 s67
        walk_at "vc"
        refine vIxN (b := (m : Int) + 1) hns hnsl hnb (by decide) rfl fun n0 n00 n0m => ?_
        obtain ⟨k0, rfl⟩ := Int.eq_ofNat_of_zero_le n00
        walk_at "vc"
        refine .inl ⟨nl, _, rfl, SqL.of hns, fun c1 hc1 => ?_⟩
        rw [List.length_cons, hbl] at hnsl
        have ecut : ((1 + k0 : Nat) : Int) = 1 + (k0 : Int) := by omega
        have cm1 : ∀ (i : Nat) v, (cutV (ns.map V.int) (some 1) (some (1 + (k0 : Int))))[i]? = some v → ∃ x : Int, v = .int x ∧ 0 ≤ x ∧ x < 2 * ((ts.length : Int) - i) ∧ i < k0 := fun i v hv => by
          have hv' : (cutV (ns.map V.int) (some ((1 : Nat) : Int)) (some ((1 + k0 : Nat) : Int)))[i]? = some v := by rw [ecut]; exact hv
          obtain ⟨h1, h2⟩ := cut_at (by rw [List.length_map, hnsl]; omega) hv'
          rw [List.getElem?_map] at h1
          cases e : ns[1 + i]? with
          | none => rw [e] at h1; cases h1
          | some x =>
            rw [e] at h1
            cases h1
            have hi : i < m := by omega
            have eb : (((m : Int) + 1) :: bs)[1 + i]? = some (2 * ((ts.length : Int) - i)) := by
              rw [Nat.add_comm 1 i, List.getElem?_cons_succ, ← hbs, List.getElem?_map, List.getElem?_range hi]
              rfl
            obtain ⟨r1, r2⟩ := hnb _ _ _ e eb
            exact ⟨x, rfl, r1, r2, by omega⟩
        generalize cutV (ns.map V.int) (some 1) (some (1 + (k0 : Int))) = cs at cm1 ⊢
        have cl : cs.length ≤ k0 := by
          refine Nat.le_of_not_lt fun h => ?_
          obtain ⟨x, _, _, _, z⟩ := cm1 k0 _ (List.getElem?_eq_getElem h)
          omega
        have s89 := Snew (L2.Same.refl H8) (o := .lst cs) hc1
        have ec : upd H8 c1 (.lst cs) c1 = some (.lst cs) := upd_same
        have nlc : c1 ≠ l := fun e => by rw [e, t2.1] at hc1; cases hc1
        have nfc : c1 ≠ fl := fun e => by rw [e, f8.1] at hc1; cases hc1
        replace t2 := t2.same s89
        replace f8 := f8.same s89
        have s9 := s8.trans s89
        generalize upd H8 c1 (.lst cs) = H9 at s9 f8 t2 ec ⊢
        clear s89 s8 hns
        walk_at "vc"
        refine .inl ⟨⟨_, SqL.of ec⟩, for_list (K := K) (fun i σ H' => L2.Same H H' ∧ H' c1 = some (.lst cs) ∧ ∃ (us vs : List Addr) (qps tps ups : List (Str × Str)) (x8 x9 x10 : Option V), σ = [some (.ref n), some (.int c), some (.ref l), x3, some (.int (m : Int)), some (.ref b3), some (.ref nl), some (.ref fl), x8, x9, x10] ∧ PL H' l us qps ∧ PL H' fl vs ups ∧ us.length + i = ts.length ∧ vs.length = i ∧ All2 (fun a b => b = a ∨ b = (a.2, a.1)) tps ups ∧ (tps ++ qps).Perm pps)
          ⟨s9, ec, ts, [], pps, [], [], none, none, none, rfl, t2, f8, rfl, rfl, All2.nil, .refl _⟩ (fun i σ H' _ hp => SqL.of hp.2.1) (fun i v σ J hv hp => ?_) fun σ J hp => ?_⟩
        · obtain ⟨sJ, eJ, us, vs, qps, tps, ups, x8, x9, x10, rfl, tJ, fJ, lJ, lV, hA, hP⟩ := hp
          obtain ⟨x, rfl, x0, x1, ik⟩ := cm1 i v hv
          have ltq := tJ.2.len
          obtain ⟨kk, hkk⟩ : ∃ kk : Nat, x / 2 = (kk : Int) := ⟨(x / 2).toNat, by omega⟩
          have hk : kk < us.length := by omega
          have hkq : kk < qps.length := by omega
          walk_at "vc"
          refine vAsgT ?_
          walk_at "vc"
          refine ⟨.inl ⟨rfl, _, SqL.of tJ.1⟩, ?_⟩
          walk_at "vc"
          refine vI ⟨by decide, by decide⟩ ?_
          rw [hkk]
          walk_at "vc"
          have gk : (us.map V.ref)[kk]? = some (.ref us[kk]) := by rw [List.getElem?_map, List.getElem?_eq_getElem hk]; rfl
          refine ⟨l, _, _, kk, _, rfl, rfl, tJ.1, by omega, by omega, (ixN_seq (ixN_nat (by rw [List.length_map]; exact hk))).1, gk, ?_⟩
          have pk := tJ.2.at_ kk us[kk] qps[kk] (List.getElem?_eq_getElem hk) (List.getElem?_eq_getElem hkq)
          have hPe := erase_perm qps kk hkq
          rw [erase_map]
          have t3 : PL (upd J l (.lst ((us.eraseIdx kk).map V.ref))) l (us.eraseIdx kk) (qps.eraseIdx kk) := tJ.put (tJ.2.erase kk)
          have f3 := fJ.other (ys := (us.eraseIdx kk).map V.ref) nfl.symm tJ.1
          have p3 : upd J l (.lst ((us.eraseIdx kk).map V.ref)) us[kk] = some (.tup [.str qps[kk].1, .str qps[kk].2]) := by rw [upd_ne (ne_of pk tJ.1 (by intro z; cases z))]; exact pk
          have c3 : upd J l (.lst ((us.eraseIdx kk).map V.ref)) c1 = some (.lst cs) := by rw [upd_ne nlc]; exact eJ
          have s3 := Supd (o := .lst ((us.eraseIdx kk).map V.ref)) sJ hl
          have hlen : (us.eraseIdx kk).length = us.length - 1 := List.length_eraseIdx_of_lt hk
          generalize upd J l (.lst ((us.eraseIdx kk).map V.ref)) = J3 at t3 f3 p3 c3 s3 ⊢
          generalize qps[kk] = ab at p3 hPe
          obtain ⟨a, b⟩ := ab
          refine ⟨_, _, rfl, SqT.of p3, rfl, _, _, rfl, _, _, rfl, rfl, ?_⟩
          walk_at "vc"
          refine ⟨.inl ⟨rfl, _, SqL.of f3.1⟩, ?_⟩
          walk_at "vc"
          refine ⟨by show 2 ≤ sizeLine; decide, fun u1 h1 => ?_⟩
          have s34 := Snew (L2.Same.refl J3) (o := .tup [.str a, .str b]) h1
          have e1 : upd J3 u1 (.tup [.str a, .str b]) u1 = some (.tup [.str a, .str b]) := upd_same
          generalize upd J3 u1 (.tup [.str a, .str b]) = J4 at s34 e1 ⊢
          walk_at "vc"
          refine ⟨by show 2 ≤ sizeLine; decide, fun u2 h2 => ?_⟩
          have s45 := Snew (L2.Same.refl J4) (o := .tup [.str b, .str a]) h2
          have e2 : upd J4 u2 (.tup [.str b, .str a]) u2 = some (.tup [.str b, .str a]) := upd_same
          generalize upd J4 u2 (.tup [.str b, .str a]) = J5 at s45 e2 ⊢
          walk_at "vc"
          refine ⟨by show 2 ≤ sizeLine; decide, fun w1 h3 => ?_⟩
          have s56 := Snew (L2.Same.refl J5) (o := .lst [.ref u1, .ref u2]) h3
          have e3 : upd J5 w1 (.lst [.ref u1, .ref u2]) w1 = some (.lst [.ref u1, .ref u2]) := upd_same
          generalize upd J5 w1 (.lst [.ref u1, .ref u2]) = J6 at s56 e3 ⊢
          have s36 := s34.trans (s45.trans s56)
          walk_at "vc"
          refine vI (by decide) ?_
          have r1 := Int.emod_nonneg x (show (2 : Int) ≠ 0 by decide)
          have r2 := Int.emod_lt_of_pos x (show (0 : Int) < 2 by decide)
          have fin : ∀ (y8 y9 y10 : Option V) (u : Addr) (cd : Str × Str), J6 u = some (.tup [.str cd.1, .str cd.2]) → (cd = (a, b) ∨ cd = (b, a)) → rAppend (.ref fl) [.ref u] J6 fun _ J7 => L2.Same H J7 ∧ J7 c1 = some (.lst cs) ∧ ∃ (us vs : List Addr) (qps tps ups : List (Str × Str)) (x8 x9 x10 : Option V), [some (.ref n), some (.int c), some (.ref l), x3, some (.int (m : Int)), some (.ref b3), some (.ref nl), some (.ref fl), y8, y9, y10] = [some (.ref n), some (.int c), some (.ref l), x3, some (.int (m : Int)), some (.ref b3), some (.ref nl), some (.ref fl), x8, x9, x10] ∧ PL J7 l us qps ∧ PL J7 fl vs ups ∧ us.length + (i + 1) = ts.length ∧ vs.length = i + 1 ∧ All2 (fun a b => b = a ∨ b = (a.2, a.1)) tps ups ∧ (tps ++ qps).Perm pps := fun y8 y9 y10 u cd hu hcd => by
            have f6 := f3.same s36
            have t6 := t3.same s36
            refine ⟨fl, _, _, rfl, rfl, f6.1, by rw [List.length_map, lV]; exact small1000 (by omega), ?_⟩
            rw [show vs.map V.ref ++ [V.ref u] = (vs ++ [u]).map V.ref by rw [List.map_append]; rfl]
            refine ⟨Supd (s3.trans s36) hfl0, by rw [upd_ne nfc]; exact s36 _ _ c3, us.eraseIdx kk, vs ++ [u], qps.eraseIdx kk, tps ++ [(a, b)], ups ++ [cd], _, _, _, rfl, t6.other nfl f6.1, f6.put (f6.2.snoc hu), by omega, by rw [List.length_append, lV]; rfl, hA.snoc hcd, ?_⟩
            rw [List.append_assoc]
            exact (List.Perm.append_left tps hPe).trans hP
          have hr2 : x % 2 = 0 ∨ x % 2 = 1 := by omega
          rcases hr2 with e | e
          · rw [e]
            exact .inl (vIxL (v := .ref u1) e3 (atI_nat (j := 0) rfl) (fin _ _ _ u1 (a, b) (s56 _ _ (s45 _ _ e1)) (.inl rfl)))
          · rw [e]
            exact .inl (vIxL (v := .ref u2) e3 (atI_nat (j := 1) rfl) (fin _ _ _ u2 (b, a) (s56 _ _ e2) (.inr rfl)))
        · obtain ⟨sJ, eJ, us, vs, qps, tps, ups, x8, x9, x10, rfl, tJ, fJ, lJ, lV, hA, hP⟩ := hp
          walk_at "vc"
          have ltp := hA.len
          have lup := fJ.2.len
          refine q fl vs tps ups J sJ hfl0 fJ ⟨by omega, fun ab hab => ?_, ?_⟩ ⟨ups, .refl _, hA⟩
          · obtain ⟨j, k, h1, h2, h3, _⟩ := ok ab (hP.subset (List.mem_append_left _ hab))
            exact ⟨j, k, h1, h2, h3⟩
          · exact (List.nodup_append.mp (hP.nodup_iff.mpr nd)).1
end
/- _law_tied: calls []; cells [] -/
abbrev s_l_tied : Stmt := top 41
theorem sc_l_tied : FnScope ["_law_ties_here", "_law_one", "_law_other"] ["_law_ties_here", "_law_one", "_law_other"] (defScope s_l_tied) := ⟨rfl, rfl, rfl, by decide +kernel, rfl, by decide +kernel, by decide +kernel⟩
def tiB (ups : List (Str × Str)) (a b : Str) : Bool := decide ((a, b) ∈ ups) || decide ((b, a) ∈ ups)
def spTd : Sp := fun vs H Q _ => ∃ (l : Addr) (ts : List Addr) (ups : List (Str × Str)) (a b : Str), vs = [.ref l, .str a, .str b] ∧ PL H l ts ups ∧ ∀ H', L2.Same H H' → Q (.bl (tiB ups a b)) H'
section
variable {P : Program} {w : World} {K : W.Frag} {mg : Str → Option Value} {base : Heap} {cc : Nat → Addr} {cw : Addr}
theorem ok_tdB {f : Addr} {fd : FuncData} (F : Fun K "_law_tied" "_law_tied" s_l_tied f fd) : FnOk P w K mg base CX0 1 f fd ["_law_ties_here", "_law_one", "_law_other"] spTd := by
  refine F.ok sc_l_tied (fun vs H Q E h => ?_) fun cdv A outer s H vs Q E hr h => ?_
  · obtain ⟨l, ts, ups, a, b, rfl, _⟩ := h; rfl
  · obtain ⟨l, ts, ups, a, b, rfl, hl, q⟩ := h
    have hu := u100 hr
    unfold tiB at q
    refine ⟨_, (pss_one (ps_ret (pe_or (pe_cmpR (k_inU (K := K) rfl hu) (pe_tup (pa_cons (pv 1) (pa_cons (pv 2) pa_nil))) (pv 0) (by with_unfolding_all rfl)) (pe_one (pe_cmpR (k_inU (K := K) rfl hu) (pe_tup (pa_cons (pv 2) (pa_cons (pv 1) pa_nil))) (pv 0) (by with_unfolding_all rfl)))))), ?_⟩
    walk_at "vc"
    refine ⟨by show 2 ≤ sizeLine; decide, fun t ht => ?_⟩
    have s1 := Snew (L2.Same.refl H) (o := .tup [.str a, .str b]) ht
    have e1 : upd H t (.tup [.str a, .str b]) t = some (.tup [.str a, .str b]) := upd_same
    generalize upd H t (.tup [.str a, .str b]) = H1 at s1 e1 ⊢
    walk_at "vc"
    refine pl_in (hl.same s1) e1 ?_
    walk_at "vc"
    refine ite2 (fun h => ?_) fun h => ?_
    · rw [h] at q
      exact q _ s1
    · have h : decide ((a, b) ∈ ups) = false := by simpa using h
      rw [h] at q
      walk_at "vc"
      refine ⟨by show 2 ≤ sizeLine; decide, fun t2 ht2 => ?_⟩
      have s2 := Snew s1 (o := .tup [.str b, .str a]) ht2
      have e2 : upd H1 t2 (.tup [.str b, .str a]) t2 = some (.tup [.str b, .str a]) := upd_same
      generalize upd H1 t2 (.tup [.str b, .str a]) = H2 at s2 e2 ⊢
      walk_at "vc"
      refine pl_in (hl.same s2) e2 ?_
      exact q _ s2
end
/- Walk.__init__: calls [] -/
abbrev s_Walk_init : Stmt := inClass (top 17) 0
theorem sc_Walk_init : FnScope ["self", "web", "start"] ["self", "web", "start"] (defScope s_Walk_init) := ⟨rfl, rfl, rfl, by decide +kernel, rfl, by decide +kernel, by decide +kernel⟩
/- Walk.web: calls [] -/
/- Walk.stands_at: calls [] -/
abbrev s_Walk_stands_at : Stmt := inClass (top 17) 2
theorem sc_Walk_stands_at : FnScope ["self"] ["self"] (defScope s_Walk_stands_at) := ⟨rfl, rfl, rfl, by decide +kernel, rfl, by decide +kernel, by decide +kernel⟩
/- Walk.gone: calls [] -/
abbrev s_Walk_gone : Stmt := inClass (top 17) 3
theorem sc_Walk_gone : FnScope ["self"] ["self"] (defScope s_Walk_gone) := ⟨rfl, rfl, rfl, by decide +kernel, rfl, by decide +kernel, by decide +kernel⟩
def PlayAt (cp cw : Addr) (H : Hp) (x b p : Addr) (ss : List Str) (ns : List Nat) (tr : List Str) : Prop := ∃ dx, H x = some (.ins cp dx (putF "path" (.ref p) (putF "board" (.ref b) []))) ∧ H p = some (.lst (tr.map V.str)) ∧ WebAt cw H b ss ns
theorem PlayAt.same {cp cw x b p : Addr} {H H' : Hp} {ss : List Str} {ns : List Nat} {tr : List Str} (h : PlayAt cp cw H x b p ss ns tr) (s : L2.Same H H') : PlayAt cp cw H' x b p ss ns tr := by
  obtain ⟨dx, h1, h2, h3⟩ := h
  exact ⟨dx, s _ _ h1, s _ _ h2, h3.same s⟩
theorem lk_path {p b : Addr} : List.lookup ("path" : Str) (putF "path" (V.ref p) (putF "board" (V.ref b) [])) = some (V.ref p) := by rw [lookup_putF, if_pos rfl]
theorem lk_board {p b : Addr} : List.lookup ("board" : Str) (putF "path" (V.ref p) (putF "board" (V.ref b) [])) = some (V.ref b) := by rw [lookup_putF, if_neg (by decide +kernel), lookup_putF, if_pos rfl]
theorem WebAt.but {cw b x c dx : Addr} {fs : List (Str × V)} {H H' : Hp} {ss : List Str} {ns : List Nat} (h : WebAt cw H b ss ns) (hx : H x = some (.ins c dx fs)) (ne : b ≠ x) (k : But x H H') : WebAt cw H' b ss ns := by
  obtain ⟨wx, d, ol, n, h1, h2, h3, h4, h5⟩ := h
  exact ⟨wx, d, ol, n, k _ _ ne h1, k _ _ (ne_of h2 hx (by intro z; cases z)) h2, k _ _ (ne_of h3 hx (by intro z; cases z)) h3, k _ _ (ne_of h4 hx (by intro z; cases z)) h4, h5⟩
def spWkI (cc : Nat → Addr) (cw : Addr) : Sp := fun vs H Q _ => ∃ (x dx b : Addr) (st : Str) (ss : List Str) (ns : List Nat), vs = [.ref x, .ref b, .str st] ∧ H x = some (.ins (cc 9) dx []) ∧ WebAt cw H b ss ns ∧ st ∈ ss ∧ ∀ (p : Addr) (H' : Hp), But x H H' → H p = none → PlayAt (cc 9) cw H' x b p ss ns [st] → Q .non H'
section
variable {P : Program} {w : World} {K : W.Frag} {mg : Str → Option Value} {base : Heap} {cc : Nat → Addr} {cw : Addr}
theorem ok_wkI {f : Addr} {fd : FuncData} (F : Fun K "__init__" "Walk.__init__" s_Walk_init f fd) (T : Txt K mg cc cw) (D_Web_has_place : MethOk P w K mg base CX0 3 cw "has_place" ["self", "thing"] (spHas cw)) : FnOk P w K mg base CX0 5 f fd ["self", "web", "start"] (spWkI cc cw) := by
  refine F.ok sc_Walk_init (fun vs H Q E h => ?_) fun cdv A outer s H vs Q E hr h => ?_
  · obtain ⟨x, dx, b, st, ss, ns, rfl, _⟩ := h; rfl
  · obtain ⟨x, dx, b, st, ss, ns, rfl, hx, hW, hst, q⟩ := h
    have hu := u100 hr
    refine ⟨_, (pss_cons (ps_if (pt_not (pt_val (pe_methQ D_Web_has_place (hm hr) (pv 1) (pa_cons (pv 2) pa_nil)))) (pss_one ps_never) pss_nil)
  (pss_cons (k_sfldU (K := K) rfl (pv 0) (pv 1) rfl)
  (pss_one (k_sfldU (K := K) rfl (pv 0) (pe_lst (pa_cons (pv 2) pa_nil)) rfl)))), ?_⟩
    obtain ⟨wx, d, ol, n, hb, _, _, _, hw⟩ := id hW
    have hnm := hw.nm _ hst
    have nbx : b ≠ x := fun e => by subst e; rw [hx] at hb; injection hb with hb; injection hb with _ _ hb; cases hb
    walk_at "vc"
    refine ⟨b, wx, _, rfl, hb, lk_no (by decide +kernel), ?_⟩
    walk_at "vc"
    refine ⟨x, 0, b, ss, ns, .str st, rfl, hW, Th.flat rfl (fun z e => by cases e; have := nameS_len hnm; omega), fun H1 s1 => ?_⟩
    rw [name_place hst hnm]
    walk_at "vc"
    refine ite2 (fun h => by cases h) fun _ => ?_
    walk_at "vc"
    refine .inl ⟨x, cc 9, dx, [], rfl, s1 _ _ hx, T.pcl, T.pb, by decide, ?_⟩
    have b1 := ((But.refl x H).same s1).put (o := .ins (cc 9) dx (putF "board" (.ref b) []))
    have hx1 : upd H1 x (.ins (cc 9) dx (putF "board" (.ref b) [])) x = some (.ins (cc 9) dx (putF "board" (.ref b) [])) := upd_same
    generalize upd H1 x (.ins (cc 9) dx (putF "board" (.ref b) [])) = H2 at b1 hx1 ⊢
    walk_at "vc"
    refine ⟨by show 1 ≤ sizeLine; decide, fun p hp => ?_⟩
    have npx : p ≠ x := fun e => by rw [e, hx1] at hp; cases hp
    have hp0 : H p = none := by
      cases e : H p with
      | none => rfl
      | some o => rw [b1 p o npx e] at hp; cases hp
    have b2 := b1.new (o := .lst [.str st]) hp
    have hx2 : upd H2 p (.lst [.str st]) x = some (.ins (cc 9) dx (putF "board" (.ref b) [])) := by rw [upd_ne npx.symm]; exact hx1
    have ep : upd H2 p (.lst [.str st]) p = some (.lst [.str st]) := upd_same
    generalize upd H2 p (.lst [.str st]) = H3 at b2 hx2 ep ⊢
    walk_at "vc"
    refine .inl ⟨x, cc 9, dx, _, rfl, hx2, T.pcl, T.pp, Nat.lt_of_le_of_lt (length_putF _ _ _) (by decide), ?_⟩
    have b3 := b2.put (o := .ins (cc 9) dx (putF "path" (.ref p) (putF "board" (.ref b) [])))
    exact q p _ b3 hp0 ⟨dx, upd_same, by rw [upd_ne npx]; exact ep, hW.but hx nbx b3⟩
def spPs (cc : Nat → Addr) (cw : Addr) : Sp := fun vs H Q _ => ∃ (x b p : Addr) (ss : List Str) (ns : List Nat) (tr : List Str) (z : Str), vs = [.ref x] ∧ PlayAt (cc 9) cw H x b p ss ns tr ∧ tr.getLast? = some z ∧ Q (.str z) H
def spPg (cc : Nat → Addr) (cw : Addr) : Sp := fun vs H Q _ => ∃ (x b p : Addr) (ss : List Str) (ns : List Nat) (tr : List Str), vs = [.ref x] ∧ PlayAt (cc 9) cw H x b p ss ns tr ∧ ∀ l, H l = none → Q (.ref l) (upd H l (.lst (tr.map V.str)))
theorem last_at {xs : List Str} {z : Str} (h : xs.getLast? = some z) : atI (xs.map V.str) (-1) = some (.str z) := by
  have e : (xs.map V.str).getLast? = some (.str z) := by rw [List.getLast?_map, h]; rfl
  rw [List.getLast?_eq_getElem?] at e
  have hl := (List.getElem?_eq_some_iff.mp e).1
  unfold atI ixN
  rw [if_neg (by decide), if_pos (by omega)]
  have e2 : (-1 + ((xs.map V.str).length : Int)).toNat = (xs.map V.str).length - 1 := by omega
  show (xs.map V.str)[(-1 + ((xs.map V.str).length : Int)).toNat]? = _
  rw [e2]
  exact e
theorem ok_ps {f : Addr} {fd : FuncData} (F : Fun K "stands_at" "Walk.stands_at" s_Walk_stands_at f fd) (T : Txt K mg cc cw) : FnOk P w K mg base CX0 1 f fd ["self"] (spPs cc cw) := by
  refine F.ok sc_Walk_stands_at (fun vs H Q E h => ?_) fun cdv A outer s H vs Q E hr h => ?_
  · obtain ⟨x, b, p, ss, ns, tr, z, rfl, _⟩ := h; rfl
  · obtain ⟨x, b, p, ss, ns, tr, z, rfl, ⟨dx, hx, hp, hW⟩, hz, q⟩ := h
    have hu := u100 hr
    refine ⟨_, (pss_one (ps_ret (pe_ix (k_ixU (K := K) rfl hu) (k_fldU (K := K) rfl (pv 0) rfl) (pe_un un_neg pe_int) (fun _ _ => rfl)))), ?_⟩
    walk_at "vc"
    refine .inl ⟨x, cc 9, dx, _, .ref p, rfl, hx, T.pcl, T.pp, lk_path, ?_⟩
    walk_at "vc"
    refine vU ?_
    exact .inl (vIxL hp (last_at hz) q)
theorem ok_pgn {f : Addr} {fd : FuncData} (F : Fun K "gone" "Walk.gone" s_Walk_gone f fd) (T : Txt K mg cc cw) : FnOk P w K mg base CX0 1 f fd ["self"] (spPg cc cw) := by
  refine F.ok sc_Walk_gone (fun vs H Q E h => ?_) fun cdv A outer s H vs Q E hr h => ?_
  · obtain ⟨x, b, p, ss, ns, tr, rfl, _⟩ := h; rfl
  · obtain ⟨x, b, p, ss, ns, tr, rfl, ⟨dx, hx, hp, hW⟩, q⟩ := h
    refine ⟨_, (pss_one (ps_ret (pe_callTy (k_listU (K := K) rfl rfl) rfl T.b_list boot_list (pa_cons (k_fldU (K := K) rfl (pv 0) rfl) pa_nil)))), ?_⟩
    walk_at "vc"
    refine .inl ⟨x, cc 9, dx, _, .ref p, rfl, hx, T.pcl, T.pp, lk_path, ?_⟩
    walk_at "vc"
    exact .inl ⟨p, _, rfl, .inl (SqL.of hp), q⟩
end
/- Walk.move_to: calls [] -/
abbrev s_Walk_move_to : Stmt := inClass (top 17) 8
theorem sc_Walk_move_to : FnScope ["self", "thing"] ["self", "thing"] (defScope s_Walk_move_to) := ⟨rfl, rfl, rfl, by decide +kernel, rfl, by decide +kernel, by decide +kernel⟩
/- Walk.back: calls [] -/
abbrev s_Walk_back : Stmt := inClass (top 17) 9
theorem sc_Walk_back : FnScope ["self"] ["self"] (defScope s_Walk_back) := ⟨rfl, rfl, rfl, by decide +kernel, rfl, by decide +kernel, by decide +kernel⟩
/- Play.moves: calls [] -/
abbrev s_Play_moves : Stmt := inClass (top 22) 1
theorem sc_Play_moves : FnScope ["self"] ["self"] (defScope s_Play_moves) := ⟨rfl, rfl, rfl, by decide +kernel, rfl, by decide +kernel, by decide +kernel⟩
/- Play.not_gone: calls [] -/
abbrev s_Play_not_gone : Stmt := inClass (top 22) 2
theorem sc_Play_not_gone : FnScope ["self", "names"] ["self", "names"] (defScope s_Play_not_gone) := ⟨rfl, rfl, rfl, by decide +kernel, rfl, by decide +kernel, by decide +kernel⟩
/- Play.go: calls [] -/
abbrev s_Play_go : Stmt := inClass (top 22) 3
theorem sc_Play_go : FnScope ["self", "name"] ["self", "name"] (defScope s_Play_go) := ⟨rfl, rfl, rfl, by decide +kernel, rfl, by decide +kernel, by decide +kernel⟩
def ngS (tr xs : List Str) : List Str := xs.filter fun o => !decide (o ∈ tr)
def mvS (ss : List Str) (ns : List Nat) (tr : List Str) (z : Str) : List Str := ngS tr (inB ss 0 (ns.getD (ss.idxOf z) 0))
def spPn (cc : Nat → Addr) (cw : Addr) : Sp := fun vs H Q _ => ∃ (x b p l : Addr) (ss : List Str) (ns : List Nat) (tr xs : List Str), vs = [.ref x, .ref l] ∧ PlayAt (cc 9) cw H x b p ss ns tr ∧ H l = some (.lst (xs.map V.str)) ∧ xs.length ≤ 14 ∧ ∀ r, H r = none → Q (.ref r) (upd H r (.lst ((ngS tr xs).map V.str)))
def spPm (cc : Nat → Addr) (cw : Addr) : Sp := fun vs H Q _ => ∃ (x b p : Addr) (ss : List Str) (ns : List Nat) (tr : List Str) (z : Str), vs = [.ref x] ∧ PlayAt (cc 9) cw H x b p ss ns tr ∧ tr.getLast? = some z ∧ z ∈ ss ∧ ∀ (r : Addr) (H' : Hp), L2.Same H H' → H r = none → H' r = some (.lst ((mvS ss ns tr z).map V.str)) → Q (.ref r) H'
def spPgo (cc : Nat → Addr) (cw : Addr) : Sp := fun vs H Q _ => ∃ (x b p : Addr) (ss : List Str) (ns : List Nat) (tr : List Str) (z v : Str), vs = [.ref x, .str v] ∧ PlayAt (cc 9) cw H x b p ss ns tr ∧ tr.length ≤ 100 ∧ tr.getLast? = some z ∧ z ∈ ss ∧ v ∈ mvS ss ns tr z ∧ ∀ H', But p H H' → H' p = some (.lst ((tr ++ [v]).map V.str)) → Q .non H'
def spPb (cc : Nat → Addr) (cw : Addr) : Sp := fun vs H Q _ => ∃ (x b p : Addr) (ss : List Str) (ns : List Nat) (tr : List Str) (z : Str), vs = [.ref x] ∧ PlayAt (cc 9) cw H x b p ss ns (tr ++ [z]) ∧ tr ≠ [] ∧ tr.length ≤ 100 ∧ Q (.str z) (upd H p (.lst (tr.map V.str)))
theorem lkp_no {f : Str} {p b : V} (h : (f == "path" || f == "board") = false) : List.lookup f (putF "path" p (putF "board" b [])) = none := by
  simp only [Bool.or_eq_false_iff, beq_eq_false_iff_ne] at h
  rw [lookup_putF, if_neg h.1, lookup_putF, if_neg h.2]
  rfl
section
variable {P : Program} {w : World} {K : W.Frag} {mg : Str → Option Value} {base : Heap} {cc : Nat → Addr} {cw : Addr}
theorem ok_ng {f : Addr} {fd : FuncData} (F : Fun K "not_gone" "Play.not_gone" s_Play_not_gone f fd) (T : Txt K mg cc cw) : FnOk P w K mg base CX0 1 f fd ["self", "names"] (spPn cc cw) := by
  refine F.ok sc_Play_not_gone (fun vs H Q E h => ?_) fun cdv A outer s H vs Q E hr h => ?_
  · obtain ⟨x, b, p, l, ss, ns, tr, xs, rfl, _⟩ := h; rfl
  · obtain ⟨x, b, p, l, ss, ns, tr, xs, rfl, ⟨dx, hx, hp, hW⟩, hl, few, q⟩ := h
    have hu := u100 hr
    refine ⟨_, (pss_one (ps_ret (pe_comp (sc := defScope s_Play_not_gone) (XN := ["self", "names"]) ["name", "self"] 1 [0] rfl rfl rfl (by decide +kernel) rfl (by decide +kernel)
   (ki_any (K := K) rfl (pv 1)) (fun _ _ _ _ => (pg_name (i := 0) (show (["name", "self"] : List Str).Nodup by decide +kernel) rfl (Or.inl rfl))) gk_name
   (fun _ _ _ _ => (pifs_one (pt_cmpR (k_notinU (K := K) rfl hu) (pv 0) (k_fldU (K := K) rfl (pv 1) rfl) (by with_unfolding_all rfl))))
   (fun _ _ _ _ => (pv 0))))), ?_⟩
    walk_at "vc"
    refine .inl ⟨⟨_, SqL.of hl⟩, comp_list (K := K) (fun m ys H' => H' = H ∧ ys = (ngS tr (xs.take m)).map V.str) ⟨rfl, rfl⟩ (fun m ys H' _ hp => by rw [hp.1]; exact SqL.of hl) (fun m y ys H' hy hp' => ?_) fun ys H' hp' => ?_⟩
    · obtain ⟨rfl, rfl⟩ := hp'
      obtain ⟨o, gm, rfl⟩ := str_eq_list hy
      have htk : xs.take (m + 1) = xs.take m ++ [o] := by rw [List.take_add_one, gm]; rfl
      have fewY : ((ngS tr (xs.take m)).map V.str).length < sizeLine := by
        rw [List.length_map]
        exact small1000 (Nat.le_trans (List.length_filter_le _ _) (by rw [List.length_take]; omega))
      have enx : ngS tr (xs.take (m + 1)) = ngS tr (xs.take m) ++ (if (!decide (o ∈ tr)) = true then [o] else []) := by
        unfold ngS
        rw [htk, List.filter_append, List.filter_cons]
        rfl
      rw [enx, List.map_append]
      walk_at "vc"
      refine .inl ⟨x, cc 9, dx, _, .ref p, rfl, hx, T.pcl, T.pp, lk_path, ?_⟩
      refine .inl ⟨p, _, rfl, .inl (SqL.of hp), rfl, flat_strs _, ?_⟩
      rw [inV_str]
      walk_at "vc"
      refine ite2 (fun h => ?_) fun h => ?_
      · walk_at "vc"
        refine ⟨fewY, rfl, ?_⟩
        have h : (!decide (o ∈ tr)) = true := h
        rw [if_pos h]
        rfl
      · refine ⟨rfl, ?_⟩
        have h : ¬ (!decide (o ∈ tr)) = true := h
        rw [if_neg h]
        simp
    · obtain ⟨rfl, rfl⟩ := hp'
      have etl : xs.take (xs.map V.str).length = xs := by rw [List.length_map, List.take_length]
      rw [etl]
      exact ⟨by rw [List.length_map]; exact Nat.le_of_lt (small1000 (Nat.le_trans (List.length_filter_le _ _) (by omega))), q⟩
theorem ok_pm {f : Addr} {fd : FuncData} (F : Fun K "moves" "Play.moves" s_Play_moves f fd) (T : Txt K mg cc cw) (QD_Web_beside : MethOk P w K mg base CX0 6 cw "beside" ["self", "place"] (fun vs H Q _ => spBs cc cw vs H Q E0)) (D_Walk_stands_at : MethOk P w K mg base CX0 1 (cc 9) "stands_at" ["self"] (spPs cc cw)) (D_Play_not_gone : MethOk P w K mg base CX0 1 (cc 9) "not_gone" ["self", "names"] (spPn cc cw)) : FnOk P w K mg base CX0 7 f fd ["self"] (spPm cc cw) := by
  refine F.ok sc_Play_moves (fun vs H Q E h => ?_) fun cdv A outer s H vs Q E hr h => ?_
  · obtain ⟨x, b, p, ss, ns, tr, z, rfl, _⟩ := h; rfl
  · obtain ⟨x, b, p, ss, ns, tr, z, rfl, hP, hz, hzs, q⟩ := h
    obtain ⟨dx, hx, hp, hW⟩ := id hP
    have hu := u100 hr
    refine ⟨_, (pss_one (ps_ret (pe_methQ D_Play_not_gone (hm hr) (pv 0) (pa_cons (pe_methQ QD_Web_beside (hm hr) (k_fldU (K := K) rfl (pv 0) rfl) (pa_cons (pe_meth0Q D_Walk_stands_at (hm hr) (pv 0)) pa_nil)) pa_nil)))), ?_⟩
    obtain ⟨wx, d, ol, n, hb, _, _, _, hw⟩ := id hW
    have hnm := hw.nm _ hzs
    have hix : ss[ss.idxOf z]? = some z := by rw [List.getElem?_eq_getElem (List.idxOf_lt_length_of_mem hzs)]; exact congrArg some (List.getElem_idxOf _)
    walk_at "vc"
    refine ⟨x, dx, _, rfl, hx, lkp_no (by decide +kernel), ?_⟩
    walk_at "vc"
    refine .inl ⟨x, cc 9, dx, _, .ref b, rfl, hx, T.pcl, T.pb, lk_board, ?_⟩
    walk_at "vc"
    refine ⟨b, wx, _, rfl, hb, lk_no (by decide +kernel), ?_⟩
    walk_at "vc"
    refine ⟨x, dx, _, rfl, hx, lkp_no (by decide +kernel), ?_⟩
    walk_at "vc"
    refine ⟨x, b, p, ss, ns, tr, z, rfl, hP, hz, ?_⟩
    walk_at "vc"
    refine ⟨x, 0, b, ss, ns, .str z, rfl, hW, Th.flat rfl (fun z e => by cases e; have := nameS_len hnm; omega), (fun e => by rw [name_place hzs hnm] at e; cases e), fun j hj _ H1 s1 l hl => ?_⟩
    have ej : j = ss.idxOf z := nodup_inj hw.nd hj hix
    subst ej
    have s12 := Snew (L2.Same.refl H1) (o := .lst ((inB ss 0 (ns.getD (ss.idxOf z) 0)).map V.str)) hl
    have el : upd H1 l (.lst ((inB ss 0 (ns.getD (ss.idxOf z) 0)).map V.str)) l = some (.lst ((inB ss 0 (ns.getD (ss.idxOf z) 0)).map V.str)) := upd_same
    have s2 := s1.trans s12
    generalize upd H1 l (.lst ((inB ss 0 (ns.getD (ss.idxOf z) 0)).map V.str)) = H2 at s2 el ⊢
    have few := hw.few
    have hil : (inB ss 0 (ns.getD (ss.idxOf z) 0)).length ≤ ss.length := inB_len _ _ _
    walk_at "vc"
    refine ⟨x, b, p, l, ss, ns, tr, _, rfl, hP.same s2, el, by omega, fun r hr0 => ?_⟩
    exact q r _ (Snew s2 hr0) (s2.free hr0) upd_same
theorem ok_mvt {f : Addr} {fd : FuncData} (F : Fun K "move_to" "Walk.move_to" s_Walk_move_to f fd) (T : Txt K mg cc cw) (D_Play_moves : MethOk P w K mg base CX0 7 (cc 9) "moves" ["self"] (spPm cc cw)) : FnOk P w K mg base CX0 8 f fd ["self", "thing"] (spPgo cc cw) := by
  refine F.ok sc_Walk_move_to (fun vs H Q E h => ?_) fun cdv A outer s H vs Q E hr h => ?_
  · obtain ⟨x, b, p, ss, ns, tr, z, v, rfl, _⟩ := h; rfl
  · obtain ⟨x, b, p, ss, ns, tr, z, v, rfl, hP, l100, hz, hzs, hv, q⟩ := h
    obtain ⟨dx, hx, hp, hW⟩ := id hP
    have hu := u100 hr
    refine ⟨_, (pss_cons (ps_if (pt_cmpR (k_notinU (K := K) rfl hu) (pv 1) (pe_meth0Q D_Play_moves (hm hr) (pv 0)) (by with_unfolding_all rfl)) (pss_one ps_never) pss_nil)
  (pss_one (ps_expr (k_bm (K := K) rfl PySem.F.plainAttrs_list PySem.F.slot_list_append PySem.F.type_list_append mtR_append (k_fldU (K := K) rfl (pv 0) rfl) (pa_cons (pv 1) pa_nil))))), ?_⟩
    walk_at "vc"
    refine ⟨x, dx, _, rfl, hx, lkp_no (by decide +kernel), ?_⟩
    walk_at "vc"
    refine ⟨x, b, p, ss, ns, tr, z, rfl, hP, hz, hzs, fun r H1 s1 hr0 hr1 => ?_⟩
    refine .inl ⟨r, _, rfl, .inl (SqL.of hr1), rfl, flat_strs _, ?_⟩
    rw [inV_str]
    walk_at "vc"
    refine ite2 (fun h => ?_) fun _ => ?_
    · have h : (!decide (v ∈ mvS ss ns tr z)) = true := h
      rw [decide_eq_true hv] at h
      cases h
    walk_at "vc"
    refine .inl ⟨x, cc 9, dx, _, .ref p, rfl, s1 _ _ hx, T.pcl, T.pp, lk_path, ?_⟩
    walk_at "vc"
    refine ⟨.inl ⟨rfl, _, SqL.of (s1 _ _ hp)⟩, ?_⟩
    walk_at "vc"
    refine ⟨p, _, _, rfl, rfl, s1 _ _ hp, by rw [List.length_map]; exact small1000 (by omega), ?_⟩
    exact q _ ((But.refl p H).same s1).put (by rw [upd_same, List.map_append]; rfl)
theorem ok_pgo {f : Addr} {fd : FuncData} (F : Fun K "go" "Play.go" s_Play_go f fd) (T : Txt K mg cc cw) (D_Walk_move_to : MethOk P w K mg base CX0 8 (cc 9) "move_to" ["self", "thing"] (spPgo cc cw)) : FnOk P w K mg base CX0 9 f fd ["self", "name"] (spPgo cc cw) := by
  refine F.ok sc_Play_go (fun vs H Q E h => ?_) fun cdv A outer s H vs Q E hr h => ?_
  · obtain ⟨x, b, p, ss, ns, tr, z, v, rfl, _⟩ := h; rfl
  · obtain ⟨x, b, p, ss, ns, tr, z, v, rfl, hP, l100, hz, hzs, hv, q⟩ := h
    obtain ⟨dx, hx, hp, hW⟩ := id hP
    refine ⟨_, (pss_one (ps_expr (pe_methQ D_Walk_move_to (hm hr) (pv 0) (pa_cons (pv 1) pa_nil)))), ?_⟩
    walk_at "vc"
    refine ⟨x, dx, _, rfl, hx, lkp_no (by decide +kernel), ?_⟩
    walk_at "vc"
    exact ⟨x, b, p, ss, ns, tr, z, v, rfl, hP, l100, hz, hzs, hv, q⟩
theorem ok_pbk {f : Addr} {fd : FuncData} (F : Fun K "back" "Walk.back" s_Walk_back f fd) (T : Txt K mg cc cw) : FnOk P w K mg base CX0 1 f fd ["self"] (spPb cc cw) := by
  refine F.ok sc_Walk_back (fun vs H Q E h => ?_) fun cdv A outer s H vs Q E hr h => ?_
  · obtain ⟨x, b, p, ss, ns, tr, z, rfl, _⟩ := h; rfl
  · obtain ⟨x, b, p, ss, ns, tr, z, rfl, hP, hne, l100, q⟩ := h
    obtain ⟨dx, hx, hp, hW⟩ := id hP
    have hu := u100 hr
    refine ⟨_, (pss_cons (ps_if (pt_cmpR (k_eqZ (K := K) rfl hu) (pe_callB (k_len (K := K) rfl) rfl T.b_len boot_len (pa_cons (k_fldU (K := K) rfl (pv 0) rfl) pa_nil)) pe_int (nomark _)) (pss_one ps_never) pss_nil)
  (pss_one (ps_ret (k_bm0 (K := K) rfl PySem.F.plainAttrs_list PySem.F.slot_list_pop PySem.F.type_list_pop mtR_pop (k_fldU (K := K) rfl (pv 0) rfl))))), ?_⟩
    walk_at "vc"
    refine .inl ⟨x, cc 9, dx, _, .ref p, rfl, hx, T.pcl, T.pp, lk_path, ?_⟩
    walk_at "vc"
    refine vLenL hp ?_
    walk_at "vc"
    refine .inl (.inl (.inl ⟨rfl, rfl, ?_⟩))
    walk_at "vc"
    have htl : 0 < tr.length := List.length_pos_iff.mpr hne
    refine ite2 (fun h => ?_) fun _ => ?_
    · have h : eqV (V.int ((tr ++ [z]).map V.str).length) (V.int 1) = true := h
      rw [List.length_map, List.length_append] at h
      have h : ((tr.length + 1 : Nat) : Int) = 1 := by simpa [eqV] using h
      omega
    walk_at "vc"
    refine .inl ⟨x, cc 9, dx, _, .ref p, rfl, hx, T.pcl, T.pp, lk_path, ?_⟩
    walk_at "vc"
    refine ⟨.inl ⟨rfl, _, SqL.of hp⟩, ?_⟩
    refine ⟨p, _, .str z, rfl, rfl, hp, by simp, ?_⟩
    rw [show ((tr ++ [z]).map V.str).dropLast = tr.map V.str by simp]
    exact q
end
theorem pair_len : ∀ {l m : List (Str × Str)}, l.Nodup → (∀ x ∈ l, x ∈ m) → l.length ≤ m.length
  | [], _, _, _ => Nat.zero_le _
  | x :: r, m, hn, h => by
    obtain ⟨h1, h2⟩ := List.nodup_cons.mp hn
    have hx := h x List.mem_cons_self
    have ih := pair_len (l := r) (m := m.erase x) h2 fun y hy => (List.mem_erase_of_ne (fun e => h1 (by rw [← e]; exact hy))).mpr (h y (List.mem_cons_of_mem _ hy))
    rw [List.length_erase_of_mem hx] at ih
    have : 0 < m.length := List.length_pos_of_mem hx
    simp only [List.length_cons]
    omega
theorem ris_nd {ss : List Str} (tps : List (Str × Str)) (hn : ss.Nodup) : (risOf ss tps ss).Nodup := by
  unfold risOf
  show List.Pairwise _ _
  rw [List.pairwise_flatMap]
  refine ⟨fun a _ => ?_, List.Pairwise.imp (fun {a b} hab x hx y hy e => ?_) hn⟩
  · exact List.Pairwise.map _ (fun x y hxy e => hxy (Prod.mk.inj e).2) (hn.filter _)
  · unfold risRow at hx hy
    obtain ⟨o, _, rfl⟩ := List.mem_map.mp hx
    obtain ⟨o', _, rfl⟩ := List.mem_map.mp hy
    exact hab (Prod.mk.inj e).1
theorem TOk.ris {ss : List Str} {tps : List (Str × Str)} (hn : ss.Nodup) (hT : TOk ss tps) : TOk ss (risOf ss tps ss) := by
  have hnd := ris_nd tps hn
  have hsub : ∀ ab ∈ risOf ss tps ss, ab ∈ tps := fun ab h => (mem_ris hT ab.1 ab.2).mp h
  exact ⟨Nat.le_trans (pair_len hnd hsub) hT.few, fun ab h => hT.ok ab (hsub ab h), hnd⟩
theorem WG.ofR {ss : List Str} {ns : List Nat} {tps ups : List (Str × Str)} (hw : WOk ss ns) (hT : TOk ss tps) (sh : Shuf tps ups) (hb : BitsOk ss ns ups) : WG ss ns (risOf ss tps ss) :=
  ⟨hT.ris hw.nd, Adj.ris hT (adj_of sh hb), ties_ris hw hT (adj_of sh hb)⟩
theorem WebAt.ok {cw x : Addr} {H : Hp} {ss : List Str} {ns : List Nat} (h : WebAt cw H x ss ns) : WOk ss ns := by
  obtain ⟨_, _, _, _, _, _, _, _, z⟩ := h; exact z
section
variable {P : Program} {w : World} {K : W.Frag} {mg : Str → Option Value} {base : Heap} {cc : Nat → Addr} {cw : Addr}
end
/- Play.twin: calls ['played'] -/
abbrev s_Play_twin : Stmt := inClass (top 22) 6
theorem sc_Play_twin : FnScope ["self"] ["self"] (defScope s_Play_twin) := ⟨rfl, rfl, rfl, by decide +kernel, rfl, by decide +kernel, by decide +kernel⟩
/- played: calls []; cells [] -/
abbrev s_played : Stmt := top 23
theorem sc_played : FnScope ["web", "names", "play", "name"] ["web", "names"] (defScope s_played) := ⟨rfl, rfl, rfl, by decide +kernel, rfl, by decide +kernel, by decide +kernel⟩
structure RowOk (ss : List Str) (ns : List Nat) (tr : List Str) : Prop where
  ne : tr ≠ []
  few : tr.length ≤ 100
  ins : ∀ s ∈ tr, s ∈ ss
  mv : ∀ (i : Nat) z v, tr[i]? = some z → tr[i + 1]? = some v → v ∈ mvS ss ns (tr.take (i + 1)) z
def spPld (cc : Nat → Addr) (cw : Addr) : Sp := fun vs H Q _ => ∃ (b l : Addr) (ss : List Str) (ns : List Nat) (tr : List Str), vs = [.ref b, .ref l] ∧ WebAt cw H b ss ns ∧ H l = some (.lst (tr.map V.str)) ∧ RowOk ss ns tr ∧ ∀ (x p : Addr) (H' : Hp), L2.Same H H' → H x = none → H p = none → PlayAt (cc 9) cw H' x b p ss ns tr → Q (.ref x) H'
def spTw (cc : Nat → Addr) (cw : Addr) : Sp := fun vs H Q _ => ∃ (x b p : Addr) (ss : List Str) (ns : List Nat) (tr : List Str), vs = [.ref x] ∧ PlayAt (cc 9) cw H x b p ss ns tr ∧ RowOk ss ns tr ∧ ∀ (x' p' : Addr) (H' : Hp), L2.Same H H' → H x' = none → H p' = none → PlayAt (cc 9) cw H' x' b p' ss ns tr → Q (.ref x') H'
theorem same_but {p : Addr} {H H1 H2 : Hp} (s : L2.Same H H1) (b : But p H1 H2) (hp : H p = none) : L2.Same H H2 := fun c o e => b c o (fun z => by rw [z, hp] at e; cases e) (s c o e)
section
variable {P : Program} {w : World} {K : W.Frag} {mg : Str → Option Value} {base : Heap} {cc : Nat → Addr} {cw : Addr}
theorem ok_pld {f : Addr} {fd : FuncData} (F : Fun K "played" "played" s_played f fd) (T : Txt K mg cc cw) (D_Play : MakeOk P w K mg base CX0 5 (cc 9) "Play" ["self", "web", "start"] (spWkI cc cw)) (D_Play_go : MethOk P w K mg base CX0 9 (cc 9) "go" ["self", "name"] (spPgo cc cw)) : FnOk P w K mg base CX0 10 f fd ["web", "names"] (spPld cc cw) := by
  refine F.ok sc_played (fun vs H Q E h => ?_) fun cdv A outer s H vs Q E hr h => ?_
  · obtain ⟨b, l, ss, ns, tr, rfl, _⟩ := h; rfl
  · obtain ⟨b, l, ss, ns, tr, rfl, hW, hl, hR, q⟩ := h
    have hu := u100 hr
    refine ⟨_, (pss_cons (ps_if (PW.pt (pw_or (pt_not (pt_val (pe_callB (k_isiTU (K := K) rfl) rfl T.b_isinstance boot_isinstance (pa_cons (pv 1) (pa_cons (pe_tup (pa_cons (pe_bltn (v := .ty "list") rfl T.b_list boot_list rfl) (pa_cons (pe_bltn (v := .ty "tuple") rfl T.b_tuple boot_tuple rfl) pa_nil))) pa_nil))))) (pw_or1 (pt_cmpR (k_eqZ (K := K) rfl hu) (pe_callB (k_len (K := K) rfl) rfl T.b_len boot_len (pa_cons (pv 1) pa_nil)) pe_int (nomark _))))) (pss_one ps_never) pss_nil)
  (pss_cons (ps_set (i := 2) sc_played.nd rfl (Or.inl rfl) (pe_makeQ D_Play (hm hr) (pa_cons (pv 0) (pa_cons (pe_ix (k_ixU (K := K) rfl hu) (pv 1) pe_int (fun _ _ => rfl)) pa_nil))))
  (pss_cons (ps_for PassesOwn.never rfl (ki_any (K := K) rfl (pe_slice (k_sl (K := K) rfl) (pv 1) (po_some pe_int) po_none)) (pg_name (i := 3) sc_played.nd rfl (Or.inl rfl))
  (pss_one (ps_expr (pe_methQ D_Play_go (hm hr) (pv 2) (pa_cons (pv 3) pa_nil)))))
  (pss_one (ps_ret (pv 2)))))), ?_⟩
    have hlen : 0 < tr.length := List.length_pos_iff.mpr hR.ne
    have l100 := hR.few
    walk_at "vc"
    refine ⟨by show 2 ≤ sizeLine; decide, fun tt htt => ?_⟩
    have s1 := Snew (L2.Same.refl H) (o := .tup [.ty "list", .ty "tuple"]) htt
    have ett : upd H tt (.tup [.ty "list", .ty "tuple"]) tt = some (.tup [.ty "list", .ty "tuple"]) := upd_same
    generalize upd H tt (.tup [.ty "list", .ty "tuple"]) = H1 at s1 ett ⊢
    have hA : Arg tt H1 (.ref l) (some (tr.map V.str)) := .lst (s1 _ _ hl) (ne_of_none hl htt) (fun v hv => by
      obtain ⟨s', hs', rfl⟩ := List.mem_map.mp hv
      exact Th.flat rfl (fun z e => by cases e; have := nameS_len (hW.ok.nm _ (hR.ins _ hs')); omega)) (by rw [List.length_map]; omega)
    walk_at "vc"
    refine hA.isi ett ?_
    walk_at "vc"
    refine ite2 (fun h => by cases h) fun _ => ?_
    walk_at "vc"
    refine vLenL (s1 _ _ hl) ?_
    rw [List.length_map]
    walk_at "vc"
    refine .inl (.inl (.inl ⟨rfl, rfl, ?_⟩))
    walk_at "vc"
    refine ite2 (fun h => ?_) fun _ => ?_
    · have h : eqV (V.int tr.length) (V.int 0) = true := h
      have h : ((tr.length : Nat) : Int) = 0 := by simpa [eqV] using h
      omega
    walk_at "vc"
    cases tr with
    | nil => exact absurd rfl hR.ne
    | cons a r =>
      have ha0 : atI ((a :: r).map V.str) 0 = some (.str a) := atI_nat (show ((a :: r).map V.str)[0]? = some (.str a) from rfl)
      refine .inl (vIxL (s1 _ _ hl) ha0 ?_)
      walk_at "vc"
      intro x dx hx0 hdx ndx
      have hx00 := s1.free hx0
      have sG : L2.Same H1 (upd (upd H1 dx (.own x)) x (.ins (cc 9) dx [])) := Snew (Snew (L2.Same.refl H1) hdx) (by rw [upd_ne ndx.symm]; exact hx0)
      have eG : upd (upd H1 dx (.own x)) x (.ins (cc 9) dx []) x = some (.ins (cc 9) dx []) := upd_same
      generalize upd (upd H1 dx (.own x)) x (.ins (cc 9) dx []) = G at sG eG ⊢
      have s2 := s1.trans sG
      refine ⟨x, dx, b, a, ss, ns, rfl, eG, hW.same s2, hR.ins a List.mem_cons_self, fun p H2 b2 hp0 hPl => ⟨rfl, ?_⟩⟩
      have hp00 := s2.free hp0
      have s3 : L2.Same H H2 := same_but s2 b2 hx00
      have ec1 : cutV ((a :: r).map V.str) (some 1) none = r.map V.str := by
        have := cutV_drop ((a :: r).map V.str) 1
        rw [← List.map_drop] at this
        exact this
      walk_at "vc"
      refine .inl ⟨l, _, rfl, SqL.of (s3 _ _ hl), fun d hd => ?_⟩
      rw [ec1]
      have s34 := Snew (L2.Same.refl H2) (o := .lst (r.map V.str)) hd
      have ed : upd H2 d (.lst (r.map V.str)) d = some (.lst (r.map V.str)) := upd_same
      have ndp : d ≠ p := fun e => by
        obtain ⟨_, _, z, _⟩ := hPl
        rw [e, z] at hd
        cases hd
      have s4 := s3.trans s34
      replace hPl := hPl.same s34
      generalize upd H2 d (.lst (r.map V.str)) = H4 at s4 ed hPl ⊢
      walk_at "vc"
      refine .inl ⟨⟨_, SqL.of ed⟩, for_list (K := K) (fun i σ H' => L2.Same H H' ∧ H' d = some (.lst (r.map V.str)) ∧ PlayAt (cc 9) cw H' x b p ss ns ((a :: r).take (i + 1)) ∧ ∃ x3, σ = [some (.ref b), some (.ref l), some (.ref x), x3]) ⟨s4, ed, hPl, none, rfl⟩ (fun i σ H' _ hp => SqL.of hp.2.1) (fun i y σ H5 hy hp => ?_) fun σ H5 hp => ?_⟩
      · obtain ⟨s5, ed5, hP5, x3, rfl⟩ := hp
        obtain ⟨v, gv, rfl⟩ := str_eq_list hy
        have hi : i < r.length := (List.getElem?_eq_some_iff.mp gv).1
        obtain ⟨z, gi⟩ : ∃ z, (a :: r)[i]? = some z := ⟨_, List.getElem?_eq_getElem (show i < (a :: r).length by rw [List.length_cons]; omega)⟩
        have gv' : (a :: r)[i + 1]? = some v := by rw [List.getElem?_cons_succ]; exact gv
        have hlast : ((a :: r).take (i + 1)).getLast? = some z := by
          rw [List.take_add_one, gi]
          exact List.getLast?_concat
        obtain ⟨dx5, hx5, hp5, _⟩ := id hP5
        have nxp : x ≠ p := ne_of hx5 hp5 (by intro z; cases z)
        walk_at "vc"
        refine ⟨x, dx5, _, rfl, hx5, lkp_no (by decide +kernel), ?_⟩
        walk_at "vc"
        refine ⟨x, b, p, ss, ns, _, z, v, rfl, hP5, by rw [List.length_take]; omega, hlast, hR.ins _ (List.mem_of_getElem? gi), hR.mv i z v gi gv', fun H6 b6 e6 => ?_⟩
        have s6 := same_but s5 b6 hp00
        refine ⟨s6, b6 _ _ ndp ed5, ⟨dx5, b6 _ _ nxp hx5, ?_, hW.same s6⟩, _, rfl⟩
        rw [e6, List.take_add_one (i := i + 1), gv']
        rfl
      · obtain ⟨s5, ed5, hP5, x3, rfl⟩ := hp
        rw [List.length_map, show (a :: r).take (r.length + 1) = a :: r from List.take_of_length_le (by rw [List.length_cons]; exact Nat.le_refl _)] at hP5
        walk_at "vc"
        exact q x p H5 s5 hx00 hp00 hP5
theorem ok_tw {f : Addr} {fd : FuncData} (F : Fun K "twin" "Play.twin" s_Play_twin f fd) (T : Txt K mg cc cw) (D_played : DefOk P w K mg base CX0 10 "played" ["web", "names"] (spPld cc cw)) : FnOk P w K mg base CX0 11 f fd ["self"] (spTw cc cw) := by
  refine F.ok sc_Play_twin (fun vs H Q E h => ?_) fun cdv A outer s H vs Q E hr h => ?_
  · obtain ⟨x, b, p, ss, ns, tr, rfl, _⟩ := h; rfl
  · obtain ⟨x, b, p, ss, ns, tr, rfl, ⟨dx, hx, hp, hW⟩, hR, q⟩ := h
    refine ⟨_, (pss_one (ps_ret (pe_def D_played (hm hr) pass0 (pa_cons (k_fldU (K := K) rfl (pv 0) rfl) (pa_cons (k_fldU (K := K) rfl (pv 0) rfl) pa_nil))))), ?_⟩
    walk_at "vc"
    refine .inl ⟨x, cc 9, dx, _, .ref b, rfl, hx, T.pcl, T.pb, lk_board, ?_⟩
    walk_at "vc"
    refine .inl ⟨x, cc 9, dx, _, .ref p, rfl, hx, T.pcl, T.pp, lk_path, ?_⟩
    walk_at "vc"
    exact ⟨b, p, ss, ns, tr, rfl, hW, hp, hR, q⟩
end
/- _law_moves: calls ['_law_tied']; cells ['_law_ties_here', '_law_trail'] -/
abbrev s_l_moves : Stmt := top 42
theorem sc_l_moves : FnScope ["_law_names_here", "_law_ties_here", "_law_trail"] ["_law_names_here", "_law_ties_here", "_law_trail"] (defScope s_l_moves) := ⟨rfl, rfl, rfl, by decide +kernel, rfl, by decide +kernel, by decide +kernel⟩
def mvL (ups : List (Str × Str)) (ss tr : List Str) (z : Str) : List Str := ss.filter fun o => !decide (o ∈ tr) && tiB ups z o
theorem mv_eq {ss : List Str} {ns : List Nat} {dps ups : List (Str × Str)} {tr : List Str} {z : Str} (hw : WOk ss ns) (ha : Adj ss ns dps) (ht : ∀ a b, tiB ups a b = tiB dps a b) (hz : z ∈ ss) : mvS ss ns tr z = mvL ups ss tr z := by
  have hix : ss[ss.idxOf z]? = some z := by rw [List.getElem?_eq_getElem (List.idxOf_lt_length_of_mem hz)]; exact congrArg some (List.getElem_idxOf _)
  unfold mvS mvL ngS
  rw [bes_of hw ha hix]
  unfold besOf
  rw [List.filter_filter]
  refine List.filter_congr fun o _ => ?_
  rw [ht]
  rfl
def spMv : Sp := fun vs H Q _ => ∃ (n l t : Addr) (ss : List Str) (ts : List Addr) (ups : List (Str × Str)) (tr : List Str) (z : Str), vs = [.ref n, .ref l, .ref t] ∧ H n = some (.lst (ss.map V.str)) ∧ ss.length ≤ 14 ∧ PL H l ts ups ∧ H t = some (.lst (tr.map V.str)) ∧ tr.getLast? = some z ∧ ∀ (r : Addr) (H' : Hp), L2.Same H H' → H r = none → H' r = some (.lst ((mvL ups ss tr z).map V.str)) → Q (.ref r) H'
section
variable {P : Program} {w : World} {K : W.Frag} {mg : Str → Option Value} {base : Heap} {cc : Nat → Addr} {cw : Addr}
theorem ok_mvL {f : Addr} {fd : FuncData} (F : Fun K "_law_moves" "_law_moves" s_l_moves f fd) (D_l_tied : DefOk P w K mg base CX0 1 "_law_tied" ["_law_ties_here", "_law_one", "_law_other"] spTd) : FnOk P w K mg base CX0 2 f fd ["_law_names_here", "_law_ties_here", "_law_trail"] spMv := by
  refine F.ok sc_l_moves (fun vs H Q E h => ?_) fun cdv A outer s H vs Q E hr h => ?_
  · obtain ⟨n, l, t, ss, ts, ups, tr, z, rfl, _⟩ := h; rfl
  · obtain ⟨n, l, t, ss, ts, ups, tr, z, rfl, hn, few, hl, ht, hz, q⟩ := h
    have hu := u100 hr
    refine ⟨_, (pss_one (ps_ret (pe_comp (sc := defScope s_l_moves) (XN := ["_law_names_here", "_law_ties_here", "_law_trail"]) ["_law_name", "_law_trail", "_law_ties_here"] 1 [2, 1] rfl rfl rfl (by decide +kernel) rfl (by decide +kernel)
   (ki_any (K := K) rfl (pv 0)) (fun _ _ _ _ => (pg_name (i := 0) (show (["_law_name", "_law_trail", "_law_ties_here"] : List Str).Nodup by decide +kernel) rfl (Or.inl rfl))) gk_name
   (fun _ _ _ _ => (pifs_one (PW.pt (pw_and (pt_cmpR (k_notinU (K := K) rfl hu) (pv 0) (pv 1) (by with_unfolding_all rfl)) (pw_and1 (pt_val (pe_def D_l_tied (hm hr) pass0 (pa_cons (pv 2) (pa_cons (pe_ix (k_ixU (K := K) rfl hu) (pv 1) (pe_un un_neg pe_int) (fun _ _ => rfl)) (pa_cons (pv 0) pa_nil))))))))))
   (fun _ _ _ _ => (pv 0))))), ?_⟩
    walk_at "vc"
    refine .inl ⟨⟨_, SqL.of hn⟩, comp_list (K := K) (fun m ys H' => L2.Same H H' ∧ ys = (mvL ups (ss.take m) tr z).map V.str) ⟨L2.Same.refl H, rfl⟩ (fun m ys H' _ hp => SqL.of (hp.1 _ _ hn)) (fun m y ys H' hy hp' => ?_) fun ys H' hp' => ?_⟩
    · obtain ⟨s1, rfl⟩ := hp'
      obtain ⟨o, gm, rfl⟩ := str_eq_list hy
      have htk : ss.take (m + 1) = ss.take m ++ [o] := by rw [List.take_add_one, gm]; rfl
      have fewY : ((mvL ups (ss.take m) tr z).map V.str).length < sizeLine := by
        rw [List.length_map]
        exact small1000 (Nat.le_trans (List.length_filter_le _ _) (by rw [List.length_take]; omega))
      have enx : mvL ups (ss.take (m + 1)) tr z = mvL ups (ss.take m) tr z ++ (if (!decide (o ∈ tr) && tiB ups z o) = true then [o] else []) := by
        unfold mvL
        rw [htk, List.filter_append, List.filter_cons]
        rfl
      rw [enx, List.map_append]
      walk_at "vc"
      refine .inl ⟨t, _, rfl, .inl (SqL.of (s1 _ _ ht)), rfl, flat_strs _, ?_⟩
      rw [inV_str]
      walk_at "vc"
      refine ite2 (fun h => ?_) fun h => ?_
      · have h : (!decide (o ∈ tr)) = true := h
        rw [h]
        walk_at "vc"
        refine vU ?_
        refine .inl (vIxL (s1 _ _ ht) (last_at hz) ?_)
        walk_at "vc"
        refine ⟨l, ts, ups, z, o, rfl, hl.same s1, fun H2 s2 => ?_⟩
        walk_at "vc"
        refine ite2 (fun h2 => ?_) fun h2 => ?_
        · walk_at "vc"
          refine ⟨fewY, s1.trans s2, ?_⟩
          rw [h2]
          rfl
        · refine ⟨s1.trans s2, ?_⟩
          have h2 : tiB ups z o = false := by simpa using h2
          rw [h2]
          simp
      · have h : (!decide (o ∈ tr)) = false := by
          have h : ¬ (!decide (o ∈ tr)) = true := h
          simpa using h
        rw [h]
        refine ite2 (fun h => by cases h) fun _ => ?_
        exact ⟨s1, by simp⟩
    · obtain ⟨s1, rfl⟩ := hp'
      have etl : ss.take (ss.map V.str).length = ss := by rw [List.length_map, List.take_length]
      rw [etl]
      exact ⟨by rw [List.length_map]; exact Nat.le_of_lt (small1000 (Nat.le_trans (List.length_filter_le _ _) (by omega))), fun r hr0 => q r _ (Snew s1 hr0) (s1.free hr0) upd_same⟩
end
theorem eqD_strs {K : W.Frag} {H : Hp} {m : Nat} {ss : List Str} : ∀ x ∈ ss.map V.str, EqD K H m x x true := fun x hx => by
  obtain ⟨s, _, rfl⟩ := List.mem_map.mp hx
  have e := EqD.flat (K := K) (H := H) (n := m) (x := .str s) (y := .str s) rfl rfl
  rw [eqV_strD, decide_eq_true rfl] at e
  exact e
theorem eqD_ofT {K : W.Frag} {H : Hp} {n : Nat} {a b : Addr} (h : EqT K H n a b true) : EqD K H n (.ref a) (.ref b) true := by
  by_cases e : a = b
  · subst e; exact .self
  · exact .deep h e
theorem eqT_tt {K : W.Frag} {H : Hp} {n : Nat} {a b : Addr} {xs ys : List V} (ha : H a = some (.tup xs)) (hb : H b = some (.tup ys)) (hl : xs.length = ys.length) (he : ∀ (j : Nat) x y, xs[j]? = some x → ys[j]? = some y → EqD K H n x y true) : EqT K H (n + 1) a b true := by
  have z := EqT.tup (K := K) (H := H) (n := n) (e := fun _ => true) (SqT.of ha) (SqT.of hb) he
  rw [hl, Nat.min_self, beq_self_eq_true, Bool.and_true, all_true] at z
  exact z
structure Duo (ss : List Str) (ns : List Nat) (dps ups : List (Str × Str)) : Prop where
  wg : WG ss ns dps
  ti : ∀ a b, tiB ups a b = tiB dps a b
theorem eqT_ls {K : W.Frag} {H : Hp} {a b : Addr} {ss : List Str} (ha : H a = some (.lst (ss.map V.str))) (hb : H b = some (.lst (ss.map V.str))) : EqT K H 1 a b true := by
  have z := EqT.lst (K := K) (H := H) (n := 0) (e := fun _ => true) (SqL.of ha) (SqL.of hb) rfl fun j x y h1 h2 => by
    rw [h1] at h2
    cases h2
    exact eqD_strs x (List.mem_of_getElem? h1)
  rw [all_true] at z
  exact z
theorem vIxP {K : W.Frag} {H : Hp} {Q : VK} {p : Addr} {ss : List Str} {i : Int} (hp : H p = some (.lst (ss.map V.str))) (h0 : 0 ≤ i) (h1 : i < ss.length) (h : ∀ s ∈ ss, Q (.str s) H) : rIxU K (.ref p) (.int i) H Q := by
  obtain ⟨y, iy, hy⟩ := atI_lt (xs := ss.map V.str) h0 (by rw [List.length_map]; exact h1)
  obtain ⟨s, hs, rfl⟩ := List.mem_map.mp (List.mem_of_getElem? hy)
  exact .inl (vIxL hp iy (h s hs))
theorem duo_ti {ss : List Str} {tps ups : List (Str × Str)} (hT : TOk ss tps) (sh : Shuf tps ups) (a b : Str) : tiB ups a b = tiB (risOf ss tps ss) a b := by
  unfold tiB
  rw [Bool.eq_iff_iff]
  simp only [Bool.or_eq_true, decide_eq_true_iff]
  rw [sh.mem a b, mem_ris hT a b, mem_ris hT b a]
theorem row_one {ss : List Str} {ns : List Nat} {st : Str} (h : st ∈ ss) : RowOk ss ns [st] := ⟨by simp, by show 1 ≤ 100; decide, fun s hs => by rw [List.mem_singleton.mp hs]; exact h, fun i z v _ h => by simp at h⟩
theorem RowOk.snoc {ss : List Str} {ns : List Nat} {tr : List Str} {z v : Str} (h : RowOk ss ns tr) (hl : tr.length < 100) (hz : tr.getLast? = some z) (hv : v ∈ mvS ss ns tr z) (hs : v ∈ ss) : RowOk ss ns (tr ++ [v]) := by
  refine ⟨by simp, by rw [List.length_append]; show tr.length + 1 ≤ 100; omega, fun s hs' => ?_, fun i y u g1 g2 => ?_⟩
  · rcases List.mem_append.mp hs' with q | q
    · exact h.ins s q
    · rw [List.mem_singleton.mp q]; exact hs
  · have hi : i + 1 < (tr ++ [v]).length := (List.getElem?_eq_some_iff.mp g2).1
    rw [List.length_append] at hi
    have hi : i + 1 < tr.length + 1 := hi
    rw [List.getElem?_append_left (by omega)] at g1
    rw [List.take_append_of_le_length (by omega)]
    by_cases e : i + 1 < tr.length
    · rw [List.getElem?_append_left e] at g2
      exact h.mv i y u g1 g2
    · have el : i + 1 = tr.length := by omega
      rw [List.getElem?_append_right (by omega), el, Nat.sub_self] at g2
      cases g2
      rw [List.getLast?_eq_getElem?, ← el, Nat.add_sub_cancel, g1] at hz
      cases hz
      rw [el, List.take_length]
      exact hv
/- is_whole: calls []; cells [] -/
abbrev s_is_whole : Stmt := top 13
theorem sc_is_whole : FnScope ["thing"] ["thing"] (defScope s_is_whole) := ⟨rfl, rfl, rfl, by decide +kernel, rfl, by decide +kernel, by decide +kernel⟩
/- is_within: calls ['is_whole']; cells [] -/
abbrev s_is_within : Stmt := top 14
theorem sc_is_within : FnScope ["thing", "low", "high"] ["thing", "low", "high"] (defScope s_is_within) := ⟨rfl, rfl, rfl, by decide +kernel, rfl, by decide +kernel, by decide +kernel⟩
/- _law_whole: calls []; cells [] -/
abbrev s_l_whole : Stmt := top 45
theorem sc_l_whole : FnScope ["_law_thing"] ["_law_thing"] (defScope s_l_whole) := ⟨rfl, rfl, rfl, by decide +kernel, rfl, by decide +kernel, by decide +kernel⟩
def wholeV : V → Bool
  | .int _ => true
  | _ => false
def withinV (lo hi : Int) : V → Bool
  | .int i => decide (lo ≤ i) && decide (i ≤ hi)
  | _ => false
def spWh : Sp := fun vs H Q _ => ∃ (q : Addr) (k : Nat) (v : V), vs = [v] ∧ Th q H k v ∧ Q (.bl (wholeV v)) H
def spIn : Sp := fun vs H Q _ => ∃ (q : Addr) (k : Nat) (v : V) (lo hi : Int), vs = [v, .int lo, .int hi] ∧ Th q H k v ∧ Q (.bl (withinV lo hi v)) H
section
variable {P : Program} {w : World} {K : W.Frag} {mg : Str → Option Value} {base : Heap} {cc : Nat → Addr} {cw : Addr}
theorem Th.whole {q : Addr} {H : Hp} {k : Nat} {v : V} (h : Th q H k v) : ∃ t, TyOf K H v (.type t) ∧ W.kitOne K (.type t) (.type "int") = some (isaT t "int") ∧ W.kitOne K (.type t) (.type "bool") = some (isaT t "bool") ∧ wholeV v = (isaT t "int" && !isaT t "bool") := by
  have go : ∀ t ∈ ["NoneType", "bool", "int", "str", "list", "tuple", "dict"], W.kitOne K (.type t) (.type "int") = some (isaT t "int") ∧ W.kitOne K (.type t) (.type "bool") = some (isaT t "bool") := fun t ht => ⟨kit_tab K t ht "int" (by simp), kit_tab K t ht "bool" (by simp)⟩
  cases h with
  | flat f l =>
    cases v with
    | non => exact ⟨"NoneType", .non, (go _ (by simp)).1, (go _ (by simp)).2, rfl⟩
    | bl x => exact ⟨"bool", .bl x, (go _ (by simp)).1, (go _ (by simp)).2, rfl⟩
    | int x => exact ⟨"int", .int x, (go _ (by simp)).1, (go _ (by simp)).2, rfl⟩
    | str x => exact ⟨"str", .str x, (go _ (by simp)).1, (go _ (by simp)).2, rfl⟩
    | _ => cases f
  | lst e ne h l => exact ⟨"list", .lst e, (go _ (by simp)).1, (go _ (by simp)).2, rfl⟩
  | tup e ne h l => exact ⟨"tuple", .tup e, (go _ (by simp)).1, (go _ (by simp)).2, rfl⟩
  | dct e ne => exact ⟨"dict", .dK e, (go _ (by simp)).1, (go _ (by simp)).2, rfl⟩
theorem ok_wh {f : Addr} {fd : FuncData} (F : Fun K "is_whole" "is_whole" s_is_whole f fd) (T : Txt K mg cc cw) : FnOk P w K mg base CX0 1 f fd ["thing"] spWh := by
  refine F.ok sc_is_whole (fun vs H Q E h => ?_) fun cdv A outer s H vs Q E hr h => ?_
  · obtain ⟨q, k, v, rfl, _⟩ := h; rfl
  · obtain ⟨q, k, v, rfl, hv, hq⟩ := h
    have hu := u100 hr
    obtain ⟨t, ty, k1, k2, ew⟩ := hv.whole (K := K)
    rw [ew] at hq
    refine ⟨_, (pss_one (ps_ret (pe_and (pe_callB (k_isiU (K := K) rfl) rfl T.b_isinstance boot_isinstance (pa_cons (pv 0) (pa_cons (pe_bltn (v := .ty "int") rfl T.b_int boot_int rfl) pa_nil))) (pe_one (pe_not (pe_callB (k_isiU (K := K) rfl) rfl T.b_isinstance boot_isinstance (pa_cons (pv 0) (pa_cons (pe_bltn (v := .ty "bool") rfl T.b_bool boot_bool rfl) pa_nil)))))))), ?_⟩
    walk_at "vc"
    refine vIsiU (.inl ty) rfl k1 ?_
    walk_at "vc"
    cases e1 : isaT t "int" with
    | false =>
      rw [e1] at hq
      exact ite2 (fun h => by cases h) fun _ => hq
    | true =>
      rw [e1] at hq
      refine iteT ?_
      walk_at "vc"
      refine vIsiU (.inl ty) rfl k2 ?_
      exact ⟨_, rfl, hq⟩
theorem ok_lwh {f : Addr} {fd : FuncData} (F : Fun K "_law_whole" "_law_whole" s_l_whole f fd) (T : Txt K mg cc cw) : FnOk P w K mg base CX0 1 f fd ["_law_thing"] spWh := by
  refine F.ok sc_l_whole (fun vs H Q E h => ?_) fun cdv A outer s H vs Q E hr h => ?_
  · obtain ⟨q, k, v, rfl, _⟩ := h; rfl
  · obtain ⟨q, k, v, rfl, hv, hq⟩ := h
    have hu := u100 hr
    obtain ⟨t, ty, k1, k2, ew⟩ := hv.whole (K := K)
    rw [ew] at hq
    refine ⟨_, (pss_one (ps_ret (pe_and (pe_callB (k_isiU (K := K) rfl) rfl T.b_isinstance boot_isinstance (pa_cons (pv 0) (pa_cons (pe_bltn (v := .ty "int") rfl T.b_int boot_int rfl) pa_nil))) (pe_one (pe_not (pe_callB (k_isiU (K := K) rfl) rfl T.b_isinstance boot_isinstance (pa_cons (pv 0) (pa_cons (pe_bltn (v := .ty "bool") rfl T.b_bool boot_bool rfl) pa_nil)))))))), ?_⟩
    walk_at "vc"
    refine vIsiU (.inl ty) rfl k1 ?_
    walk_at "vc"
    cases e1 : isaT t "int" with
    | false =>
      rw [e1] at hq
      exact ite2 (fun h => by cases h) fun _ => hq
    | true =>
      rw [e1] at hq
      refine iteT ?_
      walk_at "vc"
      refine vIsiU (.inl ty) rfl k2 ?_
      exact ⟨_, rfl, hq⟩
theorem ok_in {f : Addr} {fd : FuncData} (F : Fun K "is_within" "is_within" s_is_within f fd) (D_is_whole : DefOk P w K mg base CX0 1 "is_whole" ["thing"] spWh) : FnOk P w K mg base CX0 2 f fd ["thing", "low", "high"] spIn := by
  refine F.ok sc_is_within (fun vs H Q E h => ?_) fun cdv A outer s H vs Q E hr h => ?_
  · obtain ⟨q, k, v, lo, hi, rfl, _⟩ := h; rfl
  · obtain ⟨q, k, v, lo, hi, rfl, hv, hq⟩ := h
    refine ⟨_, (pss_one (ps_ret (pe_and (pe_def D_is_whole (hm hr) pass0 (pa_cons (pv 0) pa_nil)) (pe_one (pe_chain u_le u_le (pv 1) (pv 0) (pv 2)))))), ?_⟩
    walk_at "vc"
    refine ⟨q, k, v, rfl, hv, ?_⟩
    walk_at "vc"
    cases v with
    | int i =>
      refine iteT ?_
      walk_at "vc"
      have hq : Q (.bl (decide (lo ≤ i) && decide (i ≤ hi))) H := hq
      cases e1 : decide (lo ≤ i) with
      | false =>
        rw [e1] at hq
        exact ite2 (fun h => by cases h) fun _ => hq
      | true =>
        rw [e1] at hq
        refine iteT ?_
        walk_at "vc"
        exact hq
    | _ => exact ite2 (fun h => by cases h) fun _ => hq
end
/- _law_rows: calls ['_law_moves', '_law_rows']; cells ['_law_name'] -/
abbrev s_l_rows : Stmt := top 43
theorem sc_l_rows : FnScope ["_law_names_here", "_law_ties_here", "_law_trail", "_law_many", "_law_found", "_law_name"] ["_law_names_here", "_law_ties_here", "_law_trail", "_law_many"] (defScope s_l_rows) := ⟨rfl, rfl, rfl, by decide +kernel, rfl, by decide +kernel, by decide +kernel⟩
def rwN (ups : List (Str × Str)) (ss : List Str) : Nat → List Str → List (List Str)
  | 0, _ => [[]]
  | m + 1, tr => [] :: (mvL ups ss tr (tr.getLast?.getD "")).flatMap fun v => (rwN ups ss m (tr ++ [v])).map (v :: ·)
def cnN (ups : List (Str × Str)) (ss : List Str) : Nat → List Str → Nat
  | 0, _ => 1
  | m + 1, tr => 1 + ((mvL ups ss tr (tr.getLast?.getD "")).map fun v => cnN ups ss m (tr ++ [v])).sum
def LsAt (H : Hp) (a : Addr) (row : List Str) : Prop := H a = some (.lst (row.map V.str))
theorem sum_map_le {α : Type} (f : α → Nat) (b : Nat) : ∀ l : List α, (∀ x ∈ l, f x ≤ b) → (l.map f).sum ≤ l.length * b
  | [], _ => by simp
  | x :: r, h => by
    rw [List.map_cons, List.sum_cons, List.length_cons, Nat.add_mul]
    have := sum_map_le f b r fun y hy => h y (List.mem_cons_of_mem _ hy)
    have := h x List.mem_cons_self
    omega
theorem mvL_len {ups : List (Str × Str)} {ss tr : List Str} {z : Str} (h : ss.length ≤ 14) : (mvL ups ss tr z).length ≤ 14 := Nat.le_trans (List.length_filter_le _ _) h
theorem rwN_len {ups : List (Str × Str)} {ss : List Str} (h : ss.length ≤ 14) : ∀ m tr, (rwN ups ss m tr).length ≤ 15 ^ m
  | 0, tr => by simp [rwN]
  | m + 1, tr => by
    have ih := rwN_len (ups := ups) h m
    show (_ :: _).length ≤ _
    rw [List.length_cons, List.flatMap_def, List.length_flatten, List.map_map]
    have h1 := sum_map_le (List.length ∘ fun v => (rwN ups ss m (tr ++ [v])).map (v :: ·)) (15 ^ m) (mvL ups ss tr (tr.getLast?.getD "")) fun v _ => by show (List.map _ _).length ≤ _; rw [List.length_map]; exact ih _
    have h2 : (mvL ups ss tr (tr.getLast?.getD "")).length * 15 ^ m ≤ 14 * 15 ^ m := Nat.mul_le_mul_right _ (mvL_len h)
    have h3 : 0 < 15 ^ m := Nat.pow_pos (by decide)
    rw [Nat.pow_succ]
    omega
theorem rwN_row {ups : List (Str × Str)} {ss : List Str} : ∀ m tr, ∀ row ∈ rwN ups ss m tr, row.length ≤ m
  | 0, tr, row, h => by rw [List.mem_singleton.mp h]; exact Nat.le_refl _
  | m + 1, tr, row, h => by
    rcases List.mem_cons.mp h with rfl | h
    · exact Nat.zero_le _
    · obtain ⟨v, _, h⟩ := List.mem_flatMap.mp h
      obtain ⟨r, hr, rfl⟩ := List.mem_map.mp h
      have := rwN_row m _ r hr
      rw [List.length_cons]
      omega
def NwAt (H0 : Hp) (r : Addr) (H : Hp) (a : Addr) (row : List Str) : Prop := H0 a = none ∧ a ≠ r ∧ H a = some (.lst (row.map V.str))
def spLRw (m : Nat) : Sp := fun vs H Q _ => ∃ (n l t : Addr) (ss : List Str) (ts : List Addr) (ups : List (Str × Str)) (tr : List Str) (z : Str), vs = [.ref n, .ref l, .ref t, .int m] ∧ H n = some (.lst (ss.map V.str)) ∧ ss.length ≤ 14 ∧ PL H l ts ups ∧ H t = some (.lst (tr.map V.str)) ∧ tr.length + m ≤ 50 ∧ tr.getLast? = some z ∧
  ∀ (r : Addr) (as : List Addr) (H' : Hp), L2.Same H H' → H r = none → H' r = some (.lst (as.map V.ref)) → All2 (NwAt H r H') as (rwN ups ss m tr) → Q (.ref r) H'
section
variable {P : Program} {w : World} {K : W.Frag} {mg : Str → Option Value} {base : Heap} {cc : Nat → Addr} {cw : Addr}
theorem prep_comp {H6 : Hp} {r' : Addr} {as' : List Addr} {rows : List (List Str)} {v : Str} {σc : L2.St} {Q' : VK} (hσ : σc = [none, some (.str v)]) (hr' : H6 r' = some (.lst (as'.map V.ref))) (hA : All2 (LsAt H6) as' rows) (hlen : as'.length ≤ 5000) (hrow : ∀ row ∈ rows, row.length ≤ 50)
    (q : ∀ bs H7 ex, L2.Same H6 H7 → All2 (fun b row => H6 b = none ∧ b ≠ ex ∧ LsAt H7 b row) bs (rows.map (v :: ·)) → H6 ex = none → H7 ex = some (.lst (bs.map V.ref)) → Q' (.ref ex) H7) : CompW (Itl K r') (gName 0) tYes (tOp (rAddU K) (tLst (tCons (tVar 1) tNil)) (tVar 0)) σc H6 Q' := by
  subst hσ
  refine comp_list (K := K) (fun m ys H' => L2.Same H6 H' ∧ ∃ bs : List Addr, ys = bs.map V.ref ∧ bs.length = m ∧ All2 (fun b row => H6 b = none ∧ LsAt H' b row) bs ((rows.take m).map (v :: ·))) ⟨L2.Same.refl H6, [], rfl, rfl, ⟨rfl, fun k a b h => by simp at h⟩⟩ (fun m ys H' _ hp => SqL.of (hp.1 _ _ hr')) (fun m y ys H' hy hp => ?_) fun ys H' hp => ?_
  · obtain ⟨s7, bs, rfl, hbl, hB⟩ := hp
    rw [List.getElem?_map] at hy
    cases ha : as'[m]? with
    | none => rw [ha] at hy; cases hy
    | some a =>
      rw [ha] at hy
      cases hy
      have hm : m < rows.length := by rw [← hA.len]; exact (List.getElem?_eq_some_iff.mp ha).1
      obtain ⟨row, hrw⟩ : ∃ row, rows[m]? = some row := ⟨_, List.getElem?_eq_getElem hm⟩
      have haR := hA.at_ m a row ha hrw
      have hrl := hrow row (List.mem_of_getElem? hrw)
      have hal := hA.len
      walk_at "vc"
      refine iteT ?_
      walk_at "vc"
      refine ⟨by show 1 ≤ sizeLine; decide, fun e he => ?_⟩
      have s78 := Snew (L2.Same.refl H') (o := .lst [.str v]) he
      have ee : upd H' e (.lst [.str v]) e = some (.lst [.str v]) := upd_same
      generalize upd H' e (.lst [.str v]) = H8 at s78 ee ⊢
      walk_at "vc"
      refine .inl ⟨e, a, _, _, rfl, rfl, ee, s78 _ _ (s7 _ _ haR), Nat.le_of_lt (small1000 (by rw [List.length_map]; show 1 + row.length ≤ 1000; omega)), fun g hg => ?_⟩
      have s89 := Snew (L2.Same.refl H8) (o := .lst ((v :: row).map V.str)) hg
      have egg : upd H8 g (.lst ((v :: row).map V.str)) g = some (.lst ((v :: row).map V.str)) := upd_same
      have s79 := s78.trans s89
      have s9 := s7.trans s79
      have htk : rows.take (m + 1) = rows.take m ++ [row] := by rw [List.take_add_one, hrw]; rfl
      refine ⟨by rw [List.length_map, hbl]; exact Nat.lt_of_le_of_lt (show m ≤ 5000 by omega) (by decide), s9, bs ++ [g], by rw [List.map_append]; rfl, by rw [List.length_append, hbl]; rfl, ?_⟩
      rw [htk, List.map_append]
      refine All2.app (hB.mono fun _ _ z => ⟨z.1, s79 _ _ z.2⟩) ⟨rfl, fun k a b h1 h2 => ?_⟩
      match k, h1, h2 with
      | 0, h1, h2 => cases h1; cases h2; exact ⟨s7.free (s78.free hg), egg⟩
  · obtain ⟨s7, bs, rfl, hbl, hB⟩ := hp
    have hal := hA.len
    rw [List.length_map, hal, List.take_length] at hB
    rw [List.length_map] at hbl
    refine ⟨by rw [List.length_map]; exact Nat.le_trans (show _ ≤ 5000 by omega) (by decide), fun ex hex => ?_⟩
    have s8 := Snew (L2.Same.refl H') (o := .lst (bs.map V.ref)) hex
    refine q bs _ ex (s7.trans s8) (hB.mono fun b row z => ⟨z.1, fun e => ?_, s8 _ _ z.2⟩) (s7.free hex) upd_same
    have z2 := z.2
    unfold LsAt at z2
    rw [e, hex] at z2
    cases z2
theorem ok_lrw {f : Addr} {fd : FuncData} (F : Fun K "_law_rows" "_law_rows" s_l_rows f fd) (m : Nat) (hm : m ≤ 3) (sp' : Sp) (hsp : 0 < m → sp' = spLRw (m - 1)) (D_l_moves : DefOk P w K mg base CX0 2 "_law_moves" ["_law_names_here", "_law_ties_here", "_law_trail"] spMv) (D_l_rows : DefOk P w K mg base CX0 (m + 2) "_law_rows" ["_law_names_here", "_law_ties_here", "_law_trail", "_law_many"] sp') : FnOk P w K mg base CX0 (m + 3) f fd ["_law_names_here", "_law_ties_here", "_law_trail", "_law_many"] (spLRw m) := by
  refine F.ok sc_l_rows (fun vs H Q E h => ?_) fun cdv A outer s H vs Q E hr h => ?_
  · obtain ⟨n, l, t, ss, ts, ups, tr, z, rfl, _⟩ := h; rfl
  · obtain ⟨n, l, t, ss, ts, ups, tr, z, rfl, hn, few, hl, ht, l10, hz, q⟩ := h
    have hu := u100 hr
    refine ⟨_, (pss_cons (ps_set (i := 4) sc_l_rows.nd rfl (Or.inl rfl) (pe_lst (pa_cons (pe_lst pa_nil) pa_nil)))
  (pss_cons (ps_if (pt_cmpR op_gt (pv 3) pe_int (nomark _)) (pss_one (ps_for PassesOwn.never rfl (ki_any (K := K) rfl (pe_def D_l_moves (hr.mono (by omega)) pass0 (pa_cons (pv 0) (pa_cons (pv 1) (pa_cons (pv 2) pa_nil))))) (pg_name (i := 5) sc_l_rows.nd rfl (Or.inr rfl))
  (pss_one (ps_expr (k_bm (K := K) rfl PySem.F.plainAttrs_list PySem.F.slot_list_extend PySem.F.type_list_extend mtR_extend (pv 4) (pa_cons (pe_comp (sc := defScope s_l_rows) (XN := ["_law_names_here", "_law_ties_here", "_law_trail", "_law_many", "_law_found", "_law_name"]) ["_law_row", "_law_name"] 1 [5] rfl rfl rfl (by decide +kernel) rfl (by decide +kernel)
   (ki_any (K := K) rfl (pe_def D_l_rows (hr.mono (by omega)) pass0 (pa_cons (pv 0) (pa_cons (pv 1) (pa_cons (pe_op (k_add (K := K) rfl) (pv 2) (pe_lst (pa_cons (pv 5) pa_nil))) (pa_cons (pe_op op_sub (pv 3) pe_int) pa_nil)))))) (fun _ _ _ _ => (pg_name (i := 0) (show (["_law_row", "_law_name"] : List Str).Nodup by decide +kernel) rfl (Or.inl rfl))) gk_name
   (fun _ _ _ _ => pifs_nil)
   (fun _ _ _ _ => (pe_op (k_add (K := K) rfl) (pe_lst (pa_cons (pv 1) pa_nil)) (pv 0)))) pa_nil)))))) pss_nil)
  (pss_one (ps_ret (pv 4))))), ?_⟩
    have ez : tr.getLast?.getD "" = z := by rw [hz]; rfl
    walk_at "vc"
    refine ⟨by decide, fun e0 he0 => ?_⟩
    have s01 := Snew (L2.Same.refl H) (o := .lst []) he0
    have ee0 : upd H e0 (.lst []) e0 = some (.lst (([] : List Str).map V.str)) := upd_same
    generalize upd H e0 (.lst []) = H0 at s01 ee0 ⊢
    walk_at "vc"
    refine ⟨by show 1 ≤ sizeLine; decide, fun r hr0' => ?_⟩
    have hr0 := s01.free hr0'
    have ner : e0 ≠ r := fun e => by rw [← e, ee0] at hr0'; cases hr0'
    have s1 := Snew s01 (o := .lst [.ref e0]) hr0'
    have s011 := Snew (L2.Same.refl H0) (o := .lst [.ref e0]) hr0'
    have er : upd H0 r (.lst [.ref e0]) r = some (.lst [.ref e0]) := upd_same
    replace ee0 := s011 _ _ ee0
    generalize upd H0 r (.lst [.ref e0]) = H1 at s1 er ee0 ⊢
    walk_at "vc"
    cases m with
    | zero =>
      refine ite2 (fun h => absurd h (by decide)) fun _ => ?_
      walk_at "vc"
      refine q r [e0] H1 s1 hr0 er ⟨rfl, fun k a row h1 h2 => ?_⟩
      match k, h1, h2 with
      | 0, h1, h2 => cases h1; cases h2; exact ⟨he0, ner, ee0⟩
    | succ k =>
      have hsp := hsp (Nat.succ_pos k)
      rw [Nat.add_sub_cancel] at hsp
      subst hsp
      refine ite2 (fun _ => ?_) fun h => absurd (decide_eq_true (by omega)) h
      walk_at "vc"
      refine ⟨n, l, t, ss, ts, ups, tr, z, rfl, s1 _ _ hn, few, hl.same s1, s1 _ _ ht, hz, fun d H2 s12 hd0 hd => ?_⟩
      have ndr : d ≠ r := fun e => by rw [e, er] at hd0; cases hd0
      have s2 := s1.trans s12
      have lmv := mvL_len (ups := ups) (tr := tr) (z := z) few
      have eqr : rwN ups ss (k + 1) tr = [] :: (mvL ups ss tr z).flatMap fun v => (rwN ups ss k (tr ++ [v])).map (v :: ·) := by
        show _ :: _ = _
        rw [ez]
      rw [eqr] at q
      generalize mvL ups ss tr z = mv at hd lmv q
      walk_at "vc"
      refine .inl ⟨⟨_, SqL.of hd⟩, for_list (K := K) (fun i σ H' => L2.Same H H' ∧ H' d = some (.lst (mv.map V.str)) ∧ ∃ (as : List Addr) (x5 : Option V), σ = [some (.ref n), some (.ref l), some (.ref t), some (.int ((k + 1 : Nat) : Int)), some (.ref r), x5] ∧ H' r = some (.lst (as.map V.ref)) ∧ All2 (NwAt H r H') as ([] :: (mv.take i).flatMap fun v => (rwN ups ss k (tr ++ [v])).map (v :: ·)))
        ⟨s2, hd, [e0], none, rfl, s12 _ _ er, ⟨rfl, fun k a row h1 h2 => ?_⟩⟩ (fun i σ H' _ hp => SqL.of hp.2.1) (fun i y σ H3 hy hp => ?_) fun σ H3 hp => ?_⟩
      · match k, h1, h2 with
        | 0, h1, h2 => cases h1; cases h2; exact ⟨he0, ner, s12 _ _ ee0⟩
      · obtain ⟨s3, ed3, as, x5, rfl, er3, hA⟩ := hp
        obtain ⟨v, gv, rfl⟩ := str_eq_list hy
        have hi : i < mv.length := (List.getElem?_eq_some_iff.mp gv).1
        have htk : mv.take (i + 1) = mv.take i ++ [v] := by rw [List.take_add_one, gv]; rfl
        walk_at "vc"
        refine ⟨.inl ⟨rfl, _, SqL.of er3⟩, ?_⟩
        walk_at "vc"
        refine ⟨by show 1 ≤ sizeLine; decide, fun e he => ?_⟩
        have s34 := Snew (L2.Same.refl H3) (o := .lst [.str v]) he
        have ee : upd H3 e (.lst [.str v]) e = some (.lst [.str v]) := upd_same
        generalize upd H3 e (.lst [.str v]) = H4 at s34 ee ⊢
        refine .inl ⟨t, e, _, _, rfl, rfl, s34 _ _ (s3 _ _ ht), ee, Nat.le_trans (show _ ≤ 1000 by rw [List.length_map]; show tr.length + 1 ≤ 1000; omega) (by decide), fun g hg => ?_⟩
        have eg0 : tr.map V.str ++ [V.str v] = (tr ++ [v]).map V.str := by rw [List.map_append]; rfl
        rw [eg0]
        have s45 := Snew (L2.Same.refl H4) (o := .lst ((tr ++ [v]).map V.str)) hg
        have egg : upd H4 g (.lst ((tr ++ [v]).map V.str)) g = some (.lst ((tr ++ [v]).map V.str)) := upd_same
        generalize upd H4 g (.lst ((tr ++ [v]).map V.str)) = H5 at s45 egg ⊢
        have s35 := s34.trans s45
        have s5 := s3.trans s35
        walk_at "vc"
        rw [show ((((k + 1 : Nat) : Int)) - 1) = (k : Int) by omega]
        refine ⟨n, l, g, ss, ts, ups, tr ++ [v], v, rfl, s5 _ _ hn, few, hl.same s5, egg, by rw [List.length_append]; show tr.length + 1 + k ≤ 50; omega, List.getLast?_concat, fun r' as' H6 s56 hr'0 hr' hA' => ?_⟩
        have s36 := s35.trans s56
        have s6 := s5.trans s56
        have er6 := s36 _ _ er3
        have hl1 := hA.len
        have hl2 := hA'.len
        have hl3 := rwN_len (ups := ups) few k (tr ++ [v])
        have h15 : 15 ^ k ≤ 15 ^ 2 := Nat.pow_le_pow_right (by decide) (by omega)
        have hl4 : ((mv.take i).flatMap fun v => (rwN ups ss k (tr ++ [v])).map (v :: ·)).length ≤ 14 * 15 ^ 2 := by
          rw [List.flatMap_def, List.length_flatten, List.map_map]
          have h1 := sum_map_le (List.length ∘ fun v => (rwN ups ss k (tr ++ [v])).map (v :: ·)) (15 ^ 2) (mv.take i) fun v _ => by show (List.map _ _).length ≤ _; rw [List.length_map]; exact Nat.le_trans (rwN_len few k _) h15
          have h2 : (mv.take i).length * 15 ^ 2 ≤ 14 * 15 ^ 2 := Nat.mul_le_mul_right _ (by rw [List.length_take]; omega)
          omega
        refine .inl ⟨⟨_, SqL.of hr'⟩, prep_comp rfl hr' (hA'.mono fun _ _ z => z.2.2) (by omega) (fun row hrow => by have := rwN_row k _ row hrow; omega) fun bs H7 ex s67 hB hex0 hex => ?_⟩
        have s37 := s36.trans s67
        have s7 := s6.trans s67
        have er7 := s67 _ _ er6
        rw [List.length_cons] at hl1
        have hbl := hB.len
        rw [List.length_map] at hbl
        walk_at "vc"
        refine ⟨r, ex, _, _, rfl, rfl, er7, hex, Nat.le_trans (show _ ≤ 100000 by rw [List.length_map, List.length_map]; omega) (by decide), ?_⟩
        have b8 := (But.refl r H7).put (o := .lst (as.map V.ref ++ bs.map V.ref))
        refine ⟨Supd s7 hr0, b8 _ _ ndr (s37 _ _ ed3), as ++ bs, _, rfl, by rw [upd_same, ← List.map_append], ?_⟩
        rw [htk, List.flatMap_append, ← List.cons_append]
        have ner : ∀ b, H6 b = none → b ≠ r := fun b h e => by rw [e, er6] at h; cases h
        refine All2.app (hA.mono fun _ _ z => ⟨z.1, z.2.1, b8 _ _ z.2.1 (s37 _ _ z.2.2)⟩) ?_
        simp only [List.flatMap_cons, List.flatMap_nil, List.append_nil]
        exact hB.mono fun b _ z => ⟨s6.free z.1, ner b z.1, b8 _ _ (ner b z.1) z.2.2⟩
      · obtain ⟨s3, ed3, as, x5, rfl, er3, hA⟩ := hp
        rw [List.length_map, List.take_length] at hA
        walk_at "vc"
        exact q r as H3 s3 hr0 er3 hA
end
/- count_from: calls ['count_from']; cells [] -/
abbrev s_count_from : Stmt := top 18
theorem sc_count_from : FnScope ["walk", "many", "total", "move"] ["walk", "many"] (defScope s_count_from) := ⟨rfl, rfl, rfl, by decide +kernel, rfl, by decide +kernel, by decide +kernel⟩
/- rows_from: calls ['rows_from']; cells ['move'] -/
abbrev s_rows_from : Stmt := top 25
theorem sc_rows_from : FnScope ["play", "many", "rows", "move"] ["play", "many"] (defScope s_rows_from) := ⟨rfl, rfl, rfl, by decide +kernel, rfl, by decide +kernel, by decide +kernel⟩
structure PlayW (cc : Nat → Addr) (cw : Addr) (H : Hp) (x b p : Addr) (ss : List Str) (ns : List Nat) (dps ups : List (Str × Str)) (tr : List Str) : Prop where
  play : PlayAt (cc 9) cw H x b p ss ns tr
  duo : Duo ss ns dps ups
  row : RowOk ss ns tr
  ap : ∃ H0, L2.Same H0 H ∧ H0 p = none ∧ WebAt cw H0 b ss ns
theorem PlayW.same {cc : Nat → Addr} {cw : Addr} {H H' : Hp} {x b p : Addr} {ss : List Str} {ns : List Nat} {dps ups : List (Str × Str)} {tr : List Str} (h : PlayW cc cw H x b p ss ns dps ups tr) (s : L2.Same H H') : PlayW cc cw H' x b p ss ns dps ups tr := by
  obtain ⟨H0, s0, hp0, hW0⟩ := h.ap
  exact ⟨h.play.same s, h.duo, h.row, H0, s0.trans s, hp0, hW0⟩
theorem PlayW.put {cc : Nat → Addr} {cw : Addr} {H H' : Hp} {x b p : Addr} {ss : List Str} {ns : List Nat} {dps ups : List (Str × Str)} {tr tr' : List Str} (h : PlayW cc cw H x b p ss ns dps ups tr) (k : But p H H') (e : H' p = some (.lst (tr'.map V.str))) (hR : RowOk ss ns tr') : PlayW cc cw H' x b p ss ns dps ups tr' := by
  obtain ⟨H0, s0, hp0, hW0⟩ := h.ap
  obtain ⟨dx, hx, hp, _⟩ := h.play
  have s1 := same_but s0 k hp0
  exact ⟨⟨dx, k _ _ (ne_of hx hp (by intro z; cases z)) hx, e, hW0.same s1⟩, h.duo, hR, H0, s1, hp0, hW0⟩
def spRF (cc : Nat → Addr) (cw : Addr) (m : Nat) : Sp := fun vs H Q _ => ∃ (x b p : Addr) (ss : List Str) (ns : List Nat) (dps ups : List (Str × Str)) (tr : List Str), vs = [.ref x, .int m] ∧ PlayW cc cw H x b p ss ns dps ups tr ∧ tr.length + m ≤ 50 ∧
  ∀ (r : Addr) (as : List Addr) (H' : Hp), L2.Same H H' → H r = none → H' r = some (.lst (as.map V.ref)) → All2 (NwAt H r H') as (rwN ups ss m tr) → Q (.ref r) H'
def spCF (cc : Nat → Addr) (cw : Addr) (m : Nat) : Sp := fun vs H Q _ => ∃ (x b p : Addr) (ss : List Str) (ns : List Nat) (dps ups : List (Str × Str)) (tr : List Str), vs = [.ref x, .int m] ∧ PlayW cc cw H x b p ss ns dps ups tr ∧ tr.length + m ≤ 50 ∧
  ∀ (H' : Hp), L2.Same H H' → Q (.int (cnN ups ss m tr : Nat)) H'
section
variable {P : Program} {w : World} {K : W.Frag} {mg : Str → Option Value} {base : Heap} {cc : Nat → Addr} {cw : Addr}
theorem ok_cf {f : Addr} {fd : FuncData} (F : Fun K "count_from" "count_from" s_count_from f fd) (m : Nat) (hm : m ≤ 5) (sp' : Sp) (hsp : 0 < m → sp' = spCF cc cw (m - 1)) (D_Play_moves : MethOk P w K mg base CX0 7 (cc 9) "moves" ["self"] (spPm cc cw)) (D_Walk_move_to : MethOk P w K mg base CX0 8 (cc 9) "move_to" ["self", "thing"] (spPgo cc cw)) (D_Walk_back : MethOk P w K mg base CX0 1 (cc 9) "back" ["self"] (spPb cc cw)) (D_count_from : DefOk P w K mg base CX0 (m + 9) "count_from" ["walk", "many"] sp') : FnOk P w K mg base CX0 (m + 10) f fd ["walk", "many"] (spCF cc cw m) := by
  refine F.ok sc_count_from (fun vs H Q E h => ?_) fun cdv A outer s H vs Q E hr h => ?_
  · obtain ⟨x, b, p, ss, ns, dps, ups, tr, rfl, _⟩ := h; rfl
  · obtain ⟨x, b, p, ss, ns, dps, ups, tr, rfl, hP, l50, q⟩ := h
    have hu := u100 hr
    obtain ⟨dx, hx, hp, hW⟩ := id hP.play
    have hw := hW.ok
    have few := hw.few
    have hR := hP.row
    obtain ⟨z, hz⟩ : ∃ z, tr.getLast? = some z := ⟨_, List.getLast?_eq_some_getLast hR.ne⟩
    have hzs : z ∈ ss := hR.ins z (List.mem_of_getLast? hz)
    have emv : mvS ss ns tr z = mvL ups ss tr z := mv_eq hw hP.duo.wg.adj hP.duo.ti hzs
    have ez : tr.getLast?.getD "" = z := by rw [hz]; rfl
    have nxp : x ≠ p := ne_of hx hp (by intro z; cases z)
    refine ⟨_, (pss_cons (ps_set (i := 2) sc_count_from.nd rfl (Or.inl rfl) pe_int)
  (pss_cons (ps_if (pt_cmpR op_gt (pv 1) pe_int (nomark _)) (pss_one (ps_for PassesOwn.never rfl (ki_any (K := K) rfl (pe_meth0Q D_Play_moves (hr.mono (by omega)) (pv 0))) (pg_name (i := 3) sc_count_from.nd rfl (Or.inl rfl))
  (pss_cons (ps_expr (pe_methQ D_Walk_move_to (hr.mono (by omega)) (pv 0) (pa_cons (pv 3) pa_nil)))
  (pss_cons (ps_aug (i := 2) sc_count_from.nd rfl (Or.inl rfl) (pe_def D_count_from (hr.mono (by omega)) pass0 (pa_cons (pv 0) (pa_cons (pe_op op_sub (pv 1) pe_int) pa_nil))) ip_add)
  (pss_one (ps_expr (pe_meth0Q D_Walk_back (hr.mono (by omega)) (pv 0)))))))) pss_nil)
  (pss_one (ps_ret (pv 2))))), ?_⟩
    walk_at "vc"
    cases m with
    | zero =>
      refine ite2 (fun h => absurd h (by decide)) fun _ => ?_
      walk_at "vc"
      exact q H (L2.Same.refl H)
    | succ k =>
      have hsp := hsp (Nat.succ_pos k)
      rw [Nat.add_sub_cancel] at hsp
      subst hsp
      refine ite2 (fun _ => ?_) fun h => absurd (decide_eq_true (by omega)) h
      walk_at "vc"
      refine ⟨x, dx, _, rfl, hx, lkp_no (by decide +kernel), ?_⟩
      walk_at "vc"
      refine ⟨x, b, p, ss, ns, tr, z, rfl, hP.play, hz, hzs, fun d H1 s1 hd0 hd => ?_⟩
      have ndp : d ≠ p := fun e => by rw [e, hp] at hd0; cases hd0
      have eqr : cnN ups ss (k + 1) tr = 1 + ((mvS ss ns tr z).map fun v => cnN ups ss k (tr ++ [v])).sum := by
        show 1 + _ = _
        rw [ez, emv]
      rw [eqr] at q
      have hmem : ∀ v ∈ mvS ss ns tr z, v ∈ ss := fun v hv => by rw [emv] at hv; exact (List.mem_filter.mp hv).1
      have hsub : ∀ v ∈ mvS ss ns tr z, v ∈ mvS ss ns tr z := fun _ h => h
      walk_at "vc"
      refine .inl ⟨⟨_, SqL.of hd⟩, for_list (K := K) (fun i σ H' => L2.Same H H' ∧ H' d = some (.lst ((mvS ss ns tr z).map V.str)) ∧ ∃ x3, σ = [some (.ref x), some (.int ((k + 1 : Nat) : Int)), some (.int ((1 + (((mvS ss ns tr z).take i).map fun v => cnN ups ss k (tr ++ [v])).sum : Nat) : Int)), x3]) ⟨s1, hd, none, rfl⟩ (fun i σ H' _ hp => SqL.of hp.2.1) (fun i y σ H3 hy hp => ?_) fun σ H3 hp => ?_⟩
      · obtain ⟨s3, ed3, x3, rfl⟩ := hp
        obtain ⟨v, gv, rfl⟩ := str_eq_list hy
        have hv := List.mem_of_getElem? gv
        have htk : (mvS ss ns tr z).take (i + 1) = (mvS ss ns tr z).take i ++ [v] := by rw [List.take_add_one, gv]; rfl
        have hP3 := hP.same s3
        walk_at "vc"
        refine ⟨x, dx, _, rfl, s3 _ _ hx, lkp_no (by decide +kernel), ?_⟩
        walk_at "vc"
        refine ⟨x, b, p, ss, ns, tr, z, v, rfl, hP3.play, by omega, hz, hzs, hv, fun H4 b4 e4 => ?_⟩
        have hP4 := hP3.put b4 e4 (hR.snoc (by omega) hz hv (hmem v hv))
        walk_at "vc"
        refine ⟨_, rfl, ?_⟩
        walk_at "vc"
        rw [show ((((k + 1 : Nat) : Int)) - 1) = (k : Int) by omega]
        refine ⟨x, b, p, ss, ns, dps, ups, tr ++ [v], rfl, hP4, by rw [List.length_append]; show tr.length + 1 + k ≤ 50; omega, fun H5 s45 => ?_⟩
        have hP5 := hP4.same s45
        obtain ⟨dx5, hx5, _⟩ := id hP5.play
        refine ⟨_, _, rfl, rfl, ?_⟩
        walk_at "vc"
        refine ⟨x, dx5, _, rfl, hx5, lkp_no (by decide +kernel), ?_⟩
        walk_at "vc"
        refine ⟨x, b, p, ss, ns, tr, v, rfl, hP5.play, hR.ne, by omega, ?_⟩
        have s6 : L2.Same H (upd H5 p (.lst (tr.map V.str))) := fun c o e => by
          by_cases ec : c = p
          · subst ec; rw [upd_same]; rw [hp] at e; exact e
          · rw [upd_ne ec]; exact s45 _ _ (b4 _ _ ec (s3 _ _ e))
        have e7 : ((1 + (((mvS ss ns tr z).take i).map fun v => cnN ups ss k (tr ++ [v])).sum : Nat) : Int) + ((cnN ups ss k (tr ++ [v]) : Nat) : Int) = ((1 + (((mvS ss ns tr z).take (i + 1)).map fun v => cnN ups ss k (tr ++ [v])).sum : Nat) : Int) := by
          rw [htk, List.map_append, List.sum_append, List.map_cons, List.map_nil, List.sum_cons, List.sum_nil]
          omega
        refine ⟨s6, by rw [upd_ne ndp]; exact s45 _ _ (b4 _ _ ndp ed3), some (.str v), ?_⟩
        rw [← e7]
        rfl
      · obtain ⟨s3, ed3, x3, rfl⟩ := hp
        rw [List.length_map, List.take_length]
        walk_at "vc"
        exact q H3 s3
theorem ok_rf {f : Addr} {fd : FuncData} (F : Fun K "rows_from" "rows_from" s_rows_from f fd) (m : Nat) (hm : m ≤ 3) (sp' : Sp) (hsp : 0 < m → sp' = spRF cc cw (m - 1)) (D_Play_moves : MethOk P w K mg base CX0 7 (cc 9) "moves" ["self"] (spPm cc cw)) (D_Play_go : MethOk P w K mg base CX0 9 (cc 9) "go" ["self", "name"] (spPgo cc cw)) (D_Walk_back : MethOk P w K mg base CX0 1 (cc 9) "back" ["self"] (spPb cc cw)) (D_rows_from : DefOk P w K mg base CX0 (m + 9) "rows_from" ["play", "many"] sp') : FnOk P w K mg base CX0 (m + 10) f fd ["play", "many"] (spRF cc cw m) := by
  refine F.ok sc_rows_from (fun vs H Q E h => ?_) fun cdv A outer s H vs Q E hr h => ?_
  · obtain ⟨x, b, p, ss, ns, dps, ups, tr, rfl, _⟩ := h; rfl
  · obtain ⟨x, b, p, ss, ns, dps, ups, tr, rfl, hP, l50, q⟩ := h
    have hu := u100 hr
    obtain ⟨dx, hx, hp, hW⟩ := id hP.play
    have hw := hW.ok
    have few := hw.few
    have hR := hP.row
    obtain ⟨z, hz⟩ : ∃ z, tr.getLast? = some z := ⟨_, List.getLast?_eq_some_getLast hR.ne⟩
    have hzs : z ∈ ss := hR.ins z (List.mem_of_getLast? hz)
    have emv : mvS ss ns tr z = mvL ups ss tr z := mv_eq hw hP.duo.wg.adj hP.duo.ti hzs
    have ez : tr.getLast?.getD "" = z := by rw [hz]; rfl
    have nxp : x ≠ p := ne_of hx hp (by intro z; cases z)
    refine ⟨_, (pss_cons (ps_set (i := 2) sc_rows_from.nd rfl (Or.inl rfl) (pe_lst (pa_cons (pe_lst pa_nil) pa_nil)))
  (pss_cons (ps_if (pt_cmpR op_gt (pv 1) pe_int (nomark _)) (pss_one (ps_for PassesOwn.never rfl (ki_any (K := K) rfl (pe_meth0Q D_Play_moves (hr.mono (by omega)) (pv 0))) (pg_name (i := 3) sc_rows_from.nd rfl (Or.inr rfl))
  (pss_cons (ps_expr (pe_methQ D_Play_go (hr.mono (by omega)) (pv 0) (pa_cons (pv 3) pa_nil)))
  (pss_cons (ps_expr (k_bm (K := K) rfl PySem.F.plainAttrs_list PySem.F.slot_list_extend PySem.F.type_list_extend mtR_extend (pv 2) (pa_cons (pe_comp (sc := defScope s_rows_from) (XN := ["play", "many", "rows", "move"]) ["row", "move"] 1 [3] rfl rfl rfl (by decide +kernel) rfl (by decide +kernel)
   (ki_any (K := K) rfl (pe_def D_rows_from (hr.mono (by omega)) pass0 (pa_cons (pv 0) (pa_cons (pe_op op_sub (pv 1) pe_int) pa_nil)))) (fun _ _ _ _ => (pg_name (i := 0) (show (["row", "move"] : List Str).Nodup by decide +kernel) rfl (Or.inl rfl))) gk_name
   (fun _ _ _ _ => pifs_nil)
   (fun _ _ _ _ => (pe_op (k_add (K := K) rfl) (pe_lst (pa_cons (pv 1) pa_nil)) (pv 0)))) pa_nil)))
  (pss_one (ps_expr (pe_meth0Q D_Walk_back (hr.mono (by omega)) (pv 0)))))))) pss_nil)
  (pss_one (ps_ret (pv 2))))), ?_⟩
    walk_at "vc"
    refine ⟨by decide, fun e0 he0 => ?_⟩
    have s01 := Snew (L2.Same.refl H) (o := .lst []) he0
    have ee0 : upd H e0 (.lst []) e0 = some (.lst (([] : List Str).map V.str)) := upd_same
    generalize upd H e0 (.lst []) = H0 at s01 ee0 ⊢
    walk_at "vc"
    refine ⟨by show 1 ≤ sizeLine; decide, fun r hr0' => ?_⟩
    have hr0 := s01.free hr0'
    have ner : e0 ≠ r := fun e => by rw [← e, ee0] at hr0'; cases hr0'
    have nrp : r ≠ p := fun e => by rw [e, hp] at hr0; cases hr0
    have s1 := Snew s01 (o := .lst [.ref e0]) hr0'
    have s011 := Snew (L2.Same.refl H0) (o := .lst [.ref e0]) hr0'
    have er : upd H0 r (.lst [.ref e0]) r = some (.lst [.ref e0]) := upd_same
    replace ee0 := s011 _ _ ee0
    generalize upd H0 r (.lst [.ref e0]) = H1 at s1 er ee0 ⊢
    walk_at "vc"
    cases m with
    | zero =>
      refine ite2 (fun h => absurd h (by decide)) fun _ => ?_
      walk_at "vc"
      refine q r [e0] H1 s1 hr0 er ⟨rfl, fun k a row h1 h2 => ?_⟩
      match k, h1, h2 with
      | 0, h1, h2 => cases h1; cases h2; exact ⟨he0, ner, ee0⟩
    | succ k =>
      have hsp := hsp (Nat.succ_pos k)
      rw [Nat.add_sub_cancel] at hsp
      subst hsp
      refine ite2 (fun _ => ?_) fun h => absurd (decide_eq_true (by omega)) h
      walk_at "vc"
      refine ⟨x, dx, _, rfl, s1 _ _ hx, lkp_no (by decide +kernel), ?_⟩
      walk_at "vc"
      refine ⟨x, b, p, ss, ns, tr, z, rfl, hP.play.same s1, hz, hzs, fun d H2 s12 hd0 hd => ?_⟩
      have ndr : d ≠ r := fun e => by rw [e, er] at hd0; cases hd0
      have ndp : d ≠ p := fun e => by rw [e, s1 _ _ hp] at hd0; cases hd0
      have s2 := s1.trans s12
      have lmv := mvL_len (ups := ups) (tr := tr) (z := z) few
      have eqr : rwN ups ss (k + 1) tr = [] :: (mvL ups ss tr z).flatMap fun v => (rwN ups ss k (tr ++ [v])).map (v :: ·) := by
        show _ :: _ = _
        rw [ez]
      rw [eqr, ← emv] at q
      rw [← emv] at lmv
      have hmem : ∀ v ∈ mvS ss ns tr z, v ∈ ss := fun v hv => by rw [emv] at hv; exact (List.mem_filter.mp hv).1
      have hmv : ∀ v, v ∈ mvS ss ns tr z → v ∈ mvS ss ns tr z := fun _ h => h
      obtain ⟨mv, hmv'⟩ : ∃ mv, mv = mvS ss ns tr z := ⟨_, rfl⟩
      rw [← hmv'] at hd lmv q hmem
      walk_at "vc"
      refine .inl ⟨⟨_, SqL.of hd⟩, for_list (K := K) (fun i σ H' => L2.Same H H' ∧ H' d = some (.lst (mv.map V.str)) ∧ ∃ (as : List Addr) (x3 : Option V), σ = [some (.ref x), some (.int ((k + 1 : Nat) : Int)), some (.ref r), x3] ∧ H' r = some (.lst (as.map V.ref)) ∧ All2 (NwAt H r H') as ([] :: (mv.take i).flatMap fun v => (rwN ups ss k (tr ++ [v])).map (v :: ·)))
        ⟨s2, hd, [e0], none, rfl, s12 _ _ er, ⟨rfl, fun k a row h1 h2 => ?_⟩⟩ (fun i σ H' _ hp => SqL.of hp.2.1) (fun i y σ H3 hy hp' => ?_) fun σ H3 hp' => ?_⟩
      · match k, h1, h2 with
        | 0, h1, h2 => cases h1; cases h2; exact ⟨he0, ner, s12 _ _ ee0⟩
      · obtain ⟨s3, ed3, as, x3, rfl, er3, hA⟩ := hp'
        obtain ⟨v, gv, rfl⟩ := str_eq_list hy
        have hv := List.mem_of_getElem? gv
        have hi : i < mv.length := (List.getElem?_eq_some_iff.mp gv).1
        have htk : mv.take (i + 1) = mv.take i ++ [v] := by rw [List.take_add_one, gv]; rfl
        have hP3 := hP.same s3
        have hp3 := s3 _ _ hp
        walk_at "vc"
        refine ⟨x, dx, _, rfl, s3 _ _ hx, lkp_no (by decide +kernel), ?_⟩
        walk_at "vc"
        refine ⟨x, b, p, ss, ns, tr, z, v, rfl, hP3.play, by omega, hz, hzs, by rw [← hmv']; exact hv, fun H4 b4 e4 => ?_⟩
        have hP4 := hP3.put b4 e4 (hR.snoc (by omega) hz (by rw [← hmv']; exact hv) (hmem v hv))
        have er4 := b4 _ _ nrp er3
        walk_at "vc"
        refine ⟨.inl ⟨rfl, _, SqL.of er4⟩, ?_⟩
        walk_at "vc"
        rw [show ((((k + 1 : Nat) : Int)) - 1) = (k : Int) by omega]
        refine ⟨x, b, p, ss, ns, dps, ups, tr ++ [v], rfl, hP4, by rw [List.length_append]; show tr.length + 1 + k ≤ 50; omega, fun r' as' H5 s45 hr'0 hr' hA' => ?_⟩
        have hP5 := hP4.same s45
        have er5 := s45 _ _ er4
        have hl1 := hA.len
        have hl2 := hA'.len
        have hl3 := rwN_len (ups := ups) few k (tr ++ [v])
        have h15 : 15 ^ k ≤ 15 ^ 2 := Nat.pow_le_pow_right (by decide) (by omega)
        have hl4 : ((mv.take i).flatMap fun v => (rwN ups ss k (tr ++ [v])).map (v :: ·)).length ≤ 14 * 15 ^ 2 := by
          rw [List.flatMap_def, List.length_flatten, List.map_map]
          have h1 := sum_map_le (List.length ∘ fun v => (rwN ups ss k (tr ++ [v])).map (v :: ·)) (15 ^ 2) (mv.take i) fun v _ => by show (List.map _ _).length ≤ _; rw [List.length_map]; exact Nat.le_trans (rwN_len few k _) h15
          have h2 : (mv.take i).length * 15 ^ 2 ≤ 14 * 15 ^ 2 := Nat.mul_le_mul_right _ (by rw [List.length_take]; omega)
          omega
        refine .inl ⟨⟨_, SqL.of hr'⟩, prep_comp rfl hr' (hA'.mono fun _ _ z => z.2.2) (by omega) (fun row hrow => by have := rwN_row k _ row hrow; omega) fun bs H7 ex s57 hB hex0 hex => ?_⟩
        have er7 := s57 _ _ er5
        rw [List.length_cons] at hl1
        have hbl := hB.len
        rw [List.length_map] at hbl
        walk_at "vc"
        refine ⟨r, ex, _, _, rfl, rfl, er7, hex, Nat.le_trans (show _ ≤ 100000 by rw [List.length_map, List.length_map]; omega) (by decide), ?_⟩
        have b8 := (But.refl r H7).put (o := .lst (as.map V.ref ++ bs.map V.ref))
        have er8 : upd H7 r (.lst (as.map V.ref ++ bs.map V.ref)) r = some (.lst ((as ++ bs).map V.ref)) := by rw [upd_same, List.map_append]
        generalize upd H7 r (.lst (as.map V.ref ++ bs.map V.ref)) = H8 at b8 er8 ⊢
        have b58 : But r H5 H8 := fun c o n e => b8 c o n (s57 _ _ e)
        have k38 : ∀ c o, c ≠ p → c ≠ r → H3 c = some o → H8 c = some o := fun c o n1 n2 e => b58 c o n2 (s45 _ _ (b4 c o n1 e))
        obtain ⟨dx5, hx5, hp5, _⟩ := id hP5.play
        have hx8 := b58 _ _ (ne_of hx5 er5 (by intro z; cases z)) hx5
        have hp8 := b58 _ _ nrp.symm hp5
        obtain ⟨HW, sW, hpW, hWW⟩ := hP.ap
        have sW8 : L2.Same HW H8 := fun c o e => k38 c o (fun z => by rw [z, hpW] at e; cases e) (fun z => by rw [z, sW.free hr0] at e; cases e) (s3 _ _ (sW _ _ e))
        have hP8 : PlayAt (cc 9) cw H8 x b p ss ns (tr ++ [v]) := ⟨dx5, hx8, hp8, hWW.same sW8⟩
        walk_at "vc"
        refine ⟨x, dx5, _, rfl, hx8, lkp_no (by decide +kernel), ?_⟩
        walk_at "vc"
        refine ⟨x, b, p, ss, ns, tr, v, rfl, hP8, hR.ne, by omega, ?_⟩
        have s9 : L2.Same H (upd H8 p (.lst (tr.map V.str))) := fun c o e => by
          by_cases ec : c = p
          · subst ec; rw [upd_same]; rw [hp] at e; exact e
          · rw [upd_ne ec]; exact k38 c o ec (fun z => by rw [z, hr0] at e; cases e) (s3 _ _ e)
        have kk : ∀ c, c ≠ p → upd H8 p (.lst (tr.map V.str)) c = H8 c := fun c n => upd_ne n
        refine ⟨s9, by rw [kk d ndp]; exact k38 _ _ ndp ndr ed3, as ++ bs, _, rfl, by rw [kk r nrp]; exact er8, ?_⟩
        rw [htk, List.flatMap_append, ← List.cons_append]
        have noP : ∀ c, H c = none → c ≠ p := fun c h e => by rw [e, hp] at h; cases h
        refine All2.app (hA.mono fun c _ z => ⟨z.1, z.2.1, by rw [kk c (noP c z.1)]; exact k38 _ _ (noP c z.1) z.2.1 z.2.2⟩) ?_
        simp only [List.flatMap_cons, List.flatMap_nil, List.append_nil]
        refine hB.mono fun c _ z => ?_
        have nc : c ≠ p := fun e => by have := z.1; rw [e, hp5] at this; cases this
        have ncr : c ≠ r := fun e => by have := z.1; rw [e, er5] at this; cases this
        have hc0 : H c = none := by
          cases e : H c with
          | none => rfl
          | some o =>
            have h1 := z.1
            rw [s45 _ _ (b4 _ _ nc (s3 _ _ e))] at h1
            cases h1
        exact ⟨hc0, ncr, by rw [kk c nc]; exact b8 _ _ ncr z.2.2⟩
      · obtain ⟨s3, ed3, as, x3, rfl, er3, hA⟩ := hp'
        rw [List.length_map, List.take_length] at hA
        walk_at "vc"
        exact q r as H3 s3 hr0 er3 hA
end
/- rows_within: calls ['is_within', 'rows_from']; cells [] -/
abbrev s_rows_within : Stmt := top 24
theorem sc_rows_within : FnScope ["play", "many"] ["play", "many"] (defScope s_rows_within) := ⟨rfl, rfl, rfl, by decide +kernel, rfl, by decide +kernel, by decide +kernel⟩
/- all_within: calls ['is_within', 'count_from']; cells [] -/
abbrev s_all_within : Stmt := top 26
theorem sc_all_within : FnScope ["play", "many"] ["play", "many"] (defScope s_all_within) := ⟨rfl, rfl, rfl, by decide +kernel, rfl, by decide +kernel, by decide +kernel⟩
/- _law_count: calls ['_law_count']; cells [] -/
abbrev s_l_count : Stmt := top 44
theorem sc_l_count : FnScope ["_law_beside", "_law_trail", "_law_many", "_law_total", "_law_name"] ["_law_beside", "_law_trail", "_law_many"] (defScope s_l_count) := ⟨rfl, rfl, rfl, by decide +kernel, rfl, by decide +kernel, by decide +kernel⟩
theorem FnOk.up {P : Program} {w : World} {K : W.Frag} {mg : Str → Option Value} {base : Heap} {CX : CXT} {k k' : Nat} {f : Addr} {fd : FuncData} {ps : List Str} {sp : Sp} (F : FnOk P w K mg base CX k f fd ps sp) (h : k ≤ k') : FnOk P w K mg base CX k' f fd ps sp :=
  ⟨F.len, fun A outer s H args us vs Q E hr he hb hv hs => F.run A outer s H args us vs Q E (hr.mono h) he hb hv hs⟩
theorem FnOk.upto {P : Program} {w : World} {K : W.Frag} {mg : Str → Option Value} {base : Heap} {CX : CXT} {k n : Nat} {f : Addr} {fd : FuncData} {ps : List Str} {sp : Nat → Sp} (F : ∀ m, m ≤ n → FnOk P w K mg base CX k f fd ps (sp m)) : FnOk P w K mg base CX k f fd ps (fun vs H Q E => ∃ m, m ≤ n ∧ sp m vs H Q E) :=
  ⟨fun vs H Q E ⟨m, hm, h⟩ => (F m hm).len vs H Q E h, fun A outer s H args us vs Q E hr he hb hv ⟨m, hm, h⟩ => (F m hm).run A outer s H args us vs Q E hr he hb hv h⟩
def spRW (cc : Nat → Addr) (cw : Addr) : Sp := fun vs H Q E => ∃ m, m ≤ 3 ∧ spRF cc cw m vs H Q E
def spCW (cc : Nat → Addr) (cw : Addr) : Sp := fun vs H Q E => ∃ m, m ≤ 5 ∧ spCF cc cw m vs H Q E
def spWX (cc : Nat → Addr) (hi : Int) : Sp := fun vs H Q E => ∃ (x q : Addr) (k : Nat) (v : V), vs = [.ref x, v] ∧ Th q H k v ∧ withinV 0 hi v = false ∧ Rz cc H E (5, v)
def BesAt (H : Hp) (d : Addr) (ss : List Str) (ups : List (Str × Str)) : Prop := ∃ kvs, H d = some (.dK kvs) ∧ ∀ s ∈ ss, ∃ a, valV kvs (.inr s) = some (.ref a) ∧ H a = some (.lst ((mvL ups ss [s] s).map V.str))
theorem BesAt.same {H H' : Hp} {d : Addr} {ss : List Str} {ups : List (Str × Str)} (h : BesAt H d ss ups) (s : L2.Same H H') : BesAt H' d ss ups := by
  obtain ⟨kvs, h1, h2⟩ := h
  exact ⟨kvs, s _ _ h1, fun x hx => by obtain ⟨a, e1, e2⟩ := h2 x hx; exact ⟨a, e1, s _ _ e2⟩⟩
theorem mv_fil {ups : List (Str × Str)} {ss tr : List Str} {z : Str} (hz : z ∈ tr) : (mvL ups ss [z] z).filter (fun o => !decide (o ∈ tr)) = mvL ups ss tr z := by
  unfold mvL
  rw [List.filter_filter]
  refine List.filter_congr fun o _ => ?_
  by_cases h : o ∈ tr
  · rw [decide_eq_true h]; rfl
  · have h1 : o ∉ [z] := fun e => h (by rw [List.mem_singleton.mp e]; exact hz)
    rw [decide_eq_false h, decide_eq_false h1]
    rfl
def spLC (m : Nat) : Sp := fun vs H Q _ => ∃ (d t : Addr) (ss : List Str) (ups : List (Str × Str)) (tr : List Str) (z : Str), vs = [.ref d, .ref t, .int m] ∧ BesAt H d ss ups ∧ ss.length ≤ 14 ∧ H t = some (.lst (tr.map V.str)) ∧ tr.length + m ≤ 50 ∧ tr.getLast? = some z ∧ z ∈ ss ∧ ∀ (H' : Hp), L2.Same H H' → Q (.int (cnN ups ss m tr : Nat)) H'
section
variable {P : Program} {w : World} {K : W.Frag} {mg : Str → Option Value} {base : Heap} {cc : Nat → Addr} {cw : Addr}
theorem ok_rwi {f : Addr} {fd : FuncData} (F : Fun K "rows_within" "rows_within" s_rows_within f fd) (T : Txt K mg cc cw) (D_is_within : DefOk P w K mg base CX0 2 "is_within" ["thing", "low", "high"] spIn) (D_Play_twin : MethOk P w K mg base CX0 11 (cc 9) "twin" ["self"] (spTw cc cw)) (D_rows_from : DefOk P w K mg base CX0 13 "rows_from" ["play", "many"] (spRW cc cw)) : FnOk P w K mg base CX0 14 f fd ["play", "many"] (spRW cc cw) := by
  refine F.ok sc_rows_within (fun vs H Q E h => ?_) fun cdv A outer s H vs Q E hr h => ?_
  · obtain ⟨m, _, x, b, p, ss, ns, dps, ups, tr, rfl, _⟩ := h; rfl
  · obtain ⟨m, hmm, x, b, p, ss, ns, dps, ups, tr, rfl, hP, l50, q⟩ := h
    obtain ⟨dx, hx, hp, hW⟩ := id hP.play
    refine ⟨_, (pss_cons (ps_if (pt_not (pt_val (pe_def D_is_within (hm hr) pass0 (pa_cons (pv 1) (pa_cons pe_int (pa_cons (pe_globI rfl T.g_MOST_FOR_ROWS) pa_nil)))))) (pss_one ps_never) pss_nil)
  (pss_one (ps_ret (pe_def D_rows_from (hm hr) pass0 (pa_cons (pe_meth0Q D_Play_twin (hm hr) (pv 0)) (pa_cons (pv 1) pa_nil)))))), ?_⟩
    walk_at "vc"
    refine ⟨x, 0, .int m, 0, 3, rfl, Th.flat rfl (fun z e => by cases e), ?_⟩
    walk_at "vc"
    have e1 : withinV 0 3 (.int m) = true := by
      show (decide ((0 : Int) ≤ (m : Int)) && decide ((m : Int) ≤ 3)) = true
      rw [decide_eq_true (by omega), decide_eq_true (by omega)]
      rfl
    rw [e1]
    refine ite2 (fun h => by cases h) fun _ => ?_
    walk_at "vc"
    refine ⟨x, dx, _, rfl, hx, lkp_no (by decide +kernel), ?_⟩
    walk_at "vc"
    refine ⟨x, b, p, ss, ns, tr, rfl, hP.play, hP.row, fun x2 p2 H1 s1 hx20 hp20 hP2 => ?_⟩
    walk_at "vc"
    exact ⟨m, hmm, x2, b, p2, ss, ns, dps, ups, tr, rfl, ⟨hP2, hP.duo, hP.row, H, s1, hp20, hW⟩, l50, fun r as H' s' hr0 hr hA => q r as H' (s1.trans s') (s1.free hr0) hr (hA.mono fun _ _ z => ⟨s1.free z.1, z.2⟩)⟩
theorem ok_cwi {f : Addr} {fd : FuncData} (F : Fun K "all_within" "all_within" s_all_within f fd) (T : Txt K mg cc cw) (D_is_within : DefOk P w K mg base CX0 2 "is_within" ["thing", "low", "high"] spIn) (D_Play_twin : MethOk P w K mg base CX0 11 (cc 9) "twin" ["self"] (spTw cc cw)) (D_count_from : DefOk P w K mg base CX0 15 "count_from" ["walk", "many"] (spCW cc cw)) : FnOk P w K mg base CX0 16 f fd ["play", "many"] (spCW cc cw) := by
  refine F.ok sc_all_within (fun vs H Q E h => ?_) fun cdv A outer s H vs Q E hr h => ?_
  · obtain ⟨m, _, x, b, p, ss, ns, dps, ups, tr, rfl, _⟩ := h; rfl
  · obtain ⟨m, hmm, x, b, p, ss, ns, dps, ups, tr, rfl, hP, l50, q⟩ := h
    obtain ⟨dx, hx, hp, hW⟩ := id hP.play
    refine ⟨_, (pss_cons (ps_if (pt_not (pt_val (pe_def D_is_within (hm hr) pass0 (pa_cons (pv 1) (pa_cons pe_int (pa_cons (pe_globI rfl T.g_MOST_FOR_THEIR_NUMBER) pa_nil)))))) (pss_one ps_never) pss_nil)
  (pss_one (ps_ret (pe_def D_count_from (hm hr) pass0 (pa_cons (pe_meth0Q D_Play_twin (hm hr) (pv 0)) (pa_cons (pv 1) pa_nil)))))), ?_⟩
    walk_at "vc"
    refine ⟨x, 0, .int m, 0, 5, rfl, Th.flat rfl (fun z e => by cases e), ?_⟩
    walk_at "vc"
    have e1 : withinV 0 5 (.int m) = true := by
      show (decide ((0 : Int) ≤ (m : Int)) && decide ((m : Int) ≤ 5)) = true
      rw [decide_eq_true (by omega), decide_eq_true (by omega)]
      rfl
    rw [e1]
    refine ite2 (fun h => by cases h) fun _ => ?_
    walk_at "vc"
    refine ⟨x, dx, _, rfl, hx, lkp_no (by decide +kernel), ?_⟩
    walk_at "vc"
    refine ⟨x, b, p, ss, ns, tr, rfl, hP.play, hP.row, fun x2 p2 H1 s1 hx20 hp20 hP2 => ?_⟩
    walk_at "vc"
    exact ⟨m, hmm, x2, b, p2, ss, ns, dps, ups, tr, rfl, ⟨hP2, hP.duo, hP.row, H, s1, hp20, hW⟩, l50, fun H' s' => q H' (s1.trans s')⟩
theorem ok_rwX {f : Addr} {fd : FuncData} (F : Fun K "rows_within" "rows_within" s_rows_within f fd) (T : Txt K mg cc cw) (D_NoNumbers : XMakeOk P w K mg base 2 (cc 5) "NoNumbers" ["self", "found"] (spX (cc 5) (fldn 5))) (D_is_within : DefOk P w K mg base CX0 2 "is_within" ["thing", "low", "high"] spIn) (D_Play_twin : MethOk P w K mg base CX0 11 (cc 9) "twin" ["self"] (spTw cc cw)) (D_rows_from : DefOk P w K mg base CX0 13 "rows_from" ["play", "many"] (spRW cc cw)) : FnOk P w K mg base (CX1 P w) 14 f fd ["play", "many"] (spWX cc 3) := by
  refine F.ok1 sc_rows_within (fun vs H Q E h => ?_) fun cdv A outer s H vs Q E hr h => ?_
  · obtain ⟨x, r, k, v, rfl, _⟩ := h; rfl
  · obtain ⟨x, r, k, v, rfl, hv, hno, hE⟩ := h
    refine ⟨_, (pss_cons (ps_if (pt_not (pt_val (pe_def D_is_within (hm hr) pass0 (pa_cons (pv 1) (pa_cons pe_int (pa_cons (pe_globI rfl T.g_MOST_FOR_ROWS) pa_nil)))))) (pss_one (k_raise (K := K) rfl xok_fn (pe_xm D_NoNumbers (hm hr) (pa_cons (pv 1) pa_nil)))) pss_nil)
  (pss_one (ps_ret (pe_def D_rows_from (hm hr) pass0 (pa_cons (pe_meth0Q D_Play_twin (hm hr) (pv 0)) (pa_cons (pv 1) pa_nil)))))), ?_⟩
    walk_at "vc"
    refine ⟨r, k, v, 0, 3, rfl, hv, ?_⟩
    rw [hno]
    walk_at "vc"
    refine iteT ?_
    walk_at "vc"
    exact raise_done (T.xat 5 (by decide)) hE
theorem ok_cwX {f : Addr} {fd : FuncData} (F : Fun K "all_within" "all_within" s_all_within f fd) (T : Txt K mg cc cw) (D_NoNumbers : XMakeOk P w K mg base 2 (cc 5) "NoNumbers" ["self", "found"] (spX (cc 5) (fldn 5))) (D_is_within : DefOk P w K mg base CX0 2 "is_within" ["thing", "low", "high"] spIn) (D_Play_twin : MethOk P w K mg base CX0 11 (cc 9) "twin" ["self"] (spTw cc cw)) (D_count_from : DefOk P w K mg base CX0 15 "count_from" ["walk", "many"] (spCW cc cw)) : FnOk P w K mg base (CX1 P w) 16 f fd ["play", "many"] (spWX cc 5) := by
  refine F.ok1 sc_all_within (fun vs H Q E h => ?_) fun cdv A outer s H vs Q E hr h => ?_
  · obtain ⟨x, r, k, v, rfl, _⟩ := h; rfl
  · obtain ⟨x, r, k, v, rfl, hv, hno, hE⟩ := h
    refine ⟨_, (pss_cons (ps_if (pt_not (pt_val (pe_def D_is_within (hm hr) pass0 (pa_cons (pv 1) (pa_cons pe_int (pa_cons (pe_globI rfl T.g_MOST_FOR_THEIR_NUMBER) pa_nil)))))) (pss_one (k_raise (K := K) rfl xok_fn (pe_xm D_NoNumbers (hm hr) (pa_cons (pv 1) pa_nil)))) pss_nil)
  (pss_one (ps_ret (pe_def D_count_from (hm hr) pass0 (pa_cons (pe_meth0Q D_Play_twin (hm hr) (pv 0)) (pa_cons (pv 1) pa_nil)))))), ?_⟩
    walk_at "vc"
    refine ⟨r, k, v, 0, 5, rfl, hv, ?_⟩
    rw [hno]
    walk_at "vc"
    refine iteT ?_
    walk_at "vc"
    exact raise_done (T.xat 5 (by decide)) hE
theorem ok_lc {f : Addr} {fd : FuncData} (F : Fun K "_law_count" "_law_count" s_l_count f fd) (m : Nat) (hm : m ≤ 5) (sp' : Sp) (hsp : 0 < m → sp' = spLC (m - 1)) (D_l_count : DefOk P w K mg base CX0 (m + 1) "_law_count" ["_law_beside", "_law_trail", "_law_many"] sp') : FnOk P w K mg base CX0 (m + 2) f fd ["_law_beside", "_law_trail", "_law_many"] (spLC m) := by
  refine F.ok sc_l_count (fun vs H Q E h => ?_) fun cdv A outer s H vs Q E hr h => ?_
  · obtain ⟨d, t, ss, ups, tr, z, rfl, _⟩ := h; rfl
  · obtain ⟨d, t, ss, ups, tr, z, rfl, hB, few, ht, l50, hz, hzs, q⟩ := h
    have hu := u100 hr
    have ez : tr.getLast?.getD "" = z := by rw [hz]; rfl
    have hzt : z ∈ tr := List.mem_of_getLast? hz
    refine ⟨_, (pss_cons (ps_if (pt_cmpR (k_eqZ (K := K) rfl hu) (pv 2) pe_int (nomark _)) (pss_one (ps_ret pe_int)) pss_nil)
  (pss_cons (ps_set (i := 3) sc_l_count.nd rfl (Or.inl rfl) pe_int)
  (pss_cons (ps_for PassesOwn.never rfl (ki_any (K := K) rfl (pe_ix (k_ixU (K := K) rfl hu) (pv 0) (pe_ix (k_ixU (K := K) rfl hu) (pv 1) (pe_un un_neg pe_int) (fun _ _ => rfl)) (fun _ _ => rfl))) (pg_name (i := 4) sc_l_count.nd rfl (Or.inl rfl))
  (pss_one (ps_if (pt_cmpR (k_notinU (K := K) rfl hu) (pv 4) (pv 1) (by with_unfolding_all rfl)) (pss_one (ps_set (i := 3) sc_l_count.nd rfl (Or.inl rfl) (pe_op (k_add (K := K) rfl) (pv 3) (pe_def D_l_count (hr.mono (by omega)) pass0 (pa_cons (pv 0) (pa_cons (pe_op (k_add (K := K) rfl) (pv 1) (pe_lst (pa_cons (pv 4) pa_nil))) (pa_cons (pe_op op_sub (pv 2) pe_int) pa_nil))))))) pss_nil)))
  (pss_one (ps_ret (pv 3)))))), ?_⟩
    walk_at "vc"
    refine .inl (.inl (.inl ⟨rfl, rfl, ?_⟩))
    walk_at "vc"
    cases m with
    | zero =>
      refine ite2 (fun _ => ?_) fun h => absurd rfl h
      walk_at "vc"
      exact q H (L2.Same.refl H)
    | succ k =>
      have hsp := hsp (Nat.succ_pos k)
      rw [Nat.add_sub_cancel] at hsp
      subst hsp
      refine ite2 (fun h => ?_) fun _ => ?_
      · have h : eqV (V.int ((k + 1 : Nat) : Int)) (V.int 0) = true := h
        have h : (((k + 1 : Nat) : Nat) : Int) = 0 := by simpa [eqV] using h
        omega
      have eqr : cnN ups ss (k + 1) tr = 1 + (((mvL ups ss [z] z).filter fun o => !decide (o ∈ tr)).map fun v => cnN ups ss k (tr ++ [v])).sum := by
        show 1 + _ = _
        rw [ez, mv_fil hzt]
      rw [eqr] at q
      obtain ⟨kvs, hd, hk⟩ := id hB
      obtain ⟨a, ha1, ha2⟩ := hk z hzs
      have hbs : ∀ v ∈ mvL ups ss [z] z, v ∈ ss := fun v hv => (List.mem_filter.mp hv).1
      generalize mvL ups ss [z] z = bs at ha2 q hbs
      walk_at "vc"
      refine vU ?_
      refine .inl (vIxL ht (last_at hz) ?_)
      refine .inr ⟨d, .ref a, rfl, ?_, ?_⟩
      · have g := DGet.k (k := Sum.inr z) hd
        rw [ha1] at g
        exact g
      walk_at "vc"
      refine .inl ⟨⟨_, SqL.of ha2⟩, for_list (K := K) (fun i σ H' => L2.Same H H' ∧ ∃ x4, σ = [some (.ref d), some (.ref t), some (.int ((k + 1 : Nat) : Int)), some (.int ((1 + (((bs.take i).filter fun o => !decide (o ∈ tr)).map fun v => cnN ups ss k (tr ++ [v])).sum : Nat) : Int)), x4]) ⟨L2.Same.refl H, none, rfl⟩ (fun i σ H' _ hp => SqL.of (hp.1 _ _ ha2)) (fun i y σ H3 hy hp => ?_) fun σ H3 hp => ?_⟩
      · obtain ⟨s3, x4, rfl⟩ := hp
        obtain ⟨v, gv, rfl⟩ := str_eq_list hy
        have hv := List.mem_of_getElem? gv
        have htk : bs.take (i + 1) = bs.take i ++ [v] := by rw [List.take_add_one, gv]; rfl
        rw [htk, List.filter_append, List.map_append, List.sum_append, List.filter_cons, List.filter_nil]
        walk_at "vc"
        refine .inl ⟨t, _, rfl, .inl (SqL.of (s3 _ _ ht)), rfl, flat_strs _, ?_⟩
        rw [inV_str]
        walk_at "vc"
        refine ite2 (fun h => ?_) fun h => ?_
        · have h : (!decide (v ∈ tr)) = true := h
          rw [h, if_pos rfl]
          walk_at "vc"
          refine ⟨by show 1 ≤ sizeLine; decide, fun e he => ?_⟩
          have s34 := Snew (L2.Same.refl H3) (o := .lst [.str v]) he
          have ee : upd H3 e (.lst [.str v]) e = some (.lst [.str v]) := upd_same
          generalize upd H3 e (.lst [.str v]) = H4 at s34 ee ⊢
          refine .inl ⟨t, e, _, _, rfl, rfl, s34 _ _ (s3 _ _ ht), ee, Nat.le_trans (show _ ≤ 1000 by rw [List.length_map]; show tr.length + 1 ≤ 1000; omega) (by decide), fun g hg => ?_⟩
          have eg0 : tr.map V.str ++ [V.str v] = (tr ++ [v]).map V.str := by rw [List.map_append]; rfl
          rw [eg0]
          have s45 := Snew (L2.Same.refl H4) (o := .lst ((tr ++ [v]).map V.str)) hg
          have egg : upd H4 g (.lst ((tr ++ [v]).map V.str)) g = some (.lst ((tr ++ [v]).map V.str)) := upd_same
          generalize upd H4 g (.lst ((tr ++ [v]).map V.str)) = H5 at s45 egg ⊢
          have s5 := s3.trans (s34.trans s45)
          walk_at "vc"
          rw [show ((((k + 1 : Nat) : Int)) - 1) = (k : Int) by omega]
          refine ⟨d, g, ss, ups, tr ++ [v], v, rfl, hB.same s5, few, egg, by rw [List.length_append]; show tr.length + 1 + k ≤ 50; omega, List.getLast?_concat, hbs v hv, fun H6 s56 => ?_⟩
          walk_at "vc"
          refine ⟨s5.trans s56, some (.str v), ?_⟩
          rw [List.map_cons, List.map_nil, List.sum_cons, List.sum_nil, Nat.add_zero]
          rw [← Nat.add_assoc, Int.natCast_add (1 + _)]
          rfl
        · have h : (!decide (v ∈ tr)) = false := by
            have h : ¬ (!decide (v ∈ tr)) = true := h
            simpa using h
          rw [h, if_neg Bool.false_ne_true]
          refine ⟨s3, some (.str v), ?_⟩
          rfl
      · obtain ⟨s3, x4, rfl⟩ := hp
        rw [List.length_map, List.take_length]
        walk_at "vc"
        exact q H3 s3
end
/- _law_refused: calls ['rows_within', 'all_within']; cells [] -/
abbrev s_l_refused : Stmt := top 46
theorem sc_l_refused : FnScope ["_law_play", "_law_thing", "_law_which", "e"] ["_law_play", "_law_thing", "_law_which"] (defScope s_l_refused) := ⟨rfl, rfl, rfl, by decide +kernel, rfl, by decide +kernel, by decide +kernel⟩
/- _law_rows_right: calls ['_law_rows', 'rows_within']; cells [] -/
abbrev s_l_rows_right : Stmt := top 47
theorem sc_l_rows_right : FnScope ["_law_play", "_law_names_here", "_law_ties_here", "_law_trail", "_law_many", "_law_due", "_law_told"] ["_law_play", "_law_names_here", "_law_ties_here", "_law_trail", "_law_many"] (defScope s_l_rows_right) := ⟨rfl, rfl, rfl, by decide +kernel, rfl, by decide +kernel, by decide +kernel⟩
theorem eqT_ll {K : W.Frag} {H : Hp} {a b : Addr} {as bs : List Addr} {rows : List (List Str)} (ha : H a = some (.lst (as.map V.ref))) (hb : H b = some (.lst (bs.map V.ref))) (hA : All2 (LsAt H) as rows) (hB : All2 (LsAt H) bs rows) : EqT K H 2 a b true := by
  have e := EqT.lst (K := K) (H := H) (n := 1) (e := fun _ => true) (SqL.of ha) (SqL.of hb) (by rw [List.length_map, List.length_map, hA.len, hB.len]) fun j x y h1 h2 => by
    rw [List.getElem?_map] at h1 h2
    cases e1 : as[j]? with
    | none => rw [e1] at h1; cases h1
    | some u =>
      cases e2 : bs[j]? with
      | none => rw [e2] at h2; cases h2
      | some v =>
        rw [e1] at h1
        rw [e2] at h2
        cases h1
        cases h2
        have hj : j < rows.length := by rw [← hA.len]; exact (List.getElem?_eq_some_iff.mp e1).1
        exact eqD_ofT (eqT_ls (hA.at_ j u rows[j] e1 (List.getElem?_eq_getElem hj)) (hB.at_ j v rows[j] e2 (List.getElem?_eq_getElem hj)))
  rw [all_true] at e
  exact e
def spRf13 : Sp := fun vs H Q _ => ∃ (x r : Addr) (k : Nat) (v : V) (wh : Int), vs = [.ref x, v, .int wh] ∧ Th r H k v ∧ (wh = 0 → withinV 0 3 v = false) ∧ (wh ≠ 0 → withinV 0 5 v = false) ∧ ∀ H', L2.Same H H' → Q (.bl true) H'
def spRR (cc : Nat → Addr) (cw : Addr) : Sp := fun vs H Q _ => ∃ (x b p n l t : Addr) (ss : List Str) (ns : List Nat) (ts : List Addr) (dps ups : List (Str × Str)) (tr : List Str) (m : Nat), vs = [.ref x, .ref n, .ref l, .ref t, .int m] ∧ m ≤ 3 ∧ PlayW cc cw H x b p ss ns dps ups tr ∧ tr.length ≤ 40 ∧ H n = some (.lst (ss.map V.str)) ∧ PL H l ts ups ∧ H t = some (.lst (tr.map V.str)) ∧ ∀ H', L2.Same H H' → Q (.bl true) H'
section
variable {P : Program} {w : World} {K : W.Frag} {mg : Str → Option Value} {base : Heap} {cc : Nat → Addr} {cw : Addr}
theorem Th.eqZ {p : Addr} {H : Hp} {n : Nat} {v : V} {Q : VK} (h : Th p H n v) (q : Q (.bl true) H) : rEqZ K v v H Q := by
  cases h with
  | flat f l => exact .inl (.inl (.inl ⟨f, f, by rw [eqV_self f]; exact q⟩))
  | lst e ne h l => exact .inl (.inl (.inr (.inl ⟨_, _, true, 1, rfl, rfl, by decide, (by
      have z := EqT.lst (K := K) (H := H) (n := 0) (e := fun _ => true) (SqL.of e) (SqL.of e) rfl fun j x y h1 h2 => by rw [h1] at h2; cases h2; exact (h x (List.mem_of_getElem? h1)).eqD
      rw [all_true] at z
      exact z), q⟩)))
  | tup e ne h l => exact .inl (.inl (.inr (.inl ⟨_, _, true, 1, rfl, rfl, by decide, eqT_tt e e rfl fun j x y h1 h2 => by rw [h1] at h2; cases h2; exact (h x (List.mem_of_getElem? h1)).eqD, q⟩)))
  | dct e ne => exact .inl (.inl (.inr (.inr ⟨_, _, rfl, rfl, e, q⟩)))
theorem ok_rf13 {f : Addr} {fd : FuncData} (F : Fun K "_law_refused" "_law_refused" s_l_refused f fd) (T : Txt K mg cc cw) (D_rows_within : DefOk P w K mg base (CX1 P w) 14 "rows_within" ["play", "many"] (spWX cc 3)) (D_all_within : DefOk P w K mg base (CX1 P w) 16 "all_within" ["play", "many"] (spWX cc 5)) : FnOk P w K mg base CX0 17 f fd ["_law_play", "_law_thing", "_law_which"] spRf13 := by
  refine F.ok sc_l_refused (fun vs H Q E h => ?_) fun cdv A outer s H vs Q E hr h => ?_
  · obtain ⟨x, r, k, v, wh, rfl, _⟩ := h; rfl
  · obtain ⟨x, r, k, v, wh, rfl, hv, h0, h1, q⟩ := h
    have hu := u100 hr
    refine ⟨_, (pss_one (ps_try rfl rfl rfl (pss_one (ps_ret pe_bl)))), ?_⟩
    walk_at "vc"
    refine ⟨fun σ c dxo H' => ∃ dy, c = .ref (cc 5) ∧ dxo = some dy ∧ L2.Same H H' ∧ H' dy = some (.xd [(fldn 5, v)]) ∧ σ = [some (.ref x), some v, some (.int wh), none], _, fun pn xe xok_fn => (pss_one (ps_if (pt_cmpR (k_eqZ (K := K) rfl hu) (pv 2) pe_int (nomark _)) (pss_one (ps_expr (pe_defS D_rows_within (hm hr) xok_fn (pa_cons (pv 0) (pa_cons (pv 1) pa_nil))))) (pss_one (ps_expr (pe_defS D_all_within (hm hr) xok_fn (pa_cons (pv 0) (pa_cons (pv 1) pa_nil))))))), ?_, fun a C dx' σ' H' hE ha' => ?_⟩
    · walk_at "vc"
      refine .inl (.inl (.inl ⟨rfl, rfl, ?_⟩))
      walk_at "vc"
      refine ite2 (fun h => ?_) fun h => ?_
      · have h : wh = 0 := by
          have h : eqV (V.int wh) (V.int 0) = true := h
          simpa [eqV] using h
        walk_at "vc"
        exact ⟨x, r, k, v, rfl, hv, h0 h, fun dy H' s' hy => ⟨dy, rfl, rfl, s', hy, rfl⟩⟩
      · have h : wh ≠ 0 := fun e => h (by subst e; rfl)
        walk_at "vc"
        exact ⟨x, r, k, v, rfl, hv, h1 h, fun dy H' s' hy => ⟨dy, rfl, rfl, s', hy, rfl⟩⟩
    · obtain ⟨dy, hc, rfl, s1, hy, rfl⟩ := hE
      cases hc
      refine ⟨_, (ph_as (K := K) rfl sc_l_refused.nd (i := 3) rfl rfl rfl T.m_NoNumbers (pss_one (ps_ret (pe_and (pe_cmpR (k_eqZ (K := K) rfl hu) (k_fldU (K := K) rfl (pv 3) rfl) (pv 1) (nomark _)) (pe_one (pe_cmpR (k_eqZ (K := K) rfl hu) (pe_callB (k_isiU (K := K) rfl) rfl T.b_isinstance boot_isinstance (pa_cons (k_fldU (K := K) rfl (pv 3) rfl) (pa_cons (pe_bltn (v := .ty "bool") rfl T.b_bool boot_bool rfl) pa_nil))) (pe_callB (k_isiU (K := K) rfl) rfl T.b_isinstance boot_isinstance (pa_cons (pv 1) (pa_cons (pe_bltn (v := .ty "bool") rfl T.b_bool boot_bool rfl) pa_nil))) (nomark _)))))) ph_nil), ?_⟩
      refine ⟨true, T.mr5, T.xat 5 (by decide), T.xat 5 (by decide), iteT ?_⟩
      have hv1 := hv.same s1
      obtain ⟨tv, htv, tyv, _⟩ := hv1.ty (K := K)
      have kb := kit_tab K tv htv "bool" (by simp)
      walk_at "vc"
      refine .inr ⟨a, cc 5, dy, _, v, rfl, .inr ha', T.xat 5 (by decide), T.na 5 (by decide), hy, rfl, ?_⟩
      walk_at "vc"
      refine hv1.eqZ ?_
      walk_at "vc"
      refine iteT ?_
      walk_at "vc"
      refine .inr ⟨a, cc 5, dy, _, v, rfl, .inr ha', T.xat 5 (by decide), T.na 5 (by decide), hy, rfl, ?_⟩
      walk_at "vc"
      refine vIsiU (.inl tyv) rfl kb ?_
      walk_at "vc"
      refine vIsiU (.inl tyv) rfl kb ?_
      refine .inl (.inl (.inl ⟨rfl, rfl, ?_⟩))
      have e1 : (if false = true then !eqV (V.bl (isaT tv "bool")) (V.bl (isaT tv "bool")) else eqV (V.bl (isaT tv "bool")) (V.bl (isaT tv "bool"))) = true := by simp [eqV]
      rw [e1]
      exact q _ s1
theorem ok_rr {f : Addr} {fd : FuncData} (F : Fun K "_law_rows_right" "_law_rows_right" s_l_rows_right f fd) (T : Txt K mg cc cw) (D_l_rows : DefOk P w K mg base CX0 6 "_law_rows" ["_law_names_here", "_law_ties_here", "_law_trail", "_law_many"] (fun vs H Q E => ∃ m, m ≤ 3 ∧ spLRw m vs H Q E)) (D_rows_within : DefOk P w K mg base CX0 14 "rows_within" ["play", "many"] (spRW cc cw)) (D_Walk_gone : MethOk P w K mg base CX0 1 (cc 9) "gone" ["self"] (spPg cc cw)) : FnOk P w K mg base CX0 15 f fd ["_law_play", "_law_names_here", "_law_ties_here", "_law_trail", "_law_many"] (spRR cc cw) := by
  refine F.ok sc_l_rows_right (fun vs H Q E h => ?_) fun cdv A outer s H vs Q E hr h => ?_
  · obtain ⟨x, b, p, n, l, t, ss, ns, ts, dps, ups, tr, m, rfl, _⟩ := h; rfl
  · obtain ⟨x, b, p, n, l, t, ss, ns, ts, dps, ups, tr, m, rfl, hmm, hP, l40, hn, hl, ht, q⟩ := h
    have hu := u100 hr
    obtain ⟨dx, hx, hp, hW⟩ := id hP.play
    have few := hW.ok.few
    have hR := hP.row
    obtain ⟨z, hz⟩ : ∃ z, tr.getLast? = some z := ⟨_, List.getLast?_eq_some_getLast hR.ne⟩
    refine ⟨_, (pss_cons (ps_set (i := 5) sc_l_rows_right.nd rfl (Or.inl rfl) (pe_def D_l_rows (hm hr) pass0 (pa_cons (pv 1) (pa_cons (pv 2) (pa_cons (pv 3) (pa_cons (pv 4) pa_nil))))))
  (pss_cons (ps_set (i := 6) sc_l_rows_right.nd rfl (Or.inl rfl) (pe_def D_rows_within (hm hr) pass0 (pa_cons (pv 0) (pa_cons (pv 4) pa_nil))))
  (pss_cons (ps_if (PW.pt (pw_or (pt_not (pt_val (pe_callB (k_isiU (K := K) rfl) rfl T.b_isinstance boot_isinstance (pa_cons (pv 6) (pa_cons (pe_bltn (v := .ty "list") rfl T.b_list boot_list rfl) pa_nil))))) (pw_or (pt_cmpR (k_neU (K := K) rfl hu) (pv 6) (pv 5) (nomark _)) (pw_or1 (pt_cmpR (k_neU (K := K) rfl hu) (pe_meth0Q D_Walk_gone (hm hr) (pv 0)) (pv 3) (nomark _)))))) (pss_one (ps_ret pe_bl)) pss_nil)
  (pss_cons (ps_expr (k_bm (K := K) rfl PySem.F.plainAttrs_list PySem.F.slot_list_append PySem.F.type_list_append mtR_append (pe_ix (k_ixU (K := K) rfl hu) (pv 6) pe_int (fun _ _ => rfl)) (pa_cons pe_str pa_nil)))
  (pss_cons (ps_expr (k_bm0 (K := K) rfl PySem.F.plainAttrs_list PySem.F.slot_list_reverse PySem.F.type_list_reverse mtR_reverse (pv 6)))
  (pss_one (ps_ret (pe_cmpR (k_eqZ (K := K) rfl hu) (pe_def D_rows_within (hm hr) pass0 (pa_cons (pv 0) (pa_cons (pv 4) pa_nil))) (pv 5) (nomark _))))))))), ?_⟩
    walk_at "vc"
    refine ⟨m, hmm, n, l, t, ss, ts, ups, tr, z, rfl, hn, few, hl, ht, by omega, hz, fun du as H1 s1 hdu0 hdu hA => ?_⟩
    walk_at "vc"
    refine ⟨m, hmm, x, b, p, ss, ns, dps, ups, tr, rfl, hP.same s1, by omega, fun to bs H2 s12 hto0 hto hB => ?_⟩
    have s2 := s1.trans s12
    have hA2 : All2 (LsAt H2) as (rwN ups ss m tr) := hA.mono fun _ _ z => s12 _ _ z.2.2
    walk_at "vc"
    refine vIsiU (.inl (.lst hto)) rfl (kit_tab K "list" (by simp) "list" (by simp)) ?_
    walk_at "vc"
    refine ite2 (fun h => absurd h (by decide)) fun _ => ?_
    walk_at "vc"
    refine .inr (.inl ⟨to, du, true, 2, rfl, rfl, by decide, eqT_ll hto (s12 _ _ hdu) (hB.mono fun _ _ z => z.2.2) hA2, ?_⟩)
    walk_at "vc"
    refine ite2 (fun h => by cases h) fun _ => ?_
    walk_at "vc"
    refine ⟨x, dx, _, rfl, s2 _ _ hx, lkp_no (by decide +kernel), ?_⟩
    walk_at "vc"
    refine ⟨x, b, p, ss, ns, tr, rfl, hP.play.same s2, fun gl hgl => ?_⟩
    have s23 := Snew (L2.Same.refl H2) (o := .lst (tr.map V.str)) hgl
    have egl : upd H2 gl (.lst (tr.map V.str)) gl = some (.lst (tr.map V.str)) := upd_same
    have s13 := s12.trans s23
    have s3 := s1.trans s13
    replace hB : All2 (NwAt H1 to (upd H2 gl (.lst (tr.map V.str)))) bs (rwN ups ss m tr) := hB.mono fun _ _ z => ⟨z.1, z.2.1, s23 _ _ z.2.2⟩
    replace hto := s23 _ _ hto
    generalize upd H2 gl (.lst (tr.map V.str)) = H3 at s13 s3 egl hB hto ⊢
    walk_at "vc"
    refine .inr (.inl ⟨gl, t, true, 1, rfl, rfl, by decide, eqT_ls egl (s3 _ _ ht), ?_⟩)
    walk_at "vc"
    refine ite2 (fun h => by cases h) fun _ => ?_
    walk_at "vc"
    obtain ⟨row0, hrow0⟩ : ∃ row, (rwN ups ss m tr)[0]? = some row := by
      cases m with
      | zero => exact ⟨[], rfl⟩
      | succ k => exact ⟨[], rfl⟩
    obtain ⟨b0, hb0⟩ : ∃ b0, bs[0]? = some b0 := ⟨_, List.getElem?_eq_getElem (show 0 < bs.length by rw [hB.len]; exact (List.getElem?_eq_some_iff.mp hrow0).1)⟩
    have hb := hB.at_ 0 b0 row0 hb0 hrow0
    have hrl := rwN_row m tr row0 (List.mem_of_getElem? hrow0)
    have hat : atI (bs.map V.ref) 0 = some (.ref b0) := atI_nat (j := 0) (by rw [List.getElem?_map, hb0]; rfl)
    refine .inl (vIxL hto hat ?_)
    walk_at "vc"
    refine ⟨.inl ⟨rfl, _, SqL.of hb.2.2⟩, ?_⟩
    walk_at "vc"
    refine ⟨b0, _, _, rfl, rfl, hb.2.2, by rw [List.length_map]; exact small1000 (by omega), ?_⟩
    have b4 := (But.refl b0 H3).put (o := .lst (row0.map V.str ++ [.str "zz"]))
    have s14 := same_but s13 b4 hb.1
    have hto4 := b4 _ _ hb.2.1.symm hto
    generalize upd H3 b0 (.lst (row0.map V.str ++ [.str "zz"])) = H4 at s14 hto4 ⊢
    walk_at "vc"
    refine ⟨.inl ⟨rfl, _, SqL.of hto4⟩, ?_⟩
    walk_at "vc"
    refine ⟨to, _, rfl, rfl, hto4, ?_⟩
    have b5 := (But.refl to H4).put (o := .lst (bs.map V.ref).reverse)
    have s15 := same_but s14 b5 hto0
    generalize upd H4 to (.lst (bs.map V.ref).reverse) = H5 at s15 ⊢
    have s5 := s1.trans s15
    walk_at "vc"
    refine ⟨m, hmm, x, b, p, ss, ns, dps, ups, tr, rfl, hP.same s5, by omega, fun to2 cs H6 s56 hto20 hto2 hC => ?_⟩
    have s16 := s15.trans s56
    walk_at "vc"
    refine .inl (.inl (.inr (.inl ⟨to2, du, true, 2, rfl, rfl, by decide, eqT_ll hto2 (s16 _ _ hdu) (hC.mono fun _ _ z => z.2.2) (hA.mono fun _ _ z => s16 _ _ z.2.2), ?_⟩)))
    exact q _ (s5.trans s56)
end
/- law: calls ['_law_names', '_law_cell', '_law_ties', '_law_moves', '_law_numbers', 'all_within', '_law_count', '_law_whole', '_law_rows_right', '_law_refused']; cells [] -/
abbrev s_law : Stmt := top 48
theorem sc_law : FnScope ["_law_script", "_law_names_here", "_law_ties_here", "_law_web", "_law_trail", "_law_play", "_law_beside", "_law_name", "_law_number", "_law_moves_here", "_law_most", "_law_order", "_law_many", "_law_told", "_law_thing"] ["_law_script"] (defScope s_law) := ⟨rfl, rfl, rfl, by decide +kernel, rfl, by decide +kernel, by decide +kernel⟩
def But2 (p t : Addr) (H H' : Hp) : Prop := ∀ c o, c ≠ p → c ≠ t → H c = some o → H' c = some o
structure LK (cp cw : Addr) (HB H : Hp) (x b p t : Addr) (ss : List Str) (ns : List Nat) (tr : List Str) : Prop where
  same : L2.Same HB H
  web : WebAt cw HB b ss ns
  play : PlayAt cp cw H x b p ss ns tr
  row : RowOk ss ns tr
  tr : H t = some (.lst (tr.map V.str))
  np : t ≠ p
  p5 : HB p = none
  t5 : HB t = none
section
variable {cp cw : Addr} {HB H H' : Hp} {x b p t : Addr} {ss : List Str} {ns : List Nat} {tr : List Str}
theorem LK.on (h : LK cp cw HB H x b p t ss ns tr) (s : L2.Same H H') : LK cp cw HB H' x b p t ss ns tr := ⟨h.same.trans s, h.web, h.play.same s, h.row, s _ _ h.tr, h.np, h.p5, h.t5⟩
theorem LK.chg (h : LK cp cw HB H x b p t ss ns tr) {row : List Str} (k : But2 p t H H') (e1 : H' p = some (.lst (row.map V.str))) (e2 : H' t = some (.lst (row.map V.str))) (hR : RowOk ss ns row) : LK cp cw HB H' x b p t ss ns row := by
  have s : L2.Same HB H' := fun c o e => k c o (fun z => by rw [z, h.p5] at e; cases e) (fun z => by rw [z, h.t5] at e; cases e) (h.same _ _ e)
  obtain ⟨dx, hx, hp, _⟩ := h.play
  exact ⟨s, h.web, ⟨dx, k _ _ (ne_of hx hp (by intro z; cases z)) (ne_of hx h.tr (by intro z; cases z)) hx, e1, h.web.same s⟩, hR, e2, h.np, h.p5, h.t5⟩
theorem LK.twin (h : LK cp cw HB H x b p t ss ns tr) {x' p' : Addr} (s : L2.Same H H') (hp0 : H p' = none) (hP : PlayAt cp cw H' x' b p' ss ns tr) : LK cp cw HB H' x' b p' t ss ns tr :=
  ⟨h.same.trans s, h.web, hP, h.row, s _ _ h.tr, (fun e => by rw [← e, h.tr] at hp0; cases hp0), h.same.free hp0, h.t5⟩
end
theorem LK.w {cc : Nat → Addr} {cw : Addr} {HB H : Hp} {x b p t : Addr} {ss : List Str} {ns : List Nat} {tr : List Str} {dps ups : List (Str × Str)} (h : LK (cc 9) cw HB H x b p t ss ns tr) (hD : Duo ss ns dps ups) : PlayW cc cw H x b p ss ns dps ups tr := ⟨h.play, hD, h.row, HB, h.same, h.p5, h.web⟩
theorem row_init {ss : List Str} {ns : List Nat} {r : List Str} {z : Str} (hR : RowOk ss ns (r ++ [z])) (hr0 : r ≠ []) : RowOk ss ns r := by
  refine ⟨hr0, by have := hR.few; rw [List.length_append] at this; omega, fun s hs => hR.ins s (List.mem_append_left _ hs), fun j y u g1 g2 => ?_⟩
  have hj : j + 1 < r.length := (List.getElem?_eq_some_iff.mp g2).1
  have := hR.mv j y u (by rw [List.getElem?_append_left (by omega)]; exact g1) (by rw [List.getElem?_append_left hj]; exact g2)
  rw [List.take_append_of_le_length (by omega)] at this
  exact this
theorem eq_nil {K : W.Frag} {H : Hp} {a e : Addr} {xs : List Str} (ha : H a = some (.lst (xs.map V.str))) (he : H e = some (.lst [])) : EqT K H 1 a e (decide (xs = [])) := by
  cases xs with
  | nil =>
    have z' := EqT.lst (K := K) (H := H) (n := 0) (e := fun _ => true) (SqL.of ha) (SqL.of he) rfl fun j x y h1 h2 => by simp at h1
    rw [all_true] at z'
    exact z'
  | cons s r => exact .lstL (SqL.of ha) (SqL.of he) (by simp)
def forWith (s : Stmt) (es : List Expr) : Stmt := match s with
  | .For t (.List _ lp) b o p => .For t (.List es lp) b o p
  | s => s
abbrev bAt (s : Stmt) (i : Nat) : Stmt := (defBody s).getD i (.Pass ⟨0, 0, 0, 0⟩)
theorem law_parts : ∃ es, defBody s_law = [bAt s_law 0, bAt s_law 1, bAt s_law 2, bAt s_law 3, bAt s_law 4, bAt s_law 5, bAt s_law 6, bAt s_law 7, bAt s_law 8, bAt s_law 9, bAt s_law 10, bAt s_law 11, bAt s_law 12, forWith (bAt s_law 13) es, bAt s_law 14] ∧ ∀ (env : Env) (PE' : Expr → TE → Prop) (PA' : List Expr → TA → Prop),
    (∀ j pos, PE' (.Constant .none j pos) (tC .non)) → (∀ i j pos, PE' (.Constant (.int i) j pos) (tC (.int i))) → (∀ b j pos, PE' (.Constant (.bool b) j pos) (tC (.bl b))) → (∀ x j pos, PE' (.Constant (.str x) j pos) (tC (.str x))) →
    (∀ es pos t, PA' es t → PE' (.List es pos) (tLst t)) → (∀ es x1 pos t, PA' es t → PE' (.Tuple es x1 pos) (tTup t)) → (∀ pos, PE' (.Dict [] [] pos) tDNewK) →
    (∀ e pos te, PE' e te → PE' (.UnaryOp .USub e pos) (tUn (rU fun i => .int (-i)) te)) → (∀ e f pos te tf, PE' e te → PE' f tf → PE' (.BinOp e .Pow f pos) (tOp (rI CPow fun i j => .int (i ^ j.toNat)) te tf)) → PA' [] tNil →
    (∀ e es te t, PE' e te → PA' es t → starEach (e :: es) env = (false, eval e env) :: starEach es env → PA' (e :: es) (tCons te t)) →
    PA' es (tCons (tUn (rU fun i => .int (-i)) (tC (.int 1))) (tCons (tC (.int 6)) (tCons (tC (.bl true)) (tCons (tC (.bl false)) (tCons (tC .non) (tCons (tC (.str "1")) (tCons (tLst (tCons (tC (.int 1)) tNil)) (tCons (tTup (tCons (tC (.int 2)) tNil)) (tCons tDNewK (tCons (tOp (rI CPow fun i j => .int (i ^ j.toNat)) (tC (.int 10)) (tC (.int 30))) (tCons (tUn (rU fun i => .int (-i)) (tOp (rI CPow fun i j => .int (i ^ j.toNat)) (tC (.int 10)) (tC (.int 20)))) tNil))))))))))) :=
  ⟨_, rfl, fun env PE' PA' hn hi hb hs hl ht hd hu hp h0 hc => hc _ _ _ _ (hu _ _ _ (hi _ _ _)) (hc _ _ _ _ (hi _ _ _) (hc _ _ _ _ (hb _ _ _) (hc _ _ _ _ (hb _ _ _) (hc _ _ _ _ (hn _ _) (hc _ _ _ _ (hs _ _ _) (hc _ _ _ _ (hl _ _ _ (hc _ _ _ _ (hi _ _ _) h0 rfl)) (hc _ _ _ _ (ht _ _ _ _ (hc _ _ _ _ (hi _ _ _) h0 rfl)) (hc _ _ _ _ (hd _) (hc _ _ _ _ (hp _ _ _ _ _ (hi _ _ _) (hi _ _ _)) (hc _ _ _ _ (hu _ _ _ (hp _ _ _ _ _ (hi _ _ _) (hi _ _ _))) h0 rfl) rfl) rfl) rfl) rfl) rfl) rfl) rfl) rfl) rfl) rfl⟩
section
variable {P : Program} {w : World} {K : W.Frag} {mg : Str → Option Value} {base : Heap} {cc : Nat → Addr} {cw : Addr}
theorem ok_law13 {f : Addr} {fd : FuncData} (F : Fun K "law" "law" s_law f fd) (T : Txt K mg cc cw) (D_l_cell : DefOk P w K mg base CX0 1 "_law_cell" ["_law_script", "_law_k"] (spCl K)) (D_l_names : DefOk P w K mg base CX0 2 "_law_names" ["_law_cell_here"] spNm) (D_l_ties : DefOk P w K mg base CX0 2 "_law_ties" ["_law_names_here", "_law_cell_here"] spT2) (QD_Web : MakeOk P w K mg base CX0 5 cw "Web" ["self", "names", "ties"] (fun vs H Q _ => spWeb cc cw vs H Q E0)) (D_Web_places : MethOk P w K mg base CX0 1 cw "places" ["self"] (spPls cw))
    (D_Play : MakeOk P w K mg base CX0 5 (cc 9) "Play" ["self", "web", "start"] (spWkI cc cw)) (D_l_numbers : DefOk P w K mg base CX0 1 "_law_numbers" ["_law_cell_here", "_law_bases", "_law_prime"] spNs) (D_l_moves : DefOk P w K mg base CX0 2 "_law_moves" ["_law_names_here", "_law_ties_here", "_law_trail"] spMv) (D_Play_go : MethOk P w K mg base CX0 9 (cc 9) "go" ["self", "name"] (spPgo cc cw)) (D_Walk_back : MethOk P w K mg base CX0 1 (cc 9) "back" ["self"] (spPb cc cw)) (D_Walk_gone : MethOk P w K mg base CX0 1 (cc 9) "gone" ["self"] (spPg cc cw)) (D_Play_twin : MethOk P w K mg base CX0 11 (cc 9) "twin" ["self"] (spTw cc cw))
    (D_all_within : DefOk P w K mg base CX0 16 "all_within" ["play", "many"] (spCW cc cw)) (D_l_whole : DefOk P w K mg base CX0 1 "_law_whole" ["_law_thing"] spWh) (D_l_count : DefOk P w K mg base CX0 7 "_law_count" ["_law_beside", "_law_trail", "_law_many"] (fun vs H Q E => ∃ m, m ≤ 5 ∧ spLC m vs H Q E)) (D_l_rows_right : DefOk P w K mg base CX0 15 "_law_rows_right" ["_law_play", "_law_names_here", "_law_ties_here", "_law_trail", "_law_many"] (spRR cc cw)) (D_l_refused : DefOk P w K mg base CX0 17 "_law_refused" ["_law_play", "_law_thing", "_law_which"] spRf13) : FnOk P w K mg base CX0 18 f fd ["_law_script"] (spLaw K) := by
  refine F.ok sc_law (fun vs H Q E h => ?_) fun cdv A outer s H vs Q E hr h => ?_
  · obtain ⟨a, ns, rfl, _⟩ := h; rfl
  · obtain ⟨a, nz, rfl, hS, hlen, q⟩ := h
    have hu := u100 hr
    obtain ⟨TC103, hTC103⟩ : ∃ t' : TS, t' = fun D σ H' => (∀ u H', Q u H' → D.rt u H') ∧ ∃ (HB : Hp) (x b p n l t d od : Addr) (ss : List Str) (ns : List Nat) (tr : List Str) (ol : List V) (m : Nat) (x7 x8 x9 x10 x13 : Option V), LK (cc 9) cw HB H' x b p t ss ns tr ∧ m ≤ 5 ∧ tr.length ≤ 40 ∧ H' od = some (.lst ol) ∧ od ≠ p ∧ od ≠ t ∧
      (∀ (H'' : Hp) (x p : Addr) (tr : List Str) (x12 x13 : Option V), LK (cc 9) cw HB H'' x b p t ss ns tr → tr.length ≤ 40 → H'' od = some (.lst ol) → od ≠ p → D.nx [some (.ref a), some (.ref n), some (.ref l), some (.ref b), some (.ref t), some (.ref x), some (.ref d), x7, x8, x9, x10, some (.ref od), x12, x13, none] H'') ∧
      σ = [some (.ref a), some (.ref n), some (.ref l), some (.ref b), some (.ref t), some (.ref x), some (.ref d), x7, x8, x9, x10, some (.ref od), some (.int m), x13, none] := ⟨_, rfl⟩
    obtain ⟨TC12, hTC12⟩ : ∃ t' : TS, t' = fun D σ H' => (∀ u H', Q u H' → D.rt u H') ∧ ∃ (HB : Hp) (x b p n l t d od : Addr) (ss : List Str) (ns : List Nat) (ts : List Addr) (dps ups : List (Str × Str)) (tr : List Str) (ol : List V) (x7 x8 x9 x10 : Option V), LK (cc 9) cw HB H' x b p t ss ns tr ∧ tr.length ≤ 40 ∧ H' od = some (.lst ol) ∧ od ≠ p ∧ od ≠ t ∧ (∀ y ∈ ol, ∃ k : Nat, k ≤ 5 ∧ y = .int k) ∧ Duo ss ns dps ups ∧ HB n = some (.lst (ss.map V.str)) ∧ PL HB l ts ups ∧ BesAt HB d ss ups ∧
      σ = [some (.ref a), some (.ref n), some (.ref l), some (.ref b), some (.ref t), some (.ref x), some (.ref d), x7, x8, x9, x10, some (.ref od), none, none, none] := ⟨_, rfl⟩
    obtain ⟨es7, hbody, hPA⟩ := law_parts
    rw [hbody]
    refine ⟨_, (pss_cons (ps_set (i := 1) sc_law.nd rfl (Or.inl rfl) (pe_def D_l_names (hm hr) pass0 (pa_cons (pe_def D_l_cell (hm hr) pass0 (pa_cons (pv 0) (pa_cons pe_int pa_nil))) pa_nil)))
  (pss_cons (ps_set (i := 2) sc_law.nd rfl (Or.inl rfl) (pe_def D_l_ties (hm hr) pass0 (pa_cons (pv 1) (pa_cons (pe_def D_l_cell (hm hr) pass0 (pa_cons (pv 0) (pa_cons pe_int pa_nil))) pa_nil))))
  (pss_cons (ps_set (i := 3) sc_law.nd rfl (Or.inl rfl) (pe_makeQ QD_Web (hm hr) (pa_cons (pv 1) (pa_cons (pv 2) pa_nil))))
  (pss_cons (ps_if (pt_cmpR (k_eqZ (K := K) rfl hu) (pv 1) (pe_lst pa_nil) (nomark _)) (pss_one (ps_ret (pe_cmpR (k_eqZ (K := K) rfl hu) (pe_meth0Q D_Web_places (hm hr) (pv 3)) (pe_lst pa_nil) (nomark _)))) pss_nil)
  (pss_cons (ps_set (i := 4) sc_law.nd rfl (Or.inl rfl) (pe_lst (pa_cons (pe_ix (k_ixU (K := K) rfl hu) (pv 1) (pe_op op_mod (pe_def D_l_cell (hm hr) pass0 (pa_cons (pv 0) (pa_cons pe_int pa_nil))) (pe_callB (k_len (K := K) rfl) rfl T.b_len boot_len (pa_cons (pv 1) pa_nil))) (fun _ _ => rfl)) pa_nil)))
  (pss_cons (ps_set (i := 5) sc_law.nd rfl (Or.inl rfl) (pe_makeQ D_Play (hm hr) (pa_cons (pv 3) (pa_cons (pe_ix (k_ixU (K := K) rfl hu) (pv 4) pe_int (fun _ _ => rfl)) pa_nil))))
  (pss_cons (ps_set (i := 6) sc_law.nd rfl (Or.inl rfl) pe_dnewK)
  (pss_cons (ps_for PassesOwn.never rfl (ki_any (K := K) rfl (pv 1)) (pg_name (i := 7) sc_law.nd rfl (Or.inl rfl))
  (pss_one (ps_asg (pe_def D_l_moves (hm hr) pass0 (pa_cons (pv 1) (pa_cons (pv 2) (pa_cons (pe_lst (pa_cons (pv 7) pa_nil)) pa_nil)))) (pg_sub (pv 6) (pv 7) (k_setU hu)))))
  (pss_cons (ps_for PassesOwn.never rfl (ki_any (K := K) rfl (pe_def D_l_numbers (hm hr) pass0 (pa_cons (pe_def D_l_cell (hm hr) pass0 (pa_cons (pv 0) (pa_cons pe_int pa_nil))) (pa_cons (pe_lst (pa_cons pe_int (pa_cons pe_int (pa_cons pe_int (pa_cons pe_int (pa_cons pe_int pa_nil)))))) (pa_cons pe_int pa_nil))))) (pg_name (i := 8) sc_law.nd rfl (Or.inl rfl))
  (pss_cons (ps_set (i := 9) sc_law.nd rfl (Or.inl rfl) (pe_def D_l_moves (hm hr) pass0 (pa_cons (pv 1) (pa_cons (pv 2) (pa_cons (pv 4) pa_nil)))))
  (pss_one (ps_if (PW.pt (pw_and (pt_cmpR (k_neU (K := K) rfl hu) (pv 9) (pe_lst pa_nil) (nomark _)) (pw_and1 (pt_cmpR op_lt (pv 8) pe_int (nomark _))))) (pss_cons (ps_expr (k_bm (K := K) rfl PySem.F.plainAttrs_list PySem.F.slot_list_append PySem.F.type_list_append mtR_append (pv 4) (pa_cons (pe_ix (k_ixU (K := K) rfl hu) (pv 9) (pe_op op_mod (pv 8) (pe_callB (k_len (K := K) rfl) rfl T.b_len boot_len (pa_cons (pv 9) pa_nil))) (fun _ _ => rfl)) pa_nil)))
  (pss_one (ps_expr (pe_methQ D_Play_go (hm hr) (pv 5) (pa_cons (pe_ix (k_ixU (K := K) rfl hu) (pv 4) (pe_un un_neg pe_int) (fun _ _ => rfl)) pa_nil))))) pss_nil))))
  (pss_cons (ps_set (i := 10) sc_law.nd rfl (Or.inl rfl) (pe_op op_sub pe_int (pe_op u_mul pe_int (pe_callTy call_int1 rfl T.b_int boot_int (pa_cons (pe_cmpR op_gt (pe_callB (k_len (K := K) rfl) rfl T.b_len boot_len (pa_cons (pv 1) pa_nil)) pe_int (nomark _)) pa_nil)))))
  (pss_cons (ps_set (i := 11) sc_law.nd rfl (Or.inl rfl) (pe_lrng rfl rfl rfl T.b_list T.b_range (pa_cons (pe_op (k_add (K := K) rfl) (pv 10) pe_int) pa_nil)))
  (pss_cons (ps_if (pt_cmpR (k_eqZ (K := K) rfl hu) (pe_op op_mod (pe_def D_l_cell (hm hr) pass0 (pa_cons (pv 0) (pa_cons pe_int pa_nil))) pe_int) pe_int (nomark _)) (pss_one (ps_expr (k_bm0 (K := K) rfl PySem.F.plainAttrs_list PySem.F.slot_list_reverse PySem.F.type_list_reverse mtR_reverse (pv 11)))) pss_nil)
  (pss_cut TC12 (pss_cons (ps_for PassesOwn.never rfl (ki_any (K := K) rfl (pv 11)) (pg_name (i := 12) sc_law.nd rfl (Or.inl rfl))
  (pss_cons (ps_set (i := 13) sc_law.nd rfl (Or.inl rfl) (pe_def D_all_within (hm hr) pass0 (pa_cons (pv 5) (pa_cons (pv 12) pa_nil))))
  (pss_cons (ps_if (PW.pt (pw_or (pt_not (pt_val (pe_def D_l_whole (hm hr) pass0 (pa_cons (pv 13) pa_nil)))) (pw_or (pt_cmpR (k_neU (K := K) rfl hu) (pv 13) (pe_def D_l_count (hm hr) pass0 (pa_cons (pv 6) (pa_cons (pv 4) (pa_cons (pv 12) pa_nil)))) (nomark _)) (pw_or1 (pt_cmpR (k_neU (K := K) rfl hu) (pe_meth0Q D_Walk_gone (hm hr) (pv 5)) (pv 4) (nomark _)))))) (pss_one (ps_ret pe_bl)) pss_nil)
  (pss_cons (ps_if (PW.pt (pw_and (pt_cmpR op_lt (pv 12) pe_int (nomark _)) (pw_and1 (pt_not (pt_val (pe_def D_l_rows_right (hm hr) pass0 (pa_cons (pv 5) (pa_cons (pv 1) (pa_cons (pv 2) (pa_cons (pv 4) (pa_cons (pv 12) pa_nil))))))))))) (pss_one (ps_ret pe_bl)) pss_nil)
  (pss_cut TC103 (pss_one (ps_if (PW.pt (pw_and (pt_cmpR op_gt (pe_callB (k_len (K := K) rfl) rfl T.b_len boot_len (pa_cons (pv 4) pa_nil)) pe_int (nomark _)) (pw_and1 (pt_cmpR (k_eqZ (K := K) rfl hu) (pe_op op_mod (pv 12) pe_int) pe_int (nomark _))))) (pss_cons (ps_if (pt_cmpR (k_neU (K := K) rfl hu) (pe_meth0Q D_Walk_back (hm hr) (pv 5)) (k_bm0 (K := K) rfl PySem.F.plainAttrs_list PySem.F.slot_list_pop PySem.F.type_list_pop mtR_pop (pv 4)) (nomark _)) (pss_one (ps_ret pe_bl)) pss_nil)
  (pss_one (ps_set (i := 5) sc_law.nd rfl (Or.inl rfl) (pe_ix (k_ixU (K := K) rfl hu) (pe_lst (pa_cons (pv 5) (pa_cons (pe_meth0Q D_Play_twin (hm hr) (pv 5)) pa_nil))) (pe_op op_fdiv (pe_op op_mod (pv 12) pe_int) pe_int) (fun _ _ => rfl))))) pss_nil)) ?cut103)))))
  (pss_cons (ps_for PassesOwn.never rfl (ki_any (K := K) rfl (pe_lst (hPA _ _ _ (fun _ _ => pe_non) (fun _ _ _ => pe_int) (fun _ _ _ => pe_bl) (fun _ _ _ => pe_str) (fun _ _ _ h => pe_lst h) (fun _ _ _ _ h => pe_tup h) (fun _ => pe_dnewK) (fun _ _ _ h => pe_un un_neg h) (fun _ _ _ _ _ h1 h2 => pe_op op_pow h1 h2) pa_nil fun _ _ _ _ ha hr hs => pa_cons ha hr hs))) (pg_name (i := 14) sc_law.nd rfl (Or.inl rfl))
  (pss_one (ps_if (PW.pt (pw_or (pt_not (pt_val (pe_def D_l_refused (hm hr) pass0 (pa_cons (pv 5) (pa_cons (pv 14) (pa_cons pe_int pa_nil)))))) (pw_or1 (pt_not (pt_val (pe_def D_l_refused (hm hr) pass0 (pa_cons (pv 5) (pa_cons (pv 14) (pa_cons pe_int pa_nil))))))))) (pss_one (ps_ret pe_bl)) pss_nil)))
  (pss_one (ps_ret (pe_and (pe_def D_l_refused (hm hr) pass0 (pa_cons (pv 5) (pa_cons pe_int (pa_cons pe_int pa_nil)))) (pe_and (pe_def D_l_refused (hm hr) pass0 (pa_cons (pv 5) (pa_cons pe_int (pa_cons pe_int pa_nil)))) (pe_one (pe_cmpR (k_eqZ (K := K) rfl hu) (pe_meth0Q D_Walk_gone (hm hr) (pv 5)) (pv 4) (nomark _))))))))) ?cut12))))))))))))), ?_⟩
    case cut12 =>
      intro D σ H1 h
      rw [hTC12] at h
      obtain ⟨hD', HB, x, b, p, n, l, t, d, od, ss, ns, ts, dps, ups, tr, ol, x7, x8, x9, x10, hK, l40, hod, nop, not', hol, hDu, hn, hl, hbs, rfl⟩ := h
      have few := hK.web.ok.few
      walk_at "vc"
      refine .inl ⟨⟨_, SqL.of hod⟩, for_list (K := K) (fun i σ H' => ∃ (x p : Addr) (tr : List Str) (x12 x13 : Option V), LK (cc 9) cw HB H' x b p t ss ns tr ∧ tr.length ≤ 40 ∧ H' od = some (.lst ol) ∧ od ≠ p ∧ σ = [some (.ref a), some (.ref n), some (.ref l), some (.ref b), some (.ref t), some (.ref x), some (.ref d), x7, x8, x9, x10, some (.ref od), x12, x13, none]) ⟨x, p, tr, none, none, hK, l40, hod, nop, rfl⟩ (fun i σ H' _ hp => by obtain ⟨_, _, _, _, _, _, _, e, _⟩ := hp; exact SqL.of e) (fun i y σ J hy hp => ?_) fun σ J hp => ?_⟩
      · obtain ⟨x, p, tr, x12, x13, hK, l40, hod, nop, rfl⟩ := hp
        obtain ⟨m, hm5, rfl⟩ := hol y (List.mem_of_getElem? hy)
        obtain ⟨z, hz⟩ : ∃ z, tr.getLast? = some z := ⟨_, List.getLast?_eq_some_getLast hK.row.ne⟩
        have hzs : z ∈ ss := hK.row.ins z (List.mem_of_getLast? hz)
        walk_at "vc"
        refine ⟨m, hm5, x, b, p, ss, ns, dps, ups, tr, rfl, hK.w hDu, by omega, fun J1 s1 => ?_⟩
        replace hK := hK.on s1
        replace hod := s1 _ _ hod
        walk_at "vc"
        refine ⟨x, 0, _, rfl, Th.flat rfl (fun z e => by cases e), ?_⟩
        walk_at "vc"
        refine ite2 (fun h => by cases h) fun _ => ?_
        walk_at "vc"
        refine ⟨m, hm5, d, t, ss, ups, tr, z, rfl, hbs.same hK.same, few, hK.tr, by omega, hz, hzs, fun J2 s2 => ?_⟩
        replace hK := hK.on s2
        replace hod := s2 _ _ hod
        walk_at "vc"
        refine .inl ⟨rfl, rfl, ?_⟩
        rw [eqV_self rfl]
        walk_at "vc"
        refine ite2 (fun h => by cases h) fun _ => ?_
        obtain ⟨dx, hx, hp, _⟩ := id hK.play
        walk_at "vc"
        refine ⟨x, dx, _, rfl, hx, lkp_no (by decide +kernel), ?_⟩
        walk_at "vc"
        refine ⟨x, b, p, ss, ns, tr, rfl, hK.play, fun gl hgl => ?_⟩
        have s23 := Snew (L2.Same.refl J2) (o := .lst (tr.map V.str)) hgl
        have egl : upd J2 gl (.lst (tr.map V.str)) gl = some (.lst (tr.map V.str)) := upd_same
        replace hK := hK.on s23
        replace hod := s23 _ _ hod
        generalize upd J2 gl (.lst (tr.map V.str)) = J3 at egl hK hod ⊢
        walk_at "vc"
        refine .inr (.inl ⟨gl, t, true, 1, rfl, rfl, by decide, eqT_ls egl hK.tr, ?_⟩)
        walk_at "vc"
        refine ite2 (fun h => by cases h) fun _ => ?_
        walk_at "vc"
        refine ite2 (fun h4 => ?_) fun h4 => ite2 (fun h => by first | cases h | contradiction) fun _ => ?_
        · have hm3 : m ≤ 3 := by have := of_decide_eq_true h4; omega
          walk_at "vc"
          refine ⟨x, b, p, n, l, t, ss, ns, ts, dps, ups, tr, m, rfl, hm3, hK.w hDu, l40, hK.same _ _ hn, hl.same hK.same, hK.tr, fun J4 s4 => ?_⟩
          walk_at "vc"
          refine ite2 (fun h => by cases h) fun _ => ?_
          show TC103 _ _ _
          rw [hTC103]
          exact ⟨hD', HB, x, b, p, n, l, t, d, od, ss, ns, tr, ol, m, x7, x8, x9, x10, _, hK.on s4, hm5, l40, s4 _ _ hod, nop, not', (fun H'' x' p' tr' x12 x13 h1 h2 h3 h4 => ⟨x', p', tr', x12, x13, h1, h2, h3, h4, rfl⟩), rfl⟩
        · show TC103 _ _ _
          rw [hTC103]
          exact ⟨hD', HB, x, b, p, n, l, t, d, od, ss, ns, tr, ol, m, x7, x8, x9, x10, _, hK, hm5, l40, hod, nop, not', (fun H'' x' p' tr' x12 x13 h1 h2 h3 h4 => ⟨x', p', tr', x12, x13, h1, h2, h3, h4, rfl⟩), rfl⟩
      · obtain ⟨x, p, tr, x12, x13, hK, l40, hod, nop, rfl⟩ := hp
        obtain ⟨wx, dd, ol', nn, hb, _⟩ := id (hK.web.same hK.same)
        walk_at "vc"
        refine vU ?_
        walk_at "vc"
        refine ⟨by show 1 ≤ sizeLine; decide, fun g1 hg1 => ?_⟩
        have s1 := Snew (L2.Same.refl J) (o := .lst [.int 1]) hg1
        have eg1 : upd J g1 (.lst [.int 1]) g1 = some (.lst [.int 1]) := upd_same
        generalize upd J g1 (.lst [.int 1]) = J1 at s1 eg1 ⊢
        walk_at "vc"
        refine ⟨by show 1 ≤ sizeLine; decide, fun g2 hg2 => ?_⟩
        have s12 := Snew (L2.Same.refl J1) (o := .tup [.int 2]) hg2
        have eg2 : upd J1 g2 (.tup [.int 2]) g2 = some (.tup [.int 2]) := upd_same
        have s2 := s1.trans s12
        replace eg1 := s12 _ _ eg1
        generalize upd J1 g2 (.tup [.int 2]) = J2 at s2 eg1 eg2 ⊢
        clear s12
        walk_at "vc"
        intro g3 hg3
        have s23 := Snew (L2.Same.refl J2) (o := .dK []) hg3
        have eg3 : upd J2 g3 (.dK []) g3 = some (.dK []) := upd_same
        have s3 := s2.trans s23
        replace eg1 := s23 _ _ eg1
        replace eg2 := s23 _ _ eg2
        generalize upd J2 g3 (.dK []) = J3 at s3 eg1 eg2 eg3 ⊢
        clear s23
        walk_at "vc"
        refine vI ⟨by decide, by decide, by decide⟩ ?_
        walk_at "vc"
        refine vI ⟨by decide, by decide, by decide⟩ ?_
        refine vU ?_
        walk_at "vc"
        refine ⟨by show 11 ≤ sizeLine; decide, fun th hth => ?_⟩
        obtain ⟨L0, hL0⟩ : ∃ L0, L0 = [V.int (-1), .int 6, .bl true, .bl false, .non, .str "1", .ref g1, .ref g2, .ref g3, .int (10 ^ (30 : Int).toNat), .int (-10 ^ (20 : Int).toNat)] := ⟨_, rfl⟩
        rw [← hL0]
        have hrr : ∀ {H' : Hp} {c : Addr} {xs : List V}, L2.Same J H' → (H' c = some (.lst xs) ∨ H' c = some (.tup xs)) → c ≠ b := fun s' h e => by
          have hr' := s' _ _ hb
          rw [e, hr'] at h
          rcases h with h | h <;> cases h
        have hrd : g3 ≠ b := fun e => by
          have hr' := s3 _ _ hb
          rw [← e, eg3] at hr'
          cases hr'
        have hB : ∀ v ∈ L0, Th b J3 2 v ∧ withinV 0 3 v = false ∧ withinV 0 5 v = false := fun v hv => by
          rw [hL0] at hv
          simp only [List.mem_cons, List.not_mem_nil, or_false] at hv
          have fl : ∀ i : Int, Th b J3 2 (.int i) := fun i => Th.flat rfl (fun z e => by cases e)
          rcases hv with rfl | rfl | rfl | rfl | rfl | rfl | rfl | rfl | rfl | rfl | rfl
          · exact ⟨fl _, by decide, by decide⟩
          · exact ⟨fl _, by decide, by decide⟩
          · exact ⟨Th.flat rfl (fun z e => by cases e), rfl, rfl⟩
          · exact ⟨Th.flat rfl (fun z e => by cases e), rfl, rfl⟩
          · exact ⟨Th.flat rfl (fun z e => by cases e), rfl, rfl⟩
          · exact ⟨Th.str (by decide), rfl, rfl⟩
          · exact ⟨Th.lst eg1 (hrr s3 (.inl eg1)) (fun x hx => by rw [List.mem_singleton.mp hx]; exact Th.flat rfl (fun z e => by cases e)) (by show 1 ≤ 1000; decide), rfl, rfl⟩
          · exact ⟨Th.tup eg2 (hrr s3 (.inr eg2)) (fun x hx => by rw [List.mem_singleton.mp hx]; exact Th.flat rfl (fun z e => by cases e)) (by show 1 ≤ 1000; decide), rfl, rfl⟩
          · exact ⟨Th.dct eg3 hrd, rfl, rfl⟩
          · exact ⟨fl _, by decide +kernel, by decide +kernel⟩
          · exact ⟨fl _, by decide +kernel, by decide +kernel⟩
        clear hL0
        have s34 := Snew (L2.Same.refl J3) (o := .lst L0) hth
        have eth : upd J3 th (.lst L0) th = some (.lst L0) := upd_same
        have s4 := s3.trans s34
        replace hK := hK.on s4
        generalize upd J3 th (.lst L0) = J4 at s34 eth hK ⊢
        refine .inl ⟨⟨_, SqL.of eth⟩, for_list (K := K) (fun i σ H' => L2.Same J4 H' ∧ ∃ x14, σ = [some (.ref a), some (.ref n), some (.ref l), some (.ref b), some (.ref t), some (.ref x), some (.ref d), x7, x8, x9, x10, some (.ref od), x12, x13, x14]) ⟨L2.Same.refl J4, none, rfl⟩ (fun i σ H' _ hp => SqL.of (hp.1 _ _ eth)) (fun i y σ G hy hp => ?_) fun σ G hp => ?_⟩
        · obtain ⟨sG, x14, rfl⟩ := hp
          obtain ⟨h1, h2, h3⟩ := hB y (List.mem_of_getElem? hy)
          replace h1 := (h1.same s34).same sG
          walk_at "vc"
          refine ⟨x, b, 2, y, 0, rfl, h1, (fun _ => h2), (fun h => absurd rfl h), fun G2 sG2 => ?_⟩
          walk_at "vc"
          refine ite2 (fun h => by cases h) fun _ => ?_
          walk_at "vc"
          refine ⟨x, b, 2, y, 1, rfl, h1.same sG2, (fun h => absurd h (by decide)), (fun _ => h3), fun G3 sG3 => ?_⟩
          walk_at "vc"
          refine ite2 (fun h => by cases h) fun _ => ?_
          exact ⟨(sG.trans sG2).trans sG3, _, rfl⟩
        · obtain ⟨sG, x14, rfl⟩ := hp
          replace hK := hK.on sG
          walk_at "vc"
          refine ⟨x, b, 2, .int 4, 0, rfl, Th.flat rfl (fun z e => by cases e), (fun _ => by decide), (fun h => absurd rfl h), fun G2 sG2 => ?_⟩
          walk_at "vc"
          refine iteT ?_
          walk_at "vc"
          refine ⟨x, b, 2, .int 5, 0, rfl, Th.flat rfl (fun z e => by cases e), (fun _ => by decide), (fun h => absurd rfl h), fun G3 sG3 => ?_⟩
          walk_at "vc"
          refine iteT ?_
          replace hK := (hK.on sG2).on sG3
          obtain ⟨dx, hx, hp, _⟩ := id hK.play
          walk_at "vc"
          refine ⟨x, dx, _, rfl, hx, lkp_no (by decide +kernel), ?_⟩
          walk_at "vc"
          refine ⟨x, b, p, ss, ns, tr, rfl, hK.play, fun gl hgl => ?_⟩
          have s56 := Snew (L2.Same.refl G3) (o := .lst (tr.map V.str)) hgl
          walk_at "vc"
          refine .inl (.inl (.inr (.inl ⟨gl, t, true, 1, rfl, rfl, by decide, eqT_ls upd_same (s56 _ _ hK.tr), ?_⟩)))
          exact hD' _ _ (q _)
    case cut103 =>
      intro D σ H1 h
      rw [hTC103] at h
      obtain ⟨hD', HB, x, b, p, n, l, t, d, od, ss, ns, tr, ol, m, x7, x8, x9, x10, x13, hK, hm, l40, hod, nop, not', hnx, rfl⟩ := h
      walk_at "vc"
      refine vLenL hK.tr ?_
      rw [List.length_map]
      walk_at "vc"
      refine ite2 (fun h1 => ?_) fun _ => ite2 (fun h => by first | cases h | contradiction) fun _ => ?_
      · have h1 : 1 < tr.length := by have := of_decide_eq_true h1; omega
        walk_at "vc"
        refine vI (by decide) ?_
        refine .inl (.inl (.inl ⟨rfl, rfl, ?_⟩))
        walk_at "vc"
        refine ite2 (fun h2 => ?_) fun _ => ?_
        · have hm2 : m = 1 ∨ m = 3 ∨ m = 5 := by
            have h2 : eqV (V.int ((m : Int) % 2)) (V.int 1) = true := h2
            have h2 : (m : Int) % 2 = 1 := by simpa [eqV] using h2
            omega
          obtain ⟨r, z, etr⟩ : ∃ r z, tr = r ++ [z] := ⟨tr.dropLast, tr.getLast hK.row.ne, (List.dropLast_concat_getLast hK.row.ne).symm⟩
          subst etr
          rw [List.length_append] at h1 l40
          have h1 : 1 < r.length + 1 := h1
          have l40 : r.length + 1 ≤ 40 := l40
          have hr0 : r ≠ [] := fun e => by subst e; exact absurd h1 (by decide)
          obtain ⟨dx, hx, hp, hW⟩ := id hK.play
          walk_at "vc"
          refine ⟨x, dx, _, rfl, hx, lkp_no (by decide +kernel), ?_⟩
          walk_at "vc"
          refine ⟨x, b, p, ss, ns, r, z, rfl, hK.play, hr0, by omega, ?_⟩
          have b1 : But p H1 (upd H1 p (.lst (r.map V.str))) := (But.refl p H1).put
          have ep : upd H1 p (.lst (r.map V.str)) p = some (.lst (r.map V.str)) := upd_same
          have ht1 := b1 _ _ hK.np hK.tr
          generalize upd H1 p (.lst (r.map V.str)) = H2 at b1 ep ht1 ⊢
          walk_at "vc"
          refine ⟨.inl ⟨rfl, _, SqL.of ht1⟩, ?_⟩
          refine ⟨t, _, .str z, rfl, rfl, ht1, by simp, ?_⟩
          rw [show ((r ++ [z]).map V.str).dropLast = r.map V.str by simp]
          refine .inl ⟨rfl, rfl, ?_⟩
          rw [eqV_strD, decide_eq_true rfl]
          have k2 : But2 p t H1 (upd H2 t (.lst (r.map V.str))) := fun c o n1 n2 e => by rw [upd_ne n2]; exact b1 c o n1 e
          have hK2 := hK.chg (row := r) k2 (by rw [upd_ne hK.np.symm]; exact ep) upd_same (row_init hK.row hr0)
          have hod2 := k2 _ _ nop not' hod
          generalize upd H2 t (.lst (r.map V.str)) = H3 at hK2 hod2 ⊢
          walk_at "vc"
          refine ite2 (fun h => by cases h) fun _ => ?_
          obtain ⟨dx3, hx3, _⟩ := id hK2.play
          walk_at "vc"
          refine ⟨x, dx3, _, rfl, hx3, lkp_no (by decide +kernel), ?_⟩
          walk_at "vc"
          refine ⟨x, b, p, ss, ns, r, rfl, hK2.play, hK2.row, fun x2 p2 H4 s34 hx20 hp20 hP2 => ?_⟩
          walk_at "vc"
          refine ⟨by show 2 ≤ sizeLine; decide, fun ll hll => ?_⟩
          have s45 := Snew (L2.Same.refl H4) (o := .lst [.ref x, .ref x2]) hll
          have ell : upd H4 ll (.lst [.ref x, .ref x2]) ll = some (.lst [.ref x, .ref x2]) := upd_same
          have s35 := s34.trans s45
          replace hP2 := hP2.same s45
          generalize upd H4 ll (.lst [.ref x, .ref x2]) = H5 at s35 ell hP2 ⊢
          have nop2 : od ≠ p2 := fun e => by rw [← e, hod2] at hp20; cases hp20
          walk_at "vc"
          refine vI (by decide) ?_
          walk_at "vc"
          refine vI ⟨by decide, by decide⟩ ?_
          rcases hm2 with rfl | rfl | rfl
          · refine .inl (vIxL ell (atI_nat (j := 0) rfl) ?_)
            exact hnx H5 x p r _ _ (hK2.on s35) (by omega) (s35 _ _ hod2) nop
          · refine .inl (vIxL ell (atI_nat (j := 1) rfl) ?_)
            exact hnx H5 x2 p2 r _ _ (hK2.twin s35 hp20 hP2) (by omega) (s35 _ _ hod2) nop2
          · refine .inl (vIxL ell (atI_nat (j := 0) rfl) ?_)
            exact hnx H5 x p r _ _ (hK2.on s35) (by omega) (s35 _ _ hod2) nop
        · exact hnx H1 x p tr _ _ hK l40 hod nop
      · exact hnx H1 x p tr _ _ hK l40 hod nop
    walk_at "vc"
    refine ⟨a, nz, _, rfl, hS, by decide, by decide, fun c => ?_⟩
    walk_at "vc"
    refine ⟨c, rfl, fun n ss H1 s1 hn0 hn hO => ?_⟩
    walk_at "vc"
    refine ⟨a, nz, _, rfl, s1.seq hS, by decide, by decide, fun c' => ?_⟩
    walk_at "vc"
    refine ⟨n, c', ss, rfl, hn, hO, fun l ts tps ups H2 s12 hl0 hl hT sh => ?_⟩
    have s2 := s1.trans s12
    replace hn := s12 _ _ hn
    walk_at "vc"
    intro b dxb hb0 hdxb neb
    refine web_made hn hl.1 hl.2 hO hT sh hb0 hdxb neb.symm fun ns H3 s23 hWN hbits => ⟨rfl, ?_⟩
    have hW := hWN.web
    have hw := hW.ok
    have hG : WG ss ns (risOf ss tps ss) := WG.ofR hw hT sh hbits
    have hD : Duo ss ns (risOf ss tps ss) ups := ⟨hG, duo_ti hT sh⟩
    generalize risOf ss tps ss = dps at hG hD
    have s3 := s2.trans s23
    replace hn := s23 _ _ hn
    replace hl := hl.same s23
    clear hWN hbits
    have few := hw.few
    walk_at "vc"
    refine ⟨by decide, fun z hz => ?_⟩
    have s34 := Snew (L2.Same.refl H3) (o := .lst []) hz
    have ez : upd H3 z (.lst []) z = some (.lst []) := upd_same
    have s4 := s3.trans s34
    replace hn := s34 _ _ hn
    replace hl := hl.same s34
    replace hW := hW.same s34
    generalize upd H3 z (.lst []) = H4 at s4 ez hn hl hW ⊢
    clear s34 s3 s2 s12 s23
    obtain ⟨wx, dd, ol, nn, hb4, _⟩ := id hW
    refine .inl (.inl (.inr (.inl ⟨n, z, _, 1, rfl, rfl, by decide, eq_nil hn ez, ?_⟩)))
    walk_at "vc"
    refine ite2 (fun h0 => ?_) fun h0 => ?_
    · have h0 : ss = [] := by simpa using h0
      subst h0
      walk_at "vc"
      refine ⟨b, wx, _, rfl, hb4, lk_no (by decide +kernel), ?_⟩
      walk_at "vc"
      refine ⟨b, [], ns, rfl, hW, fun l1 hl1 => ?_⟩
      have s45 := Snew (L2.Same.refl H4) (o := .lst (([] : List Str).map V.str)) hl1
      have el1 : upd H4 l1 (.lst (([] : List Str).map V.str)) l1 = some (.lst (([] : List Str).map V.str)) := upd_same
      generalize upd H4 l1 (.lst (([] : List Str).map V.str)) = H5 at el1 ⊢
      walk_at "vc"
      refine ⟨by decide, fun e2 he2 => ?_⟩
      have s56 := Snew (L2.Same.refl H5) (o := .lst []) he2
      refine .inl (.inl (.inr (.inl ⟨l1, e2, _, 1, rfl, rfl, by decide, eq_nil (s56 _ _ el1) upd_same, ?_⟩)))
      exact q _
    have hss : ss ≠ [] := by simpa using h0
    have hpos : 0 < ss.length := List.length_pos_iff.mpr hss
    walk_at "vc"
    refine ⟨a, nz, _, rfl, s4.seq hS, by decide, by decide, fun c2 => ?_⟩
    walk_at "vc"
    refine vLenL hn ?_
    rw [List.length_map]
    refine vI (show (0 : Int) < (ss.length : Int) by omega) ?_
    refine vIxP hn (Int.emod_nonneg _ (by omega)) (Int.emod_lt_of_pos _ (by omega)) fun st hst => ?_
    walk_at "vc"
    refine ⟨by show 1 ≤ sizeLine; decide, fun t ht0 => ?_⟩
    have s45 := Snew (L2.Same.refl H4) (o := .lst [.str st]) ht0
    have et : upd H4 t (.lst [.str st]) t = some (.lst ([st].map V.str)) := upd_same
    generalize upd H4 t (.lst [.str st]) = H5 at s45 et ⊢
    walk_at "vc"
    have at0 : atI ([st].map V.str) 0 = some (.str st) := atI_nat (j := 0) rfl
    refine .inl (vIxL et at0 ?_)
    walk_at "vc"
    intro x0 dx0 hx0 hdx0 ndx0
    have sG : L2.Same H5 (upd (upd H5 dx0 (.own x0)) x0 (.ins (cc 9) dx0 [])) := Snew (Snew (L2.Same.refl H5) hdx0) (by rw [upd_ne ndx0.symm]; exact hx0)
    have eG : upd (upd H5 dx0 (.own x0)) x0 (.ins (cc 9) dx0 []) x0 = some (.ins (cc 9) dx0 []) := upd_same
    generalize upd (upd H5 dx0 (.own x0)) x0 (.ins (cc 9) dx0 []) = G at sG eG ⊢
    refine ⟨x0, dx0, b, st, ss, ns, rfl, eG, (hW.same s45).same sG, hst, fun p0 H6 b6 hp0 hP0 => ⟨rfl, ?_⟩⟩
    have s56 : L2.Same H5 H6 := same_but sG b6 hx0
    have hp05 := sG.free hp0
    have s46 := s45.trans s56
    have ntp : t ≠ p0 := fun e => by rw [← e, et] at hp05; cases hp05
    have et6 := s56 _ _ et
    have hp04 := s45.free hp05
    clear sG eG b6 s45 s56 hx0 hdx0 hp0
    walk_at "vc"
    intro d hd0
    have s67 := Snew (L2.Same.refl H6) (o := .dK []) hd0
    have ed : upd H6 d (.dK []) d = some (.dK []) := upd_same
    have s47 := s46.trans s67
    replace et6 := s67 _ _ et6
    replace hP0 := hP0.same s67
    generalize upd H6 d (.dK []) = H7 at s47 ed et6 hP0 ⊢
    clear s67
    obtain ⟨dxx, hxx, hpp, _⟩ := id hP0
    have ndp : d ≠ p0 := ne_of ed hpp (by intro z; cases z)
    have ndt : d ≠ t := ne_of ed et6 (by intro z; cases z)
    have hd4 := s46.free hd0
    walk_at "vc"
    refine .inl ⟨⟨_, SqL.of (s47 _ _ hn)⟩, for_list (K := K) (fun i σ H' => But d H7 H' ∧ ∃ kvs, H' d = some (.dK kvs) ∧ kvs.length ≤ i ∧ (∀ j s, j < i → ss[j]? = some s → ∃ u, valV kvs (.inr s) = some (.ref u) ∧ H' u = some (.lst ((mvL ups ss [s] s).map V.str)) ∧ H7 u = none ∧ u ≠ d) ∧ ∃ x7, σ = [some (.ref a), some (.ref n), some (.ref l), some (.ref b), some (.ref t), some (.ref x0), some (.ref d), x7, none, none, none, none, none, none, none]) ⟨But.refl d H7, [], ed, Nat.le_refl _, fun j s h => absurd h (Nat.not_lt_zero j), none, rfl⟩ (fun i σ H' _ hp => SqL.of (hp.1 _ _ (ne_of (s47 _ _ hn) ed (by intro z; cases z)) (s47 _ _ hn))) (fun i y σ H8 hy hp => ?_) fun σ H8 hp => ?_⟩
    · obtain ⟨b8, kvs, ek, hkl, hkv, x7, rfl⟩ := hp
      obtain ⟨v, gv, rfl⟩ := str_eq_list hy
      have hi : i < ss.length := (List.getElem?_eq_some_iff.mp gv).1
      have hn8 := b8 _ _ (ne_of (s47 _ _ hn) ed (by intro z; cases z)) (s47 _ _ hn)
      have s48 : L2.Same H4 H8 := same_but s47 b8 hd4
      walk_at "vc"
      refine ⟨by show 1 ≤ sizeLine; decide, fun e he => ?_⟩
      have s89 := Snew (L2.Same.refl H8) (o := .lst [.str v]) he
      have ee : upd H8 e (.lst [.str v]) e = some (.lst ([v].map V.str)) := upd_same
      generalize upd H8 e (.lst [.str v]) = H9 at s89 ee ⊢
      walk_at "vc"
      refine ⟨n, l, e, ss, ts, ups, [v], v, rfl, s89 _ _ hn8, few, (hl.same s48).same s89, ee, rfl, fun u HA s9A hu0 hu => ?_⟩
      have s8A := s89.trans s9A
      have hu8 := s89.free hu0
      have nud : u ≠ d := fun e => by rw [e, ek] at hu8; cases hu8
      have hu7 : H7 u = none := by
        cases e : H7 u with
        | none => rfl
        | some o => rw [b8 _ _ nud e] at hu8; cases hu8
      walk_at "vc"
      refine .inr ⟨d, _, rfl, DPut.k (k := Sum.inr v) (s8A _ _ ek) (small1000 (by omega)), ?_⟩
      have bA : But d HA (upd HA d (.dK (putK kvs (.inr v) (.ref u)))) := (But.refl d HA).put
      refine ⟨fun c o n e => bA c o n (s8A _ _ (b8 c o n e)), _, upd_same, ?_, fun j s hj gs => ?_, _, rfl⟩
      · unfold putK
        split
        · rw [List.length_map]; omega
        · rw [List.length_append]; show kvs.length + 1 ≤ i + 1; omega
      · rw [valV_put]
        by_cases e : j = i
        · subst e
          rw [gv] at gs
          cases gs
          rw [if_pos rfl]
          exact ⟨u, rfl, bA _ _ nud hu, hu7, nud⟩
        · have hne : s ≠ v := fun z => e (nodup_inj hw.nd gs (by rw [z]; exact gv))
          rw [if_neg (fun z => hne (Sum.inr.inj z))]
          obtain ⟨u', h1, h2, h3, h4⟩ := hkv j s (by omega) gs
          exact ⟨u', h1, bA _ _ h4 (s8A _ _ h2), h3, h4⟩
    obtain ⟨b8, kvs, ek, hkl, hkv, x7, rfl⟩ := hp
    obtain ⟨HB, hHB⟩ : ∃ HB : Hp, HB = fun c => if c = p0 ∨ c = t then none else H8 c := ⟨_, rfl⟩
    have hBi : ∀ c, c ≠ p0 → c ≠ t → HB c = H8 c := fun c n1 n2 => by rw [hHB]; exact if_neg (fun z => z.elim n1 n2)
    have sB8 : L2.Same HB H8 := fun c o e => by
      rw [hHB] at e
      have e : (if c = p0 ∨ c = t then none else H8 c) = some o := e
      split at e
      · cases e
      · exact e
    have s4B : L2.Same H4 HB := fun c o e => by
      rw [hBi c (fun z => by rw [z, hp04] at e; cases e) (fun z => by rw [z, ht0] at e; cases e)]
      exact b8 c o (fun z => by rw [z, hd4] at e; cases e) (s47 _ _ e)
    have hbB : BesAt HB d ss ups := by
      refine ⟨kvs, by rw [hBi d ndp ndt]; exact ek, fun s hs => ?_⟩
      obtain ⟨j, hj⟩ := List.mem_iff_getElem?.mp hs
      obtain ⟨u, h1, h2, h3, h4⟩ := hkv j s (by rw [List.length_map]; exact (List.getElem?_eq_some_iff.mp hj).1) hj
      exact ⟨u, h1, by rw [hBi u (fun z => by rw [z, hpp] at h3; cases h3) (fun z => by rw [z, et6] at h3; cases h3)]; exact h2⟩
    have hK : LK (cc 9) cw HB H8 x0 b p0 t ss ns [st] := by
      have hWB := hW.same s4B
      exact ⟨sB8, hWB, ⟨dxx, b8 _ _ (ne_of hxx ed (by intro z; cases z)) hxx, b8 _ _ ndp.symm hpp, hWB.same sB8⟩, row_one hst, b8 _ _ ndt.symm et6, ntp, by rw [hHB]; exact if_pos (.inl rfl), by rw [hHB]; exact if_pos (.inr rfl)⟩
    have hnB := s4B _ _ hn
    have hlB := hl.same s4B
    have sHB := s4.trans s4B
    clear hHB hBi sB8 s4B b8 ek hkl hkv s47 ed et6 hP0 hxx hpp s46 hp04 ht0 hd4 hW hb4 hn hl ez s4
    walk_at "vc"
    refine ⟨a, nz, _, rfl, (sHB.trans hK.same).seq hS, by decide, by decide, fun c3 => ?_⟩
    walk_at "vc"
    refine ⟨by show 5 ≤ sizeLine; decide, fun bl hbl => ?_⟩
    have s89 := Snew (L2.Same.refl H8) (o := .lst [.int 13, .int 13, .int 13, .int 13, .int 2]) hbl
    have ebl : upd H8 bl (.lst [.int 13, .int 13, .int 13, .int 13, .int 2]) bl = some (.lst (([13, 13, 13, 13, 2] : List Int).map V.int)) := upd_same
    replace hK := hK.on s89
    generalize upd H8 bl (.lst [.int 13, .int 13, .int 13, .int 13, .int 2]) = H9 at hK ebl ⊢
    clear s89
    walk_at "vc"
    refine ⟨bl, _, _, [13, 13, 13, 13, 2], rfl, ebl, by decide, by decide, by decide, (fun x hx => by
      simp only [List.mem_cons, List.not_mem_nil, or_false] at hx
      rcases hx with rfl | rfl | rfl | rfl | rfl <;> decide), fun nu nms HA s9A hnu0 hnu hnl hnb => ?_⟩
    have nunp : nu ≠ p0 := fun e => by obtain ⟨_, _, z, _⟩ := hK.play; rw [e, z] at hnu0; cases hnu0
    have nunt : nu ≠ t := fun e => by rw [e, hK.tr] at hnu0; cases hnu0
    replace hK := hK.on s9A
    have hnl : nms.length = 5 := hnl
    walk_at "vc"
    refine .inl ⟨⟨_, SqL.of hnu⟩, for_list (K := K) (fun i σ H' => ∃ tr, LK (cc 9) cw HB H' x0 b p0 t ss ns tr ∧ tr.length ≤ i + 1 ∧ H' nu = some (.lst (nms.map V.int)) ∧ ∃ x8 x9, σ = [some (.ref a), some (.ref n), some (.ref l), some (.ref b), some (.ref t), some (.ref x0), some (.ref d), x7, x8, x9, none, none, none, none, none]) ⟨[st], hK, Nat.le_refl _, hnu, none, none, rfl⟩ (fun i σ H' _ hp => by obtain ⟨_, _, _, e, _⟩ := hp; exact SqL.of e) (fun i y σ J hy hp => ?_) fun σ J hp => ?_⟩
    · obtain ⟨tr, hK, htl, hnu, x8, x9, rfl⟩ := hp
      have hi5 : i < 5 := by have := (List.getElem?_eq_some_iff.mp hy).1; rw [List.length_map] at this; omega
      obtain ⟨nb, rfl⟩ : ∃ nb, y = .int nb := by
        obtain ⟨nb, _, e⟩ := List.mem_map.mp (List.mem_of_getElem? hy)
        exact ⟨nb, e.symm⟩
      obtain ⟨z, hz⟩ : ∃ z, tr.getLast? = some z := ⟨_, List.getLast?_eq_some_getLast hK.row.ne⟩
      have hzs : z ∈ ss := hK.row.ins z (List.mem_of_getLast? hz)
      have emv : mvS ss ns tr z = mvL ups ss tr z := mv_eq hw hD.wg.adj hD.ti hzs
      walk_at "vc"
      refine ⟨n, l, t, ss, ts, ups, tr, z, rfl, hK.same _ _ hnB, few, hlB.same hK.same, hK.tr, hz, fun m J1 s1 hm0 hm => ?_⟩
      rw [← emv] at hm
      replace hK := hK.on s1
      replace hnu := s1 _ _ hnu
      walk_at "vc"
      refine ⟨by decide, fun e he => ?_⟩
      have s12 := Snew (L2.Same.refl J1) (o := .lst []) he
      have ee : upd J1 e (.lst []) e = some (.lst []) := upd_same
      replace hm := s12 _ _ hm
      replace hK := hK.on s12
      replace hnu := s12 _ _ hnu
      generalize upd J1 e (.lst []) = J2 at ee hm hK hnu ⊢
      clear s12 s1
      refine .inr (.inl ⟨m, e, _, 1, rfl, rfl, by decide, eq_nil hm ee, ?_⟩)
      walk_at "vc"
      refine ite2 (fun h => ?_) fun _ => ite2 (fun h => by first | cases h | contradiction) fun _ => ⟨tr, hK, by omega, hnu, _, _, rfl⟩
      have hne : mvS ss ns tr z ≠ [] := by simpa using h
      have hml : 0 < (mvS ss ns tr z).length := List.length_pos_iff.mpr hne
      walk_at "vc"
      refine ite2 (fun _ => ?_) fun _ => ⟨tr, hK, by omega, hnu, _, _, rfl⟩
      obtain ⟨dx, hx, hp, _⟩ := id hK.play
      walk_at "vc"
      refine ⟨.inl ⟨rfl, _, SqL.of hK.tr⟩, ?_⟩
      walk_at "vc"
      refine vLenL hm ?_
      rw [List.length_map]
      refine vI (show (0 : Int) < ((mvS ss ns tr z).length : Int) by omega) ?_
      refine vIxP hm (Int.emod_nonneg _ (by omega)) (Int.emod_lt_of_pos _ (by omega)) fun v hv => ?_
      have hvs : v ∈ ss := by rw [emv] at hv; exact (List.mem_filter.mp hv).1
      walk_at "vc"
      refine ⟨t, _, _, rfl, rfl, hK.tr, by rw [List.length_map]; exact small1000 (by omega), ?_⟩
      have b3 : But t J2 (upd J2 t (.lst (tr.map V.str ++ [.str v]))) := (But.refl t J2).put
      have e3 : upd J2 t (.lst (tr.map V.str ++ [.str v])) t = some (.lst ((tr ++ [v]).map V.str)) := by rw [upd_same, List.map_append]; rfl
      generalize upd J2 t (.lst (tr.map V.str ++ [.str v])) = J3 at b3 e3 ⊢
      have sB3 : L2.Same HB J3 := same_but hK.same b3 hK.t5
      have hx3 := b3 _ _ (ne_of hx hK.tr (by intro z; cases z)) hx
      have hP3 : PlayAt (cc 9) cw J3 x0 b p0 ss ns tr := ⟨dx, hx3, b3 _ _ hK.np.symm hp, hK.web.same sB3⟩
      walk_at "vc"
      refine ⟨x0, dx, _, rfl, hx3, lkp_no (by decide +kernel), ?_⟩
      walk_at "vc"
      refine vU ?_
      refine .inl (vIxL e3 (last_at List.getLast?_concat) ?_)
      walk_at "vc"
      refine ⟨x0, b, p0, ss, ns, tr, z, v, rfl, hP3, by omega, hz, hzs, hv, fun J4 b4 e4 => ?_⟩
      have k4 : But2 p0 t J2 J4 := fun c o n1 n2 e => b4 c o n1 (b3 c o n2 e)
      exact ⟨tr ++ [v], hK.chg k4 e4 (b4 _ _ hK.np e3) (hK.row.snoc (by omega) hz hv hvs), by rw [List.length_append]; show tr.length + 1 ≤ i + 1 + 1; omega, k4 _ _ nunp nunt hnu, _, _, rfl⟩
    obtain ⟨tr, hK, htl, hnu, x8, x9, rfl⟩ := hp
    rw [List.length_map, hnl] at htl
    walk_at "vc"
    refine vLenL (hK.same _ _ hnB) ?_
    rw [List.length_map]
    walk_at "vc"
    generalize decide (9 < (ss.length : Int)) = c9
    refine .inr ⟨c9, rfl, ?_⟩
    obtain ⟨M, hM, eM⟩ : ∃ M : Nat, M ≤ 6 ∧ (5 : Int) - 2 * (if c9 = true then 1 else 0) + 1 = (M : Int) := by
      cases c9
      · exact ⟨6, by decide, rfl⟩
      · exact ⟨4, by decide, rfl⟩
    refine ⟨.inl ⟨by decide, by decide⟩, ?_⟩
    walk_at "vc"
    refine vLR ?_
    walk_at "vc"
    rw [eM]
    refine ⟨M, rfl, by omega, fun od hod0 => ?_⟩
    have sJ := Snew (L2.Same.refl J) (o := .lst ((List.range M).map fun i => V.int ((i : Nat) : Int))) hod0
    have eod : upd J od (.lst ((List.range M).map fun i => V.int ((i : Nat) : Int))) od = some (.lst ((List.range M).map fun i => V.int ((i : Nat) : Int))) := upd_same
    have nop : od ≠ p0 := fun e => by obtain ⟨_, _, z, _⟩ := hK.play; rw [e, z] at hod0; cases hod0
    have not' : od ≠ t := fun e => by rw [e, hK.tr] at hod0; cases hod0
    have hodB := hK.same.free hod0
    replace hK := hK.on sJ
    generalize upd J od (.lst ((List.range M).map fun i => V.int ((i : Nat) : Int))) = J1 at hK eod ⊢
    have hol : ∀ y ∈ (List.range M).map fun i => V.int ((i : Nat) : Int), ∃ k : Nat, k ≤ 5 ∧ y = .int k := fun y hy => by
      obtain ⟨k, hk, rfl⟩ := List.mem_map.mp hy
      have := List.mem_range.mp hk
      exact ⟨k, by omega, rfl⟩
    walk_at "vc"
    refine ⟨a, nz, _, rfl, (sHB.trans hK.same).seq hS, by decide, by decide, fun c4 => ?_⟩
    walk_at "vc"
    refine vI (by decide) ?_
    refine .inl (.inl (.inl ⟨rfl, rfl, ?_⟩))
    walk_at "vc"
    refine ite2 (fun _ => ?_) fun _ => ?_
    · walk_at "vc"
      refine ⟨.inl ⟨rfl, _, SqL.of eod⟩, ?_⟩
      refine ⟨od, _, rfl, rfl, eod, ?_⟩
      have b2 : But od J1 (upd J1 od (.lst ((List.range M).map fun i => V.int ((i : Nat) : Int)).reverse)) := (But.refl od J1).put
      obtain ⟨dx, hx, hp, _⟩ := id hK.play
      have sB2 := same_but hK.same b2 hodB
      show TC12 _ _ _
      rw [hTC12]
      exact ⟨fun _ _ z => z, HB, x0, b, p0, n, l, t, d, od, ss, ns, ts, dps, ups, tr, _, x7, x8, x9, _, ⟨sB2, hK.web, ⟨dx, b2 _ _ (ne_of hx eod (by intro z; cases z)) hx, b2 _ _ nop.symm hp, hK.web.same sB2⟩, hK.row, b2 _ _ not'.symm hK.tr, hK.np, hK.p5, hK.t5⟩, by omega, upd_same, nop, not', (fun y hy => hol y (List.mem_reverse.mp hy)), hD, hnB, hlB, hbB, rfl⟩
    · show TC12 _ _ _
      rw [hTC12]
      exact ⟨fun _ _ z => z, HB, x0, b, p0, n, l, t, d, od, ss, ns, ts, dps, ups, tr, _, x7, x8, x9, _, hK, by omega, eod, nop, not', hol, hD, hnB, hlB, hbB, rfl⟩
end
theorem fn_false {P : Program} {w : World} {K : W.Frag} {mg : Str → Option Value} {base : Heap} {CX : CXT} {k : Nat} {f : Addr} {fd : FuncData} {ps : List Str} : FnOk P w K mg base CX k f fd ps (fun _ _ _ _ => False) := ⟨fun _ _ _ _ h => h.elim, by intros; contradiction⟩
theorem all_mk {l : W.OpenLaw} {w : World} {K : W.Frag} {h : Heap} {mg : Str → Option Value} {fa Cw Cp C0 C1 C2 C3 C4 C5 C6 : Addr} {ty0 ty1 ty2 tyr tyn : Tok} (X : K.In h) (G : h.Ns mainGlobals mg) (hfa : mg "law" = some (.ref fa))
    (C0_ : W.nsIn K mainGlobals "NoName" = some (some (.ref C0)))
    (C1_ : W.nsIn K mainGlobals "Twice" = some (some (.ref C1)))
    (C2_ : W.nsIn K mainGlobals "NoPlace" = some (some (.ref C2)))
    (C3_ : W.nsIn K mainGlobals "NoTie" = some (some (.ref C3)))
    (C4_ : W.nsIn K mainGlobals "TooMany" = some (some (.ref C4)))
    (C5_ : W.nsIn K mainGlobals "NoNumbers" = some (some (.ref C5)))
    (C6_ : W.nsIn K mainGlobals "OnceError" = some (some (.ref C6)))
    (Cw_ : W.nsIn K mainGlobals "Web" = some (some (.ref Cw)))
    (Cp_ : W.nsIn K mainGlobals "Play" = some (some (.ref Cp)))
    (h_is_whole : FG K "is_whole" s_is_whole)
    (h_is_within : FG K "is_within" s_is_within)
    (h_is_name : FG K "is_name" s_is_name)
    (h_count_from : FG K "count_from" s_count_from)
    (h_played : FG K "played" s_played)
    (h_rows_within : FG K "rows_within" s_rows_within)
    (h_rows_from : FG K "rows_from" s_rows_from)
    (h_all_within : FG K "all_within" s_all_within)
    (h_has_bit : FG K "has_bit" s_has_bit)
    (h_is_place : FG K "is_place" s_is_place)
    (h_are_two_places : FG K "are_two_places" s_are_two_places)
    (h_numbers_of : FG K "numbers_of" s_numbers_of)
    (h_near_of : FG K "near_of" s_near_of)
    (h_l_cell : FG K "_law_cell" s_l_cell)
    (h_l_numbers : FG K "_law_numbers" s_l_numbers)
    (h_l_names : FG K "_law_names" s_l_names)
    (h_l_ties : FG K "_law_ties" s_l_ties)
    (h_l_tied : FG K "_law_tied" s_l_tied)
    (h_l_moves : FG K "_law_moves" s_l_moves)
    (h_l_rows : FG K "_law_rows" s_l_rows)
    (h_l_count : FG K "_law_count" s_l_count)
    (h_l_whole : FG K "_law_whole" s_l_whole)
    (h_l_refused : FG K "_law_refused" s_l_refused)
    (h_l_rows_right : FG K "_law_rows_right" s_l_rows_right)
    (h_law : FG K "law" s_law)
    (h_i0 : FM K C0 "__init__" "NoName.__init__" s_NoName_init)
    (h_i1 : FM K C1 "__init__" "Twice.__init__" s_Twice_init)
    (h_i2 : FM K C2 "__init__" "NoPlace.__init__" s_NoPlace_init)
    (h_i3 : FM K C3 "__init__" "NoTie.__init__" s_NoTie_init)
    (h_i4 : FM K C4 "__init__" "TooMany.__init__" s_TooMany_init)
    (h_i5 : FM K C5 "__init__" "NoNumbers.__init__" s_NoNumbers_init)
    (h_i6 : FC K C6 "__init__" "OnceError.__init__" s_OnceError_init)
    (h_iw : FM K Cw "__init__" "Web.__init__" s_Web_init)
    (h_m_places : FM K Cw "places" "Web.places" s_Web_places)
    (h_m_has_place : FM K Cw "has_place" "Web.has_place" s_Web_has_place)
    (h_m_number_of : FM K Cw "number_of" "Web.number_of" s_Web_number_of)
    (h_m_beside : FM K Cw "beside" "Web.beside" s_Web_beside)
    (h_m_bits_beside : FM K Cw "bits_beside" "Web.bits_beside" s_Web_bits_beside)
    (h_m_names_in : FM K Cw "names_in" "Web.names_in" s_Web_names_in)
    (h_Cp___init__ : FM K Cp "__init__" "Walk.__init__" s_Walk_init)
    (h_Cp_stands_at : FM K Cp "stands_at" "Walk.stands_at" s_Walk_stands_at)
    (h_Cp_gone : FM K Cp "gone" "Walk.gone" s_Walk_gone)
    (h_Cp_move_to : FM K Cp "move_to" "Walk.move_to" s_Walk_move_to)
    (h_Cp_back : FM K Cp "back" "Walk.back" s_Walk_back)
    (h_Cp_moves : FM K Cp "moves" "Play.moves" s_Play_moves)
    (h_Cp_not_gone : FM K Cp "not_gone" "Play.not_gone" s_Play_not_gone)
    (h_Cp_go : FM K Cp "go" "Play.go" s_Play_go)
    (h_Cp_twin : FM K Cp "twin" "Play.twin" s_Play_twin)
    (X0 : XL K C0 (.ref C6 :: veMro))
    (q0 : XQ K C0)
    (X1 : XL K C1 (.ref C6 :: veMro))
    (q1 : XQ K C1)
    (X2 : XL K C2 (.ref C6 :: veMro))
    (q2 : XQ K C2)
    (X3 : XL K C3 (.ref C6 :: veMro))
    (q3 : XQ K C3)
    (X4 : XL K C4 (.ref C6 :: veMro))
    (q4 : XQ K C4)
    (X5 : XL K C5 (.ref C6 :: veMro))
    (q5 : XQ K C5)
    (X6 : XL K C6 veMro)
    (q6 : XQ K C6)
    (y0 : W.findIn K (.ref C0) "found" = some none)
    (y1 : W.findIn K (.ref C1) "name" = some none)
    (y2 : W.findIn K (.ref C2) "found" = some none)
    (y3 : W.findIn K (.ref C3) "found" = some none)
    (y4 : W.findIn K (.ref C4) "many" = some none)
    (y5 : W.findIn K (.ref C5) "found" = some none)
    (mo0 : W.mroIn K C0 (.ref C6) = some true)
    (mo1 : W.mroIn K C1 (.ref C6) = some true)
    (mo2 : W.mroIn K C2 (.ref C6) = some true)
    (mo3 : W.mroIn K C3 (.ref C6) = some true)
    (mo4 : W.mroIn K C4 (.ref C6) = some true)
    (mo5 : W.mroIn K C5 (.ref C6) = some true)
    (nd : ([C0, C1, C2, C3, C4, C5] ++ [C6]).Nodup)
    (r1 : W.readsIn K C6 (.type "type") = true)
    (r3 : W.specialIn K (.ref C6) "__getattribute__" = some (some (.builtin "type.__getattribute__")))
    (v1 : W.findIn K (.type "type") "__getattribute__" = some (some (.builtin "type.__getattribute__")))
    (v3 : W.subIn K (.type "type") (.type "type") = some true)
    (v4 : W.findCls K (.type "ValueError") (.type "type") "__init__" = some (.val (.builtin "ValueError.__init__")))
    (w1 : W.plainGet K Cw Str.empty = true)
    (w2 : W.hasDictIn K Cw = true)
    (w3 : W.plainOver K Cw = true)
    (w4 : W.findIn K (.ref Cw) "__setattr__" = some (some (.builtin "object.__setattr__")))
    (w5 : W.makesIn K Cw = true)
    (w6 : W.keepIn K (.ref Cw) = true)
    (w7 : W.findIn K (.ref Cw) "numbers" = some none)
    (w8 : W.findIn K (.ref Cw) "order" = some none)
    (w9 : W.findIn K (.ref Cw) "near" = some none)
    (w16 : W.specialIn K (.builtin "object.__class__") "__get__" = some (some (.builtin "getset_descriptor.__get__")))
    (w17 : W.takesIn K (.builtin "object.__class__") = some true)
    (pw1 : W.plainGet K Cp Str.empty = true)
    (pw2 : W.hasDictIn K Cp = true)
    (pw3 : W.plainOver K Cp = true)
    (pw4 : W.findIn K (.ref Cp) "__setattr__" = some (some (.builtin "object.__setattr__")))
    (pw5 : W.makesIn K Cp = true)
    (pw6 : W.keepIn K (.ref Cp) = true)
    (pw7 : W.findIn K (.ref Cp) "board" = some none)
    (pw8 : W.findIn K (.ref Cp) "path" = some none)
    (gr : W.nsIn K mainGlobals "MOST_FOR_ROWS" = some (some (.int 3 tyr)))
    (gn : W.nsIn K mainGlobals "MOST_FOR_THEIR_NUMBER" = some (some (.int 5 tyn)))
    (mr5 : W.mroIn K C5 (.ref C5) = some true)
    (z0 : W.nsIn K mainGlobals "len" = some none)
    (z1 : W.nsIn K mainGlobals "int" = some none)
    (z2 : W.nsIn K mainGlobals "enumerate" = some none)
    (z3 : W.nsIn K mainGlobals "all" = some none)
    (z4 : W.nsIn K mainGlobals "max" = some none)
    (z5 : W.nsIn K mainGlobals "min" = some none)
    (z6 : W.nsIn K mainGlobals "isinstance" = some none)
    (z7 : W.nsIn K mainGlobals "bool" = some none)
    (z8 : W.nsIn K mainGlobals "str" = some none)
    (z9 : W.nsIn K mainGlobals "range" = some none)
    (z10 : W.nsIn K mainGlobals "list" = some none)
    (z11 : W.nsIn K mainGlobals "tuple" = some none)
    (z12 : W.nsIn K mainGlobals "ValueError" = some none)
    (u0 : W.nsIn K mainGlobals "LONGEST_NAME" = some (some (.int 6 ty0)))
    (u1 : W.nsIn K mainGlobals "MOST_PLACES" = some (some (.int 14 ty1)))
    (u2 : W.nsIn K mainGlobals "MOST_TIES" = some (some (.int 30 ty2))) :
    ∃ fd : FuncData, (∀ (s : Shared) (v : Value), BindsTo s fd ⟨[v], []⟩ [("_law_script", v)]) ∧ ∀ base : Heap, K.In base → base.Ns mainGlobals mg → FnOk l.prog w K mg base CX0 18 fa fd ["_law_script"] (spLaw K) := by
  obtain ⟨f_is_whole, e_is_whole, a_is_whole, F_Qag⟩ := h_is_whole
  obtain ⟨f_is_within, e_is_within, a_is_within, F_Qah⟩ := h_is_within
  obtain ⟨f_is_name, e_is_name, a_is_name, F_Qae⟩ := h_is_name
  obtain ⟨f_count_from, e_count_from, a_count_from, F_Qac⟩ := h_count_from
  obtain ⟨f_played, e_played, a_played, F_Qaw⟩ := h_played
  obtain ⟨f_rows_within, e_rows_within, a_rows_within, F_Qay⟩ := h_rows_within
  obtain ⟨f_rows_from, e_rows_from, a_rows_from, F_Qax⟩ := h_rows_from
  obtain ⟨f_all_within, e_all_within, a_all_within, F_Qaa⟩ := h_all_within
  obtain ⟨f_has_bit, e_has_bit, a_has_bit, F_Qad⟩ := h_has_bit
  obtain ⟨f_is_place, e_is_place, a_is_place, F_Qaf⟩ := h_is_place
  obtain ⟨f_are_two_places, e_are_two_places, a_are_two_places, F_Qab⟩ := h_are_two_places
  obtain ⟨f_numbers_of, e_numbers_of, a_numbers_of, F_Qav⟩ := h_numbers_of
  obtain ⟨f_near_of, e_near_of, a_near_of, F_Qau⟩ := h_near_of
  obtain ⟨f_l_cell, e_l_cell, a_l_cell, F_Qai⟩ := h_l_cell
  obtain ⟨f_l_numbers, e_l_numbers, a_l_numbers, F_Qam⟩ := h_l_numbers
  obtain ⟨f_l_names, e_l_names, a_l_names, F_Qal⟩ := h_l_names
  obtain ⟨f_l_ties, e_l_ties, a_l_ties, F_Qar⟩ := h_l_ties
  obtain ⟨f_l_tied, e_l_tied, a_l_tied, F_Qaq⟩ := h_l_tied
  obtain ⟨f_l_moves, e_l_moves, a_l_moves, F_Qak⟩ := h_l_moves
  obtain ⟨f_l_rows, e_l_rows, a_l_rows, F_Qao⟩ := h_l_rows
  obtain ⟨f_l_count, e_l_count, a_l_count, F_Qaj⟩ := h_l_count
  obtain ⟨f_l_whole, e_l_whole, a_l_whole, F_Qas⟩ := h_l_whole
  obtain ⟨f_l_refused, e_l_refused, a_l_refused, F_Qan⟩ := h_l_refused
  obtain ⟨f_l_rows_right, e_l_rows_right, a_l_rows_right, F_Qap⟩ := h_l_rows_right
  obtain ⟨f_law, e_law, a_law, F_Qat⟩ := h_law
  obtain ⟨f_i0, e_i0, a_i0, n_i0, F_i0⟩ := h_i0
  obtain ⟨f_i1, e_i1, a_i1, n_i1, F_i1⟩ := h_i1
  obtain ⟨f_i2, e_i2, a_i2, n_i2, F_i2⟩ := h_i2
  obtain ⟨f_i3, e_i3, a_i3, n_i3, F_i3⟩ := h_i3
  obtain ⟨f_i4, e_i4, a_i4, n_i4, F_i4⟩ := h_i4
  obtain ⟨f_i5, e_i5, a_i5, n_i5, F_i5⟩ := h_i5
  obtain ⟨f_i6, e_i6, a_i6, F_i6⟩ := h_i6
  obtain ⟨f_iw, e_iw, a_iw, n_iw, F_iw⟩ := h_iw
  obtain ⟨f_m_places, e_m_places, a_Qbe, n_Qbe, F_Qbe⟩ := h_m_places
  obtain ⟨f_m_has_place, e_m_has_place, a_Qbb, n_Qbb, F_Qbb⟩ := h_m_has_place
  obtain ⟨f_m_number_of, e_m_number_of, a_Qbd, n_Qbd, F_Qbd⟩ := h_m_number_of
  obtain ⟨f_m_beside, e_m_beside, a_Qaz, n_Qaz, F_Qaz⟩ := h_m_beside
  obtain ⟨f_m_bits_beside, e_m_bits_beside, a_Qba, n_Qba, F_Qba⟩ := h_m_bits_beside
  obtain ⟨f_m_names_in, e_m_names_in, a_Qbc, n_Qbc, F_Qbc⟩ := h_m_names_in
  obtain ⟨f_Cp___init__, e_Cp___init__, a_Cp___init__, n_Cp___init__, F_Cp___init__⟩ := h_Cp___init__
  obtain ⟨f_Cp_stands_at, e_Cp_stands_at, a_Cp_stands_at, n_Cp_stands_at, F_Cp_stands_at⟩ := h_Cp_stands_at
  obtain ⟨f_Cp_gone, e_Cp_gone, a_Cp_gone, n_Cp_gone, F_Cp_gone⟩ := h_Cp_gone
  obtain ⟨f_Cp_move_to, e_Cp_move_to, a_Cp_move_to, n_Cp_move_to, F_Cp_move_to⟩ := h_Cp_move_to
  obtain ⟨f_Cp_back, e_Cp_back, a_Cp_back, n_Cp_back, F_Cp_back⟩ := h_Cp_back
  obtain ⟨f_Cp_moves, e_Cp_moves, a_Cp_moves, n_Cp_moves, F_Cp_moves⟩ := h_Cp_moves
  obtain ⟨f_Cp_not_gone, e_Cp_not_gone, a_Cp_not_gone, n_Cp_not_gone, F_Cp_not_gone⟩ := h_Cp_not_gone
  obtain ⟨f_Cp_go, e_Cp_go, a_Cp_go, n_Cp_go, F_Cp_go⟩ := h_Cp_go
  obtain ⟨f_Cp_twin, e_Cp_twin, a_Cp_twin, n_Cp_twin, F_Cp_twin⟩ := h_Cp_twin
  have e := hfa.symm.trans (W.mg_of X G a_law)
  cases e
  have Y0 : XAt K C0 := xq_at X0 xmro_on q0 w16 w17
  have Y1 : XAt K C1 := xq_at X1 xmro_on q1 w16 w17
  have Y2 : XAt K C2 := xq_at X2 xmro_on q2 w16 w17
  have Y3 : XAt K C3 := xq_at X3 xmro_on q3 w16 w17
  have Y4 : XAt K C4 := xq_at X4 xmro_on q4 w16 w17
  have Y5 : XAt K C5 := xq_at X5 xmro_on q5 w16 w17
  have Y6 : XAt K C6 := xq_at X6 xmro_ve q6 w16 w17
  obtain ⟨kt1, kt2, kt3, kt4⟩ := kits nd (fun i hi => match i, hi with | 0, _ => X0 | 1, _ => X1 | 2, _ => X2 | 3, _ => X3 | 4, _ => X4 | 5, _ => X5 | n + 6, h => absurd h (by simp only [List.length_cons, List.length_nil]; omega)) X6
  have wcl : Cls K Cw := ⟨w1, w2, w3, w4⟩
  have pcl : Cls K Cp := ⟨pw1, pw2, pw3, pw4⟩
  have cce : ∀ i, i < 7 → ([C0, C1, C2, C3, C4, C5, C6, C6, C6] : List Addr).getD i Cp = ([C0, C1, C2, C3, C4, C5] : List Addr).getD i C6 := fun i hi => match i, hi with | 0, _ => rfl | 1, _ => rfl | 2, _ => rfl | 3, _ => rfl | 4, _ => rfl | 5, _ => rfl | 6, _ => rfl | n + 7, h => absurd h (by omega)
  have T : Txt K mg (fun i => ([C0, C1, C2, C3, C4, C5, C6, C6, C6] : List Addr).getD i Cp) Cw := ⟨W.mg_none_of X G z0,
    W.mg_none_of X G z1,
    W.mg_none_of X G z2,
    W.mg_none_of X G z3,
    W.mg_none_of X G z4,
    W.mg_none_of X G z5,
    W.mg_none_of X G z6,
    W.mg_none_of X G z7,
    W.mg_none_of X G z8,
    W.mg_none_of X G z9,
    W.mg_none_of X G z10,
    W.mg_none_of X G z11,
    W.mg_none_of X G z12,
    ⟨ty0, W.mg_of X G u0⟩,
    ⟨ty1, W.mg_of X G u1⟩,
    ⟨ty2, W.mg_of X G u2⟩,
    W.mg_of X G C0_,
    W.mg_of X G C1_,
    W.mg_of X G C2_,
    W.mg_of X G C3_,
    W.mg_of X G C4_,
    W.mg_of X G C5_,
    W.mg_of X G C6_,
    ⟨v1, v3, v4⟩,
    fun i hi => match i, hi with | 0, _ => Y0 | 1, _ => Y1 | 2, _ => Y2 | 3, _ => Y3 | 4, _ => Y4 | 5, _ => Y5 | 6, _ => Y6 | n + 7, h => absurd h (by omega),
    fun i hi => match i, hi with | 0, _ => y0 | 1, _ => y1 | 2, _ => y2 | 3, _ => y3 | 4, _ => y4 | 5, _ => y5 | n + 6, h => absurd h (by omega),
    (fun i j hi hj => by rw [cce i (by omega), cce j (by omega)]; exact kt1 i j hi hj),
    (fun i hi => by rw [cce i (by omega)]; exact kt3 i hi),
    fun i hi => match i, hi with | 0, _ => mo0 | 1, _ => mo1 | 2, _ => mo2 | 3, _ => mo3 | 4, _ => mo4 | 5, _ => mo5 | n + 6, h => absurd h (by omega),
    wcl,
    w7,
    w8,
    w9,
    W.mg_of X G Cw_,
    W.mg_of X G Cp_,
    pcl,
    pw7,
    pw8,
    ⟨tyr, W.mg_of X G gr⟩,
    ⟨tyn, W.mg_of X G gn⟩,
    mr5⟩
  obtain ⟨oc, od, kV, doc, pm, an, cd, ct, sl, rfl, lk, hc⟩ := F_Qat.ex
  refine ⟨W.fnOf "law" "law" (defArgs s_law) (defBody s_law) (defScope s_law) .none kV doc pm an cd ct, fun s v => .of_eq rfl, fun base _ _ => ?_⟩
  have d_once : CMethOk l.prog w K mg base CX0 1 C6 "OnceError" "__init__" ["self", "text"] (spOnce K) := fc_mk X G C6_ r1 a_i6 r3 F_i6 (ok_once F_i6 T)
  have d0 : XMakeOk l.prog w K mg base 2 C0 "NoName" ["self", "found"] (spX C0 (fldn 0)) := fx_mk X G C0_ Y0 q0 a_i0 n_i0 F_i0 (ok_NoName F_i0 T d_once)
  have d1 : XMakeOk l.prog w K mg base 2 C1 "Twice" ["self", "name"] (spX C1 (fldn 1)) := fx_mk X G C1_ Y1 q1 a_i1 n_i1 F_i1 (ok_Twice F_i1 T d_once)
  have d2 : XMakeOk l.prog w K mg base 2 C2 "NoPlace" ["self", "found"] (spX C2 (fldn 2)) := fx_mk X G C2_ Y2 q2 a_i2 n_i2 F_i2 (ok_NoPlace F_i2 T d_once)
  have d3 : XMakeOk l.prog w K mg base 2 C3 "NoTie" ["self", "found"] (spX C3 (fldn 3)) := fx_mk X G C3_ Y3 q3 a_i3 n_i3 F_i3 (ok_NoTie F_i3 T d_once)
  have d4 : XMakeOk l.prog w K mg base 2 C4 "TooMany" ["self", "many"] (spX C4 (fldn 4)) := fx_mk X G C4_ Y4 q4 a_i4 n_i4 F_i4 (ok_TooMany F_i4 T d_once)
  have d5 : XMakeOk l.prog w K mg base 2 C5 "NoNumbers" ["self", "found"] (spX C5 (fldn 5)) := fx_mk X G C5_ Y5 q5 a_i5 n_i5 F_i5 (ok_NoNumbers F_i5 T d_once)
  have fg := @fg_mk l.prog w K mg base h
  have fm := @fm_mk l.prog w K mg base
  have fw := @fw_mk l.prog w K mg base h
  have d_name := fg X G a_is_name F_Qae (ok_name F_Qae T)
  have d_place := fg X G a_is_place F_Qaf (ok_place F_Qaf d_name)
  have d_two := fg X G a_are_two_places F_Qab (ok_two F_Qab T d_place)
  have d_bit := fg X G a_has_bit F_Qad (ok_bit F_Qad)
  have d_nums := fg X G a_numbers_of F_Qav (ok_nums F_Qav T d_name d0 d1 d4)
  have d_near := fg X G a_near_of F_Qau (ok_near F_Qau T d_two d_bit d3 d4)
  have o_web := ok_web F_iw T d_nums d_near
  have q_web : MakeOk l.prog w K mg base CX0 5 Cw "Web" ["self", "names", "ties"] (fun vs H Q _ => spWeb (fun i => ([C0, C1, C2, C3, C4, C5, C6, C6, C6] : List Addr).getD i Cp) Cw vs H Q E0) := fw X G Cw_ w5 w6 a_iw n_iw F_iw o_web.quiet
  have m_web : MakeOk l.prog w K mg base (CX1 l.prog w) 5 Cw "Web" ["self", "names", "ties"] (spWeb (fun i => ([C0, C1, C2, C3, C4, C5, C6, C6, C6] : List Addr).getD i Cp) Cw) := fw X G Cw_ w5 w6 a_iw n_iw F_iw o_web
  have m_has := fm wcl a_Qbb n_Qbb F_Qbb (ok_has F_Qbb T d_place)
  have o_num := ok_num F_Qbd T m_has d2
  have m_num := fm wcl a_Qbd n_Qbd F_Qbd o_num
  have o_bb := ok_bb F_Qba T m_num
  have m_bb := fm wcl a_Qba n_Qba F_Qba o_bb
  have m_nin := fm wcl a_Qbc n_Qbc F_Qbc (ok_nin F_Qbc T d_bit)
  have o_bs := ok_bs F_Qaz T m_bb m_nin
  have q_bs := fm wcl a_Qaz n_Qaz F_Qaz o_bs.quiet
  have m_pls := fm wcl a_Qbe n_Qbe F_Qbe (ok_pls F_Qbe T)
  have m_play : MakeOk l.prog w K mg base CX0 5 Cp "Play" ["self", "web", "start"] (spWkI (fun i => ([C0, C1, C2, C3, C4, C5, C6, C6, C6] : List Addr).getD i Cp) Cw) := fw X G Cp_ pw5 pw6 a_Cp___init__ n_Cp___init__ F_Cp___init__ (ok_wkI F_Cp___init__ T m_has)
  have p_std := fm pcl a_Cp_stands_at n_Cp_stands_at F_Cp_stands_at (ok_ps F_Cp_stands_at T)
  have p_gone := fm pcl a_Cp_gone n_Cp_gone F_Cp_gone (ok_pgn F_Cp_gone T)
  have p_ng := fm pcl a_Cp_not_gone n_Cp_not_gone F_Cp_not_gone (ok_ng F_Cp_not_gone T)
  have p_mv := fm pcl a_Cp_moves n_Cp_moves F_Cp_moves (ok_pm F_Cp_moves T q_bs p_std p_ng)
  have p_mvt := fm pcl a_Cp_move_to n_Cp_move_to F_Cp_move_to (ok_mvt F_Cp_move_to T p_mv)
  have p_go := fm pcl a_Cp_go n_Cp_go F_Cp_go (ok_pgo F_Cp_go T p_mvt)
  have p_bk := fm pcl a_Cp_back n_Cp_back F_Cp_back (ok_pbk F_Cp_back T)
  have d_pld := fg X G a_played F_Qaw (ok_pld F_Qaw T m_play p_go)
  have p_tw := fm pcl a_Cp_twin n_Cp_twin F_Cp_twin (ok_tw F_Cp_twin T d_pld)
  have d_wh := fg X G a_is_whole F_Qag (ok_wh F_Qag T)
  have d_in := fg X G a_is_within F_Qah (ok_in F_Qah d_wh)
  have d_ns := fg X G a_l_numbers F_Qam (ok_ns F_Qam T)
  have d_nm := fg X G a_l_names F_Qal (ok_nm F_Qal T d_ns)
  have d_ts := fg X G a_l_ties F_Qar (ok_ts2 F_Qar T d_ns)
  have d_td := fg X G a_l_tied F_Qaq (ok_tdB F_Qaq)
  have d_mv := fg X G a_l_moves F_Qak (ok_mvL F_Qak d_td)
  have d_lwh := fg X G a_l_whole F_Qas (ok_lwh F_Qas T)
  have d_rno : DefOk l.prog w K mg base CX0 9 "rows_from" ["play", "many"] (fun _ _ _ _ => False) := fg X G a_rows_from F_Qax (fn_false)
  have o_rf0 := ok_rf (P := l.prog) (w := w) (mg := mg) (base := base) (cc := (fun i => ([C0, C1, C2, C3, C4, C5, C6, C6, C6] : List Addr).getD i Cp)) (cw := Cw) F_Qax 0 (by decide) _ (fun h => absurd h (by decide)) p_mv p_go p_bk d_rno
  have d_rf0 := fg X G a_rows_from F_Qax (o_rf0)
  have o_rf1 := ok_rf (P := l.prog) (w := w) (mg := mg) (base := base) (cc := (fun i => ([C0, C1, C2, C3, C4, C5, C6, C6, C6] : List Addr).getD i Cp)) (cw := Cw) F_Qax 1 (by decide) _ (fun _ => rfl) p_mv p_go p_bk d_rf0
  have d_rf1 := fg X G a_rows_from F_Qax (o_rf1)
  have o_rf2 := ok_rf (P := l.prog) (w := w) (mg := mg) (base := base) (cc := (fun i => ([C0, C1, C2, C3, C4, C5, C6, C6, C6] : List Addr).getD i Cp)) (cw := Cw) F_Qax 2 (by decide) _ (fun _ => rfl) p_mv p_go p_bk d_rf1
  have d_rf2 := fg X G a_rows_from F_Qax (o_rf2)
  have o_rf3 := ok_rf (P := l.prog) (w := w) (mg := mg) (base := base) (cc := (fun i => ([C0, C1, C2, C3, C4, C5, C6, C6, C6] : List Addr).getD i Cp)) (cw := Cw) F_Qax 3 (by decide) _ (fun _ => rfl) p_mv p_go p_bk d_rf2
  have d_rf3 := fg X G a_rows_from F_Qax (o_rf3)
  have d_rfA : DefOk l.prog w K mg base CX0 13 "rows_from" ["play", "many"] (spRW (fun i => ([C0, C1, C2, C3, C4, C5, C6, C6, C6] : List Addr).getD i Cp) Cw) := fg X G a_rows_from F_Qax (FnOk.upto (n := 3) (fun m hm => match m, hm with | 0, _ => FnOk.up o_rf0 (by decide) | 1, _ => FnOk.up o_rf1 (by decide) | 2, _ => FnOk.up o_rf2 (by decide) | 3, _ => FnOk.up o_rf3 (by decide) | m + 4, h => absurd h (by omega)))
  have d_cno : DefOk l.prog w K mg base CX0 9 "count_from" ["walk", "many"] (fun _ _ _ _ => False) := fg X G a_count_from F_Qac (fn_false)
  have o_cf0 := ok_cf (P := l.prog) (w := w) (mg := mg) (base := base) (cc := (fun i => ([C0, C1, C2, C3, C4, C5, C6, C6, C6] : List Addr).getD i Cp)) (cw := Cw) F_Qac 0 (by decide) _ (fun h => absurd h (by decide)) p_mv p_mvt p_bk d_cno
  have d_cf0 := fg X G a_count_from F_Qac (o_cf0)
  have o_cf1 := ok_cf (P := l.prog) (w := w) (mg := mg) (base := base) (cc := (fun i => ([C0, C1, C2, C3, C4, C5, C6, C6, C6] : List Addr).getD i Cp)) (cw := Cw) F_Qac 1 (by decide) _ (fun _ => rfl) p_mv p_mvt p_bk d_cf0
  have d_cf1 := fg X G a_count_from F_Qac (o_cf1)
  have o_cf2 := ok_cf (P := l.prog) (w := w) (mg := mg) (base := base) (cc := (fun i => ([C0, C1, C2, C3, C4, C5, C6, C6, C6] : List Addr).getD i Cp)) (cw := Cw) F_Qac 2 (by decide) _ (fun _ => rfl) p_mv p_mvt p_bk d_cf1
  have d_cf2 := fg X G a_count_from F_Qac (o_cf2)
  have o_cf3 := ok_cf (P := l.prog) (w := w) (mg := mg) (base := base) (cc := (fun i => ([C0, C1, C2, C3, C4, C5, C6, C6, C6] : List Addr).getD i Cp)) (cw := Cw) F_Qac 3 (by decide) _ (fun _ => rfl) p_mv p_mvt p_bk d_cf2
  have d_cf3 := fg X G a_count_from F_Qac (o_cf3)
  have o_cf4 := ok_cf (P := l.prog) (w := w) (mg := mg) (base := base) (cc := (fun i => ([C0, C1, C2, C3, C4, C5, C6, C6, C6] : List Addr).getD i Cp)) (cw := Cw) F_Qac 4 (by decide) _ (fun _ => rfl) p_mv p_mvt p_bk d_cf3
  have d_cf4 := fg X G a_count_from F_Qac (o_cf4)
  have o_cf5 := ok_cf (P := l.prog) (w := w) (mg := mg) (base := base) (cc := (fun i => ([C0, C1, C2, C3, C4, C5, C6, C6, C6] : List Addr).getD i Cp)) (cw := Cw) F_Qac 5 (by decide) _ (fun _ => rfl) p_mv p_mvt p_bk d_cf4
  have d_cf5 := fg X G a_count_from F_Qac (o_cf5)
  have d_cfA : DefOk l.prog w K mg base CX0 15 "count_from" ["walk", "many"] (spCW (fun i => ([C0, C1, C2, C3, C4, C5, C6, C6, C6] : List Addr).getD i Cp) Cw) := fg X G a_count_from F_Qac (FnOk.upto (n := 5) (fun m hm => match m, hm with | 0, _ => FnOk.up o_cf0 (by decide) | 1, _ => FnOk.up o_cf1 (by decide) | 2, _ => FnOk.up o_cf2 (by decide) | 3, _ => FnOk.up o_cf3 (by decide) | 4, _ => FnOk.up o_cf4 (by decide) | 5, _ => FnOk.up o_cf5 (by decide) | m + 6, h => absurd h (by omega)))
  have d_lno : DefOk l.prog w K mg base CX0 1 "_law_count" ["_law_beside", "_law_trail", "_law_many"] (fun _ _ _ _ => False) := fg X G a_l_count F_Qaj (fn_false)
  have o_lc0 := ok_lc (P := l.prog) (w := w) (mg := mg) (base := base) F_Qaj 0 (by decide) _ (fun h => absurd h (by decide))  d_lno
  have d_lc0 := fg X G a_l_count F_Qaj (o_lc0)
  have o_lc1 := ok_lc (P := l.prog) (w := w) (mg := mg) (base := base) F_Qaj 1 (by decide) _ (fun _ => rfl)  d_lc0
  have d_lc1 := fg X G a_l_count F_Qaj (o_lc1)
  have o_lc2 := ok_lc (P := l.prog) (w := w) (mg := mg) (base := base) F_Qaj 2 (by decide) _ (fun _ => rfl)  d_lc1
  have d_lc2 := fg X G a_l_count F_Qaj (o_lc2)
  have o_lc3 := ok_lc (P := l.prog) (w := w) (mg := mg) (base := base) F_Qaj 3 (by decide) _ (fun _ => rfl)  d_lc2
  have d_lc3 := fg X G a_l_count F_Qaj (o_lc3)
  have o_lc4 := ok_lc (P := l.prog) (w := w) (mg := mg) (base := base) F_Qaj 4 (by decide) _ (fun _ => rfl)  d_lc3
  have d_lc4 := fg X G a_l_count F_Qaj (o_lc4)
  have o_lc5 := ok_lc (P := l.prog) (w := w) (mg := mg) (base := base) F_Qaj 5 (by decide) _ (fun _ => rfl)  d_lc4
  have d_lc5 := fg X G a_l_count F_Qaj (o_lc5)
  have d_lcA : DefOk l.prog w K mg base CX0 7 "_law_count" ["_law_beside", "_law_trail", "_law_many"] (fun vs H Q E => ∃ m, m ≤ 5 ∧ spLC m vs H Q E) := fg X G a_l_count F_Qaj (FnOk.upto (n := 5) (fun m hm => match m, hm with | 0, _ => FnOk.up o_lc0 (by decide) | 1, _ => FnOk.up o_lc1 (by decide) | 2, _ => FnOk.up o_lc2 (by decide) | 3, _ => FnOk.up o_lc3 (by decide) | 4, _ => FnOk.up o_lc4 (by decide) | 5, _ => FnOk.up o_lc5 (by decide) | m + 6, h => absurd h (by omega)))
  have d_wno : DefOk l.prog w K mg base CX0 2 "_law_rows" ["_law_names_here", "_law_ties_here", "_law_trail", "_law_many"] (fun _ _ _ _ => False) := fg X G a_l_rows F_Qao (fn_false)
  have o_lr0 := ok_lrw (P := l.prog) (w := w) (mg := mg) (base := base) F_Qao 0 (by decide) _ (fun h => absurd h (by decide)) d_mv d_wno
  have d_lr0 := fg X G a_l_rows F_Qao (o_lr0)
  have o_lr1 := ok_lrw (P := l.prog) (w := w) (mg := mg) (base := base) F_Qao 1 (by decide) _ (fun _ => rfl) d_mv d_lr0
  have d_lr1 := fg X G a_l_rows F_Qao (o_lr1)
  have o_lr2 := ok_lrw (P := l.prog) (w := w) (mg := mg) (base := base) F_Qao 2 (by decide) _ (fun _ => rfl) d_mv d_lr1
  have d_lr2 := fg X G a_l_rows F_Qao (o_lr2)
  have o_lr3 := ok_lrw (P := l.prog) (w := w) (mg := mg) (base := base) F_Qao 3 (by decide) _ (fun _ => rfl) d_mv d_lr2
  have d_lr3 := fg X G a_l_rows F_Qao (o_lr3)
  have d_lrA : DefOk l.prog w K mg base CX0 6 "_law_rows" ["_law_names_here", "_law_ties_here", "_law_trail", "_law_many"] (fun vs H Q E => ∃ m, m ≤ 3 ∧ spLRw m vs H Q E) := fg X G a_l_rows F_Qao (FnOk.upto (n := 3) (fun m hm => match m, hm with | 0, _ => FnOk.up o_lr0 (by decide) | 1, _ => FnOk.up o_lr1 (by decide) | 2, _ => FnOk.up o_lr2 (by decide) | 3, _ => FnOk.up o_lr3 (by decide) | m + 4, h => absurd h (by omega)))
  have d_rwi := fg X G a_rows_within F_Qay (ok_rwi F_Qay T d_in p_tw d_rfA)
  have d_cwi := fg X G a_all_within F_Qaa (ok_cwi F_Qaa T d_in p_tw d_cfA)
  have d_rwX := fg X G a_rows_within F_Qay (ok_rwX F_Qay T d5 d_in p_tw d_rfA)
  have d_cwX := fg X G a_all_within F_Qaa (ok_cwX F_Qaa T d5 d_in p_tw d_cfA)
  have d_rf := fg X G a_l_refused F_Qan (ok_rf13 F_Qan T d_rwX d_cwX)
  have d_rr := fg X G a_l_rows_right F_Qap (ok_rr F_Qap T d_lrA d_rwi p_gone) (fun _ _ _ _ _ _ us hl => (match us, hl with | [_, _, _, _, _], _ => rfl))
  exact ok_law13 F_Qat T (fg X G a_l_cell F_Qai (ok_cl F_Qai T)) d_nm d_ts q_web m_pls m_play d_ns d_mv p_go p_bk p_gone p_tw d_cwi d_lwh d_lcA d_rr d_rf
theorem walk {l : PySem.W.OpenLaw} {q : Program} {loose : List Str} {XP : (Str → Option Value) → Heap → Prop} {YP : World → Heap → Prop} {d : DefRec} {K : Params → PySem.W.Frag} (hn : l.most = some 63) (hdf : d.params.defaults = [])
    (hY : ∀ (w : World) (h : Heap), YP w h → (K w.params).In h)
    (F : ∀ (w : World) (mg : Str → Option Value) (fa : Addr) (h : Heap), (K w.params).In h → h.Ns mainGlobals mg → mg d.name = some (.ref fa) →
      ∃ fd : FuncData, (∀ (s : Shared) (u : Value), BindsTo s fd ⟨[u], []⟩ [("_law_script", u)]) ∧ ∀ base : Heap, (K w.params).In base → base.Ns mainGlobals mg → FnOk l.prog w (K w.params) mg base CX0 18 fa fd ["_law_script"] (spLaw (K w.params))) :
    PySem.W.WalkO q loose XP YP l.row.toRowW d [] (fun f vs => PySem.call f vs) :=
  L2.walk_of (n := 63) (k := 18) (x := "_law_script") (CX := fun _ => CX0) (sp := fun w => spLaw (K w.params)) hn (by decide) hdf ⟨rfl, by decide, by decide⟩ hY F (fun _ _ a ns hl _ hS => ⟨a, ns, rfl, hS, hl, fun _ => rfl⟩) fun _ _ _ _ _ z => z
end K13
namespace Hd
open PySem PySem.W PySem.Calls PyProof.Rows
def runT (tb : String → Option Builtin) (p : Program) (w : World) (n₀ : Nat) (ann : Option Value) : Nat → SharedT → Thread → Option SharedT
  | 0, _, _ => none
  | n + 1, s, t => match through t with
    | true => some s
    | false => match stepOk n₀ ann t with
      | false => none
      | true => match stepT (denote tb) p w s t with
        | some (s', t') => runT tb p w n₀ ann n s' t'
        | none => none
theorem run_of {tb : String → Option Builtin} {p : Program} {w : World} {n₀ : Nat} {ann : Option Value} : ∀ {n : Nat} {s s' : SharedT} {t : Thread}, runT tb p w n₀ ann n s t = some s' → topRun tb p w n₀ ann n s.abs t = some s'.abs
  | 0, _, _, _, h => by cases h
  | n + 1, s, s', t, h => by
    unfold runT at h
    unfold topRun
    cases he : through t with
    | true => rw [he] at h; cases h; rfl
    | false =>
      rw [he] at h
      cases hk : stepOk n₀ ann t with
      | false => rw [hk] at h; cases h
      | true =>
        rw [hk] at h
        cases hs : stepT (denote tb) p w s t with
        | none => rw [hs] at h; cases h
        | some r => obtain ⟨s₂, t₂⟩ := r; rw [hs] at h; rw [stepT_spec hs]; exact run_of h
def treeIns : List Obj → Nat → BT → BT
  | [], _, t => t
  | o :: r, n, t => treeIns r (n + 1) (t.ins n o)
noncomputable def bootT (P : Params) (os : OsState) : SharedT := ⟨treeIns (boot_heap P).objs.toList 0 .nil, (boot_heap P).objs.size, (boot_heap P).life, Array.mk [], boot_drawn, boot_toks, os⟩
theorem boot_abs (P : Params) : absHeap (treeIns (boot_heap P).objs.toList 0 .nil) (boot_heap P).objs.size (boot_heap P).life = boot_heap P := by kernel_rfl
noncomputable def lookT (p q : Program) (Xt : Shared → Bool) {α : Type} (Yf : Shared → α) (N : Nat) (w : World) (os : OsState) := match (boot_heap w.params).isNs mainGlobals && (Array.mk [] : Array GenState).size == 0 with
  | true => (runT treeTable p w (boot_heap w.params).objs.size ((boot_heap w.params).nsMap mainGlobals "__annotations__") N (bootT w.params os) (topStub p)).bind fun s => match staticsOk (importedModules p.main.body) (boot_heap w.params) s.abs.heap && namesBound p s.abs.heap && gensDone s.abs && laidKept (boot_heap w.params) s.abs.heap with
      | true => some (openSeen q [] (importedModules p.main.body) Xt true s.abs, Yf s.abs)
      | false => none
  | false => none
theorem left_of {p q : Program} {Xt : Shared → Bool} {α : Type} {Yf : Shared → α} {Ya : World → α} {N : Nat} (e : opening p = plainProg p.main.scope.names) (hN : Nat.ble 600 N = true) (f : ∀ s, fenceModules? p s = some s)
    (h : ∀ w os, lookT p q Xt Yf N w os = some (openGood q [], Ya w)) : LeftO p q [] Xt Yf Ya N := fun w => by
  obtain ⟨⟨h0, gs, d, k, os⟩, e1, e2⟩ := Option.map_eq_some_iff.mp (boot_open e hN f w)
  obtain ⟨rfl, rfl, rfl, rfl⟩ : h0 = boot_heap w.params ∧ gs = Array.mk [] ∧ d = boot_drawn ∧ k = boot_toks := by simpa using e2
  have hh := h w os
  unfold lookT at hh
  unfold openEnds
  rw [e1]
  show (topFrom treeTable p w N _).map _ = _
  unfold topFrom
  dsimp only
  split at hh
  · rename_i z
    rw [z]
    obtain ⟨s, hs, q2⟩ := Option.bind_eq_some_iff.mp hh
    have r := run_of hs
    have ba : (bootT w.params os).abs = ⟨boot_heap w.params, Array.mk [], boot_drawn, boot_toks, os⟩ := by
      unfold bootT SharedT.abs
      dsimp only
      rw [boot_abs]
    rw [ba] at r
    dsimp only
    rw [r]
    split at q2
    · rename_i z2
      show ((match staticsOk (importedModules p.main.body) (boot_heap w.params) s.abs.heap && namesBound p s.abs.heap && gensDone s.abs && laidKept (boot_heap w.params) s.abs.heap with | true => some s.abs | false => none) : Option Shared).map _ = _
      rw [z2]
      exact q2
    · cases q2
  · cases hh
end Hd
namespace K13
open PySem L2 PyProof.Rows PySem.W
abbrev NN : Nat := 20000
noncomputable def Q : Program := view PySem.Challenge.pw_onceroad_k13_rows_of_moves [0, 2, 3, 4, 5, 6, 7, 8, 9, 10, 12, 13, 14, 15, 17, 18, 20, 21, 22, 23, 24, 25, 26, 28, 29, 30, 31, 32, 33, 34, 35, 37, 38, 39, 40, 41, 42, 43, 44, 45, 46, 47, 48]
def en (P : Params) (k : Str) (t : Tok) (v : Value) : DictEntry := ⟨PyData.keyHash P k, .str k t, v⟩
noncomputable def Kf (P : Params) : Frag :=
  (nat_lit 2, (⟨.none, none, .dict #[] 0, #[]⟩ : Obj)) ::
  (nat_lit 3, (⟨(.type "dict"), none, .dict #[en P "__name__" 165 (.str "law_onceroad_k13_rows_of_moves" 867), en P "__doc__" 166 .none, en P "__package__" 167 .none, en P "__loader__" 168 (.builtin "__main__.__loader__#opaque"), en P "__spec__" 169 .none, en P "__annotations__" 170 (.ref 6), en P "__builtins__" 171 (.ref 4), en P "__file__" 173 (.str "/claim/cut.py" 172), en P "__cached__" 174 .none, en P "_wall" 193 (.ref 21), en P "OnceError" 221 (.ref 38), en P "NoName" 246 (.ref 58), en P "Twice" 271 (.ref 77), en P "NoPlace" 296 (.ref 96), en P "NoTie" 321 (.ref 115), en P "TooMany" 346 (.ref 134), en P "NoMove" 371 (.ref 153), en P "NoBack" 394 (.ref 172), en P "NoNumbers" 419 (.ref 191), en P "LONGEST_NAME" 423 (.int 6 422), en P "is_whole" 430 (.ref 200), en P "is_within" 439 (.ref 207), en P "is_name" 445 (.ref 212), en P "Walk" 542 (.ref 292), en P "count_from" 552 (.ref 303), en P "MOST_FOR_ROWS" 556 (.int 3 555), en P "MOST_FOR_THEIR_NUMBER" 558 (.int 5 557), en P "Play" 623 (.ref 360), en P "played" 633 (.ref 369), en P "rows_within" 641 (.ref 376), en P "rows_from" 647 (.ref 381), en P "all_within" 655 (.ref 388), en P "MOST_PLACES" 659 (.int 14 658), en P "MOST_TIES" 661 (.int 30 660), en P "Web" 820 (.ref 515), en P "has_bit" 828 (.ref 526), en P "is_place" 836 (.ref 533), en P "are_two_places" 845 (.ref 540), en P "numbers_of" 854 (.ref 547), en P "near_of" 866 (.ref 554), en P "_law_cell" 876 (.ref 561), en P "_law_numbers" 889 (.ref 568), en P "_law_names" 895 (.ref 573), en P "_law_ties" 901 (.ref 578), en P "_law_tied" 910 (.ref 585), en P "_law_moves" 916 (.ref 590), en P "_law_rows" 922 (.ref 595), en P "_law_count" 933 (.ref 602), en P "_law_whole" 940 (.ref 609), en P "_law_refused" 950 (.ref 616), en P "_law_rows_right" 963 (.ref 623), en P "law" 984 (.ref 630)] 52, #[]⟩ : Obj)) ::
  (nat_lit 34, (⟨(.type "code"), none, .fields #[(.str "__init__" 208), (.str "OnceError.__init__" 209), (.str "/claim/cut.py" 210), (.int 7 0), (.int 2 0), (.int 0 0), (.int 0 0), (.int 3 0), (.ref 29), (.bool true), (.int 181 0), (.ref 30), .none, (.ref 31), (.ref 32), (.ref 33), (.int 213 0), (.int 7 0), (.str "/claim/cut.py" 214)], #[]⟩ : Obj)) ::
  (nat_lit 35, (⟨(.type "function"), none, .func (fnOf "__init__" "OnceError.__init__" (defArgs s_OnceError_init) (defBody s_OnceError_init) (defScope s_OnceError_init) .none .none .none (.str "onceroad.errors" 194) none (.ref 34) .none), #[]⟩ : Obj)) ::
  (nat_lit 37, (⟨(.type "dict"), none, .dict #[en P "__module__" 203 (.str "onceroad.errors" 194), en P "__firstlineno__" 207 (.int 5 206), en P "__init__" 215 (.ref 35), en P "__static_attributes__" 216 (.ref 36), en P "__weakref__" 218 (.ref 39), en P "__doc__" 219 .none] 3, #[]⟩ : Obj)) ::
  (nat_lit 38, (⟨(.type "type"), none, .cls { name := "OnceError", bases := [(.type "ValueError")], mro := [(.ref 38), (.type "ValueError"), (.type "Exception"), (.type "BaseException"), (.type "object")], ns := 37, qualname := "OnceError", hasDict := true, slotNames := [], subclasses := [(.ref 58), (.ref 77), (.ref 96), (.ref 115), (.ref 134), (.ref 153), (.ref 172), (.ref 191)], abstract := false, collection := none, hasDel := false }, #[(some (.ref 22)), none, (some (.str "OnceError" 196)), (some (.str "OnceError" 204)), (some (.builtin "ValueError.__new__")), (some (.bool true))]⟩ : Obj)) ::
  (nat_lit 54, (⟨(.type "code"), none, .fields #[(.str "__init__" 234), (.str "NoName.__init__" 235), (.str "/claim/cut.py" 236), (.int 11 0), (.int 2 0), (.int 0 0), (.int 0 0), (.int 3 0), (.ref 49), (.bool true), (.int 181 0), (.ref 50), .none, (.ref 51), (.ref 52), (.ref 53), (.int 239 0), (.int 11 0), (.str "/claim/cut.py" 240)], #[]⟩ : Obj)) ::
  (nat_lit 55, (⟨(.type "function"), none, .func (fnOf "__init__" "NoName.__init__" (defArgs s_NoName_init) (defBody s_NoName_init) (defScope s_NoName_init) .none .none .none (.str "onceroad.errors" 194) none (.ref 54) .none), #[]⟩ : Obj)) ::
  (nat_lit 57, (⟨(.type "dict"), none, .dict #[en P "__module__" 229 (.str "onceroad.errors" 194), en P "__firstlineno__" 233 (.int 9 232), en P "__init__" 241 (.ref 55), en P "__static_attributes__" 243 (.ref 56), en P "__doc__" 244 .none] 2, #[]⟩ : Obj)) ::
  (nat_lit 58, (⟨(.type "type"), none, .cls { name := "NoName", bases := [(.ref 38)], mro := [(.ref 58), (.ref 38), (.type "ValueError"), (.type "Exception"), (.type "BaseException"), (.type "object")], ns := 57, qualname := "NoName", hasDict := true, slotNames := [], subclasses := [], abstract := false, collection := none, hasDel := false }, #[(some (.ref 42)), none, (some (.str "NoName" 222)), (some (.str "NoName" 230)), (some (.builtin "ValueError.__new__")), (some (.bool true))]⟩ : Obj)) ::
  (nat_lit 73, (⟨(.type "code"), none, .fields #[(.str "__init__" 259), (.str "Twice.__init__" 260), (.str "/claim/cut.py" 261), (.int 16 0), (.int 2 0), (.int 0 0), (.int 0 0), (.int 3 0), (.ref 68), (.bool true), (.int 181 0), (.ref 69), .none, (.ref 70), (.ref 71), (.ref 72), (.int 264 0), (.int 16 0), (.str "/claim/cut.py" 265)], #[]⟩ : Obj)) ::
  (nat_lit 74, (⟨(.type "function"), none, .func (fnOf "__init__" "Twice.__init__" (defArgs s_Twice_init) (defBody s_Twice_init) (defScope s_Twice_init) .none .none .none (.str "onceroad.errors" 194) none (.ref 73) .none), #[]⟩ : Obj)) ::
  (nat_lit 76, (⟨(.type "dict"), none, .dict #[en P "__module__" 254 (.str "onceroad.errors" 194), en P "__firstlineno__" 258 (.int 14 257), en P "__init__" 266 (.ref 74), en P "__static_attributes__" 268 (.ref 75), en P "__doc__" 269 .none] 2, #[]⟩ : Obj)) ::
  (nat_lit 77, (⟨(.type "type"), none, .cls { name := "Twice", bases := [(.ref 38)], mro := [(.ref 77), (.ref 38), (.type "ValueError"), (.type "Exception"), (.type "BaseException"), (.type "object")], ns := 76, qualname := "Twice", hasDict := true, slotNames := [], subclasses := [], abstract := false, collection := none, hasDel := false }, #[(some (.ref 61)), none, (some (.str "Twice" 247)), (some (.str "Twice" 255)), (some (.builtin "ValueError.__new__")), (some (.bool true))]⟩ : Obj)) ::
  (nat_lit 92, (⟨(.type "code"), none, .fields #[(.str "__init__" 284), (.str "NoPlace.__init__" 285), (.str "/claim/cut.py" 286), (.int 21 0), (.int 2 0), (.int 0 0), (.int 0 0), (.int 3 0), (.ref 87), (.bool true), (.int 181 0), (.ref 88), .none, (.ref 89), (.ref 90), (.ref 91), (.int 289 0), (.int 21 0), (.str "/claim/cut.py" 290)], #[]⟩ : Obj)) ::
  (nat_lit 93, (⟨(.type "function"), none, .func (fnOf "__init__" "NoPlace.__init__" (defArgs s_NoPlace_init) (defBody s_NoPlace_init) (defScope s_NoPlace_init) .none .none .none (.str "onceroad.errors" 194) none (.ref 92) .none), #[]⟩ : Obj)) ::
  (nat_lit 95, (⟨(.type "dict"), none, .dict #[en P "__module__" 279 (.str "onceroad.errors" 194), en P "__firstlineno__" 283 (.int 19 282), en P "__init__" 291 (.ref 93), en P "__static_attributes__" 293 (.ref 94), en P "__doc__" 294 .none] 2, #[]⟩ : Obj)) ::
  (nat_lit 96, (⟨(.type "type"), none, .cls { name := "NoPlace", bases := [(.ref 38)], mro := [(.ref 96), (.ref 38), (.type "ValueError"), (.type "Exception"), (.type "BaseException"), (.type "object")], ns := 95, qualname := "NoPlace", hasDict := true, slotNames := [], subclasses := [], abstract := false, collection := none, hasDel := false }, #[(some (.ref 80)), none, (some (.str "NoPlace" 272)), (some (.str "NoPlace" 280)), (some (.builtin "ValueError.__new__")), (some (.bool true))]⟩ : Obj)) ::
  (nat_lit 111, (⟨(.type "code"), none, .fields #[(.str "__init__" 309), (.str "NoTie.__init__" 310), (.str "/claim/cut.py" 311), (.int 26 0), (.int 2 0), (.int 0 0), (.int 0 0), (.int 3 0), (.ref 106), (.bool true), (.int 181 0), (.ref 107), .none, (.ref 108), (.ref 109), (.ref 110), (.int 314 0), (.int 26 0), (.str "/claim/cut.py" 315)], #[]⟩ : Obj)) ::
  (nat_lit 112, (⟨(.type "function"), none, .func (fnOf "__init__" "NoTie.__init__" (defArgs s_NoTie_init) (defBody s_NoTie_init) (defScope s_NoTie_init) .none .none .none (.str "onceroad.errors" 194) none (.ref 111) .none), #[]⟩ : Obj)) ::
  (nat_lit 114, (⟨(.type "dict"), none, .dict #[en P "__module__" 304 (.str "onceroad.errors" 194), en P "__firstlineno__" 308 (.int 24 307), en P "__init__" 316 (.ref 112), en P "__static_attributes__" 318 (.ref 113), en P "__doc__" 319 .none] 2, #[]⟩ : Obj)) ::
  (nat_lit 115, (⟨(.type "type"), none, .cls { name := "NoTie", bases := [(.ref 38)], mro := [(.ref 115), (.ref 38), (.type "ValueError"), (.type "Exception"), (.type "BaseException"), (.type "object")], ns := 114, qualname := "NoTie", hasDict := true, slotNames := [], subclasses := [], abstract := false, collection := none, hasDel := false }, #[(some (.ref 99)), none, (some (.str "NoTie" 297)), (some (.str "NoTie" 305)), (some (.builtin "ValueError.__new__")), (some (.bool true))]⟩ : Obj)) ::
  (nat_lit 130, (⟨(.type "code"), none, .fields #[(.str "__init__" 334), (.str "TooMany.__init__" 335), (.str "/claim/cut.py" 336), (.int 31 0), (.int 2 0), (.int 0 0), (.int 0 0), (.int 3 0), (.ref 125), (.bool true), (.int 181 0), (.ref 126), .none, (.ref 127), (.ref 128), (.ref 129), (.int 339 0), (.int 31 0), (.str "/claim/cut.py" 340)], #[]⟩ : Obj)) ::
  (nat_lit 131, (⟨(.type "function"), none, .func (fnOf "__init__" "TooMany.__init__" (defArgs s_TooMany_init) (defBody s_TooMany_init) (defScope s_TooMany_init) .none .none .none (.str "onceroad.errors" 194) none (.ref 130) .none), #[]⟩ : Obj)) ::
  (nat_lit 133, (⟨(.type "dict"), none, .dict #[en P "__module__" 329 (.str "onceroad.errors" 194), en P "__firstlineno__" 333 (.int 29 332), en P "__init__" 341 (.ref 131), en P "__static_attributes__" 343 (.ref 132), en P "__doc__" 344 .none] 2, #[]⟩ : Obj)) ::
  (nat_lit 134, (⟨(.type "type"), none, .cls { name := "TooMany", bases := [(.ref 38)], mro := [(.ref 134), (.ref 38), (.type "ValueError"), (.type "Exception"), (.type "BaseException"), (.type "object")], ns := 133, qualname := "TooMany", hasDict := true, slotNames := [], subclasses := [], abstract := false, collection := none, hasDel := false }, #[(some (.ref 118)), none, (some (.str "TooMany" 322)), (some (.str "TooMany" 330)), (some (.builtin "ValueError.__new__")), (some (.bool true))]⟩ : Obj)) ::
  (nat_lit 187, (⟨(.type "code"), none, .fields #[(.str "__init__" 407), (.str "NoNumbers.__init__" 408), (.str "/claim/cut.py" 409), (.int 45 0), (.int 2 0), (.int 0 0), (.int 0 0), (.int 3 0), (.ref 182), (.bool true), (.int 181 0), (.ref 183), .none, (.ref 184), (.ref 185), (.ref 186), (.int 412 0), (.int 45 0), (.str "/claim/cut.py" 413)], #[]⟩ : Obj)) ::
  (nat_lit 188, (⟨(.type "function"), none, .func (fnOf "__init__" "NoNumbers.__init__" (defArgs s_NoNumbers_init) (defBody s_NoNumbers_init) (defScope s_NoNumbers_init) .none .none .none (.str "onceroad.errors" 194) none (.ref 187) .none), #[]⟩ : Obj)) ::
  (nat_lit 190, (⟨(.type "dict"), none, .dict #[en P "__module__" 402 (.str "onceroad.errors" 194), en P "__firstlineno__" 406 (.int 43 405), en P "__init__" 414 (.ref 188), en P "__static_attributes__" 416 (.ref 189), en P "__doc__" 417 .none] 2, #[]⟩ : Obj)) ::
  (nat_lit 191, (⟨(.type "type"), none, .cls { name := "NoNumbers", bases := [(.ref 38)], mro := [(.ref 191), (.ref 38), (.type "ValueError"), (.type "Exception"), (.type "BaseException"), (.type "object")], ns := 190, qualname := "NoNumbers", hasDict := true, slotNames := [], subclasses := [], abstract := false, collection := none, hasDel := false }, #[(some (.ref 175)), none, (some (.str "NoNumbers" 395)), (some (.str "NoNumbers" 403)), (some (.builtin "ValueError.__new__")), (some (.bool true))]⟩ : Obj)) ::
  (nat_lit 199, (⟨(.type "code"), none, .fields #[(.str "is_whole" 424), (.str "is_whole" 425), (.str "/claim/cut.py" 426), (.int 50 0), (.int 1 0), (.int 0 0), (.int 0 0), (.int 3 0), (.ref 194), (.bool true), (.int 181 0), (.ref 195), .none, (.ref 196), (.ref 197), (.ref 198), (.int 428 0), (.int 50 0), (.str "/claim/cut.py" 429)], #[]⟩ : Obj)) ::
  (nat_lit 200, (⟨(.type "function"), none, .func (fnOf "is_whole" "is_whole" (defArgs s_is_whole) (defBody s_is_whole) (defScope s_is_whole) .none .none .none (.str "onceroad.names" 420) none (.ref 199) .none), #[]⟩ : Obj)) ::
  (nat_lit 206, (⟨(.type "code"), none, .fields #[(.str "is_within" 431), (.str "is_within" 432), (.str "/claim/cut.py" 433), (.int 52 0), (.int 3 0), (.int 0 0), (.int 0 0), (.int 3 0), (.ref 201), (.bool true), (.int 181 0), (.ref 202), .none, (.ref 203), (.ref 204), (.ref 205), (.int 437 0), (.int 52 0), (.str "/claim/cut.py" 438)], #[]⟩ : Obj)) ::
  (nat_lit 207, (⟨(.type "function"), none, .func (fnOf "is_within" "is_within" (defArgs s_is_within) (defBody s_is_within) (defScope s_is_within) .none .none .none (.str "onceroad.names" 420) none (.ref 206) .none), #[]⟩ : Obj)) ::
  (nat_lit 211, (⟨(.type "code"), none, .fields #[(.str "is_name" 440), (.str "is_name" 441), (.str "/claim/cut.py" 442), (.int 54 0), (.int 1 0), (.int 0 0), (.int 0 0), (.int 3 0), (.ref 208), (.bool true), (.int 181 0), (.ref 209), .none, .none, .none, (.ref 210), (.int 443 0), (.int 54 0), (.str "/claim/cut.py" 444)], #[]⟩ : Obj)) ::
  (nat_lit 212, (⟨(.type "function"), none, .func (fnOf "is_name" "is_name" (defArgs s_is_name) (defBody s_is_name) (defScope s_is_name) .none .none .none (.str "onceroad.names" 420) none (.ref 211) .none), #[]⟩ : Obj)) ::
  (nat_lit 225, (⟨(.type "code"), none, .fields #[(.str "__init__" 460), (.str "Walk.__init__" 461), (.str "/claim/cut.py" 462), (.int 61 0), (.int 3 0), (.int 0 0), (.int 0 0), (.int 3 0), (.ref 220), (.bool true), (.int 181 0), (.ref 221), .none, (.ref 222), (.ref 223), (.ref 224), (.int 466 0), (.int 61 0), (.str "/claim/cut.py" 467)], #[]⟩ : Obj)) ::
  (nat_lit 226, (⟨(.type "function"), none, .func (fnOf "__init__" "Walk.__init__" (defArgs s_Walk_init) (defBody s_Walk_init) (defScope s_Walk_init) .none .none .none (.str "onceroad.walks" 446) none (.ref 225) .none), #[]⟩ : Obj)) ::
  (nat_lit 239, (⟨(.type "code"), none, .fields #[(.str "stands_at" 476), (.str "Walk.stands_at" 477), (.str "/claim/cut.py" 478), (.int 70 0), (.int 1 0), (.int 0 0), (.int 0 0), (.int 3 0), (.ref 234), (.bool true), (.int 181 0), (.ref 235), .none, (.ref 236), (.ref 237), (.ref 238), (.int 480 0), (.int 70 0), (.str "/claim/cut.py" 481)], #[]⟩ : Obj)) ::
  (nat_lit 240, (⟨(.type "function"), none, .func (fnOf "stands_at" "Walk.stands_at" (defArgs s_Walk_stands_at) (defBody s_Walk_stands_at) (defScope s_Walk_stands_at) .none .none .none (.str "onceroad.walks" 446) none (.ref 239) .none), #[]⟩ : Obj)) ::
  (nat_lit 246, (⟨(.type "code"), none, .fields #[(.str "gone" 483), (.str "Walk.gone" 484), (.str "/claim/cut.py" 485), (.int 73 0), (.int 1 0), (.int 0 0), (.int 0 0), (.int 3 0), (.ref 241), (.bool true), (.int 181 0), (.ref 242), .none, (.ref 243), (.ref 244), (.ref 245), (.int 487 0), (.int 73 0), (.str "/claim/cut.py" 488)], #[]⟩ : Obj)) ::
  (nat_lit 247, (⟨(.type "function"), none, .func (fnOf "gone" "Walk.gone" (defArgs s_Walk_gone) (defBody s_Walk_gone) (defScope s_Walk_gone) .none .none .none (.str "onceroad.walks" 446) none (.ref 246) .none), #[]⟩ : Obj)) ::
  (nat_lit 281, (⟨(.type "code"), none, .fields #[(.str "move_to" 518), (.str "Walk.move_to" 519), (.str "/claim/cut.py" 520), (.int 88 0), (.int 2 0), (.int 0 0), (.int 0 0), (.int 3 0), (.ref 276), (.bool true), (.int 181 0), (.ref 277), .none, (.ref 278), (.ref 279), (.ref 280), (.int 523 0), (.int 88 0), (.str "/claim/cut.py" 524)], #[]⟩ : Obj)) ::
  (nat_lit 282, (⟨(.type "function"), none, .func (fnOf "move_to" "Walk.move_to" (defArgs s_Walk_move_to) (defBody s_Walk_move_to) (defScope s_Walk_move_to) .none .none .none (.str "onceroad.walks" 446) none (.ref 281) .none), #[]⟩ : Obj)) ::
  (nat_lit 288, (⟨(.type "code"), none, .fields #[(.str "back" 526), (.str "Walk.back" 527), (.str "/claim/cut.py" 528), (.int 93 0), (.int 1 0), (.int 0 0), (.int 0 0), (.int 3 0), (.ref 283), (.bool true), (.int 181 0), (.ref 284), .none, (.ref 285), (.ref 286), (.ref 287), (.int 530 0), (.int 93 0), (.str "/claim/cut.py" 531)], #[]⟩ : Obj)) ::
  (nat_lit 289, (⟨(.type "function"), none, .func (fnOf "back" "Walk.back" (defArgs s_Walk_back) (defBody s_Walk_back) (defScope s_Walk_back) .none .none .none (.str "onceroad.walks" 446) none (.ref 288) .none), #[]⟩ : Obj)) ::
  (nat_lit 291, (⟨(.type "dict"), none, .dict #[en P "__module__" 455 (.str "onceroad.walks" 446), en P "__firstlineno__" 459 (.int 59 458), en P "__init__" 468 (.ref 226), en P "web" 475 (.ref 233), en P "stands_at" 482 (.ref 240), en P "gone" 489 (.ref 247), en P "moves" 496 (.ref 254), en P "hand" 503 (.ref 261), en P "ended" 510 (.ref 268), en P "loser" 517 (.ref 275), en P "move_to" 525 (.ref 282), en P "back" 532 (.ref 289), en P "__static_attributes__" 535 (.ref 290), en P "__dict__" 537 (.ref 293), en P "__weakref__" 539 (.ref 294), en P "__doc__" 540 .none] 4, #[]⟩ : Obj)) ::
  (nat_lit 292, (⟨(.type "type"), none, .cls { name := "Walk", bases := [(.type "object")], mro := [(.ref 292), (.type "object")], ns := 291, qualname := "Walk", hasDict := true, slotNames := [], subclasses := [(.ref 360)], abstract := false, collection := none, hasDel := false }, #[none, none, (some (.str "Walk" 448)), (some (.str "Walk" 456)), (some (.builtin "object.__new__")), (some (.bool true))]⟩ : Obj)) ::
  (nat_lit 302, (⟨(.type "code"), none, .fields #[(.str "count_from" 543), (.str "count_from" 544), (.str "/claim/cut.py" 545), (.int 97 0), (.int 2 0), (.int 0 0), (.int 0 0), (.int 3 0), (.ref 297), (.bool true), (.int 181 0), (.ref 298), .none, (.ref 299), (.ref 300), (.ref 301), (.int 550 0), (.int 97 0), (.str "/claim/cut.py" 551)], #[]⟩ : Obj)) ::
  (nat_lit 303, (⟨(.type "function"), none, .func (fnOf "count_from" "count_from" (defArgs s_count_from) (defBody s_count_from) (defScope s_count_from) .none .none .none (.str "onceroad.walks" 446) none (.ref 302) .none), #[]⟩ : Obj)) ::
  (nat_lit 323, (⟨(.type "code"), none, .fields #[(.str "moves" 578), (.str "Play.moves" 579), (.str "/claim/cut.py" 580), (.int 113 0), (.int 1 0), (.int 0 0), (.int 0 0), (.int 3 0), (.ref 318), (.bool true), (.int 181 0), (.ref 319), .none, (.ref 320), (.ref 321), (.ref 322), (.int 582 0), (.int 113 0), (.str "/claim/cut.py" 583)], #[]⟩ : Obj)) ::
  (nat_lit 324, (⟨(.type "function"), none, .func (fnOf "moves" "Play.moves" (defArgs s_Play_moves) (defBody s_Play_moves) (defScope s_Play_moves) .none .none .none (.str "onceroad.plays" 553) none (.ref 323) .none), #[]⟩ : Obj)) ::
  (nat_lit 328, (⟨(.type "code"), none, .fields #[(.str "not_gone" 585), (.str "Play.not_gone" 586), (.str "/claim/cut.py" 587), (.int 116 0), (.int 2 0), (.int 0 0), (.int 0 0), (.int 3 0), (.ref 325), (.bool true), (.int 181 0), (.ref 326), .none, .none, .none, (.ref 327), (.int 588 0), (.int 116 0), (.str "/claim/cut.py" 589)], #[]⟩ : Obj)) ::
  (nat_lit 329, (⟨(.type "function"), none, .func (fnOf "not_gone" "Play.not_gone" (defArgs s_Play_not_gone) (defBody s_Play_not_gone) (defScope s_Play_not_gone) .none .none .none (.str "onceroad.plays" 553) none (.ref 328) .none), #[]⟩ : Obj)) ::
  (nat_lit 335, (⟨(.type "code"), none, .fields #[(.str "go" 591), (.str "Play.go" 592), (.str "/claim/cut.py" 593), (.int 119 0), (.int 2 0), (.int 0 0), (.int 0 0), (.int 3 0), (.ref 330), (.bool true), (.int 181 0), (.ref 331), .none, (.ref 332), (.ref 333), (.ref 334), (.int 596 0), (.int 119 0), (.str "/claim/cut.py" 597)], #[]⟩ : Obj)) ::
  (nat_lit 336, (⟨(.type "function"), none, .func (fnOf "go" "Play.go" (defArgs s_Play_go) (defBody s_Play_go) (defScope s_Play_go) .none .none .none (.str "onceroad.plays" 553) none (.ref 335) .none), #[]⟩ : Obj)) ::
  (nat_lit 356, (⟨(.type "code"), none, .fields #[(.str "twin" 613), (.str "Play.twin" 614), (.str "/claim/cut.py" 615), (.int 128 0), (.int 1 0), (.int 0 0), (.int 0 0), (.int 3 0), (.ref 351), (.bool true), (.int 181 0), (.ref 352), .none, (.ref 353), (.ref 354), (.ref 355), (.int 617 0), (.int 128 0), (.str "/claim/cut.py" 618)], #[]⟩ : Obj)) ::
  (nat_lit 357, (⟨(.type "function"), none, .func (fnOf "twin" "Play.twin" (defArgs s_Play_twin) (defBody s_Play_twin) (defScope s_Play_twin) .none .none .none (.str "onceroad.plays" 553) none (.ref 356) .none), #[]⟩ : Obj)) ::
  (nat_lit 359, (⟨(.type "dict"), none, .dict #[en P "__module__" 566 (.str "onceroad.plays" 553), en P "__firstlineno__" 570 (.int 108 569), en P "left" 577 (.ref 317), en P "moves" 584 (.ref 324), en P "not_gone" 590 (.ref 329), en P "go" 598 (.ref 336), en P "web_left" 605 (.ref 343), en P "position" 612 (.ref 350), en P "twin" 619 (.ref 357), en P "__static_attributes__" 620 (.ref 358), en P "__doc__" 621 .none] 2, #[]⟩ : Obj)) ::
  (nat_lit 360, (⟨(.type "type"), none, .cls { name := "Play", bases := [(.ref 292)], mro := [(.ref 360), (.ref 292), (.type "object")], ns := 359, qualname := "Play", hasDict := true, slotNames := [], subclasses := [], abstract := false, collection := none, hasDel := false }, #[(some (.ref 304)), none, (some (.str "Play" 559)), (some (.str "Play" 567)), (some (.builtin "object.__new__")), (some (.bool true))]⟩ : Obj)) ::
  (nat_lit 368, (⟨(.type "code"), none, .fields #[(.str "played" 624), (.str "played" 625), (.str "/claim/cut.py" 626), (.int 130 0), (.int 2 0), (.int 0 0), (.int 0 0), (.int 3 0), (.ref 363), (.bool true), (.int 181 0), (.ref 364), .none, (.ref 365), (.ref 366), (.ref 367), (.int 631 0), (.int 130 0), (.str "/claim/cut.py" 632)], #[]⟩ : Obj)) ::
  (nat_lit 369, (⟨(.type "function"), none, .func (fnOf "played" "played" (defArgs s_played) (defBody s_played) (defScope s_played) .none .none .none (.str "onceroad.plays" 553) none (.ref 368) .none), #[]⟩ : Obj)) ::
  (nat_lit 375, (⟨(.type "code"), none, .fields #[(.str "rows_within" 634), (.str "rows_within" 635), (.str "/claim/cut.py" 636), (.int 137 0), (.int 2 0), (.int 0 0), (.int 0 0), (.int 3 0), (.ref 370), (.bool true), (.int 181 0), (.ref 371), .none, (.ref 372), (.ref 373), (.ref 374), (.int 639 0), (.int 137 0), (.str "/claim/cut.py" 640)], #[]⟩ : Obj)) ::
  (nat_lit 376, (⟨(.type "function"), none, .func (fnOf "rows_within" "rows_within" (defArgs s_rows_within) (defBody s_rows_within) (defScope s_rows_within) .none .none .none (.str "onceroad.plays" 553) none (.ref 375) .none), #[]⟩ : Obj)) ::
  (nat_lit 380, (⟨(.type "code"), none, .fields #[(.str "rows_from" 642), (.str "rows_from" 643), (.str "/claim/cut.py" 644), (.int 141 0), (.int 2 0), (.int 0 0), (.int 0 0), (.int 3 0), (.ref 377), (.bool true), (.int 181 0), (.ref 378), .none, .none, .none, (.ref 379), (.int 645 0), (.int 141 0), (.str "/claim/cut.py" 646)], #[]⟩ : Obj)) ::
  (nat_lit 381, (⟨(.type "function"), none, .func (fnOf "rows_from" "rows_from" (defArgs s_rows_from) (defBody s_rows_from) (defScope s_rows_from) .none .none .none (.str "onceroad.plays" 553) none (.ref 380) .none), #[]⟩ : Obj)) ::
  (nat_lit 387, (⟨(.type "code"), none, .fields #[(.str "all_within" 648), (.str "all_within" 649), (.str "/claim/cut.py" 650), (.int 149 0), (.int 2 0), (.int 0 0), (.int 0 0), (.int 3 0), (.ref 382), (.bool true), (.int 181 0), (.ref 383), .none, (.ref 384), (.ref 385), (.ref 386), (.int 653 0), (.int 149 0), (.str "/claim/cut.py" 654)], #[]⟩ : Obj)) ::
  (nat_lit 388, (⟨(.type "function"), none, .func (fnOf "all_within" "all_within" (defArgs s_all_within) (defBody s_all_within) (defScope s_all_within) .none .none .none (.str "onceroad.plays" 553) none (.ref 387) .none), #[]⟩ : Obj)) ::
  (nat_lit 401, (⟨(.type "code"), none, .fields #[(.str "__init__" 674), (.str "Web.__init__" 675), (.str "/claim/cut.py" 676), (.int 158 0), (.int 3 0), (.int 0 0), (.int 0 0), (.int 3 0), (.ref 396), (.bool true), (.int 181 0), (.ref 397), .none, (.ref 398), (.ref 399), (.ref 400), (.int 680 0), (.int 158 0), (.str "/claim/cut.py" 681)], #[]⟩ : Obj)) ::
  (nat_lit 402, (⟨(.type "function"), none, .func (fnOf "__init__" "Web.__init__" (defArgs s_Web_init) (defBody s_Web_init) (defScope s_Web_init) .none .none .none (.str "onceroad.webs" 656) none (.ref 401) .none), #[]⟩ : Obj)) ::
  (nat_lit 408, (⟨(.type "code"), none, .fields #[(.str "places" 683), (.str "Web.places" 684), (.str "/claim/cut.py" 685), (.int 163 0), (.int 1 0), (.int 0 0), (.int 0 0), (.int 3 0), (.ref 403), (.bool true), (.int 181 0), (.ref 404), .none, (.ref 405), (.ref 406), (.ref 407), (.int 687 0), (.int 163 0), (.str "/claim/cut.py" 688)], #[]⟩ : Obj)) ::
  (nat_lit 409, (⟨(.type "function"), none, .func (fnOf "places" "Web.places" (defArgs s_Web_places) (defBody s_Web_places) (defScope s_Web_places) .none .none .none (.str "onceroad.webs" 656) none (.ref 408) .none), #[]⟩ : Obj)) ::
  (nat_lit 429, (⟨(.type "code"), none, .fields #[(.str "has_place" 707), (.str "Web.has_place" 708), (.str "/claim/cut.py" 709), (.int 177 0), (.int 2 0), (.int 0 0), (.int 0 0), (.int 3 0), (.ref 424), (.bool true), (.int 181 0), (.ref 425), .none, (.ref 426), (.ref 427), (.ref 428), (.int 712 0), (.int 177 0), (.str "/claim/cut.py" 713)], #[]⟩ : Obj)) ::
  (nat_lit 430, (⟨(.type "function"), none, .func (fnOf "has_place" "Web.has_place" (defArgs s_Web_has_place) (defBody s_Web_has_place) (defScope s_Web_has_place) .none .none .none (.str "onceroad.webs" 656) none (.ref 429) .none), #[]⟩ : Obj)) ::
  (nat_lit 443, (⟨(.type "code"), none, .fields #[(.str "number_of" 723), (.str "Web.number_of" 724), (.str "/claim/cut.py" 725), (.int 183 0), (.int 2 0), (.int 0 0), (.int 0 0), (.int 3 0), (.ref 438), (.bool true), (.int 181 0), (.ref 439), .none, (.ref 440), (.ref 441), (.ref 442), (.int 728 0), (.int 183 0), (.str "/claim/cut.py" 729)], #[]⟩ : Obj)) ::
  (nat_lit 444, (⟨(.type "function"), none, .func (fnOf "number_of" "Web.number_of" (defArgs s_Web_number_of) (defBody s_Web_number_of) (defScope s_Web_number_of) .none .none .none (.str "onceroad.webs" 656) none (.ref 443) .none), #[]⟩ : Obj)) ::
  (nat_lit 450, (⟨(.type "code"), none, .fields #[(.str "beside" 731), (.str "Web.beside" 732), (.str "/claim/cut.py" 733), (.int 188 0), (.int 2 0), (.int 0 0), (.int 0 0), (.int 3 0), (.ref 445), (.bool true), (.int 181 0), (.ref 446), .none, (.ref 447), (.ref 448), (.ref 449), (.int 736 0), (.int 188 0), (.str "/claim/cut.py" 737)], #[]⟩ : Obj)) ::
  (nat_lit 451, (⟨(.type "function"), none, .func (fnOf "beside" "Web.beside" (defArgs s_Web_beside) (defBody s_Web_beside) (defScope s_Web_beside) .none .none .none (.str "onceroad.webs" 656) none (.ref 450) .none), #[]⟩ : Obj)) ::
  (nat_lit 457, (⟨(.type "code"), none, .fields #[(.str "bits_beside" 739), (.str "Web.bits_beside" 740), (.str "/claim/cut.py" 741), (.int 191 0), (.int 2 0), (.int 0 0), (.int 0 0), (.int 3 0), (.ref 452), (.bool true), (.int 181 0), (.ref 453), .none, (.ref 454), (.ref 455), (.ref 456), (.int 744 0), (.int 191 0), (.str "/claim/cut.py" 745)], #[]⟩ : Obj)) ::
  (nat_lit 458, (⟨(.type "function"), none, .func (fnOf "bits_beside" "Web.bits_beside" (defArgs s_Web_bits_beside) (defBody s_Web_bits_beside) (defScope s_Web_bits_beside) .none .none .none (.str "onceroad.webs" 656) none (.ref 457) .none), #[]⟩ : Obj)) ::
  (nat_lit 483, (⟨(.type "code"), none, .fields #[(.str "names_in" 770), (.str "Web.names_in" 771), (.str "/claim/cut.py" 772), (.int 203 0), (.int 2 0), (.int 0 0), (.int 0 0), (.int 3 0), (.ref 480), (.bool true), (.int 181 0), (.ref 481), .none, .none, .none, (.ref 482), (.int 773 0), (.int 203 0), (.str "/claim/cut.py" 774)], #[]⟩ : Obj)) ::
  (nat_lit 484, (⟨(.type "function"), none, .func (fnOf "names_in" "Web.names_in" (defArgs s_Web_names_in) (defBody s_Web_names_in) (defScope s_Web_names_in) .none .none .none (.str "onceroad.webs" 656) none (.ref 483) .none), #[]⟩ : Obj)) ::
  (nat_lit 514, (⟨(.type "dict"), none, .dict #[en P "__module__" 669 (.str "onceroad.webs" 656), en P "__firstlineno__" 673 (.int 156 672), en P "__init__" 682 (.ref 402), en P "places" 689 (.ref 409), en P "ties" 699 (.ref 416), en P "how_many" 706 (.ref 423), en P "has_place" 714 (.ref 430), en P "has_tie" 722 (.ref 437), en P "number_of" 730 (.ref 444), en P "beside" 738 (.ref 451), en P "bits_beside" 746 (.ref 458), en P "tied" 755 (.ref 465), en P "pieces" 762 (.ref 472), en P "told" 769 (.ref 479), en P "names_in" 775 (.ref 484), en P "without" 783 (.ref 491), en P "with_place" 791 (.ref 498), en P "with_tie" 800 (.ref 505), en P "without_tie" 809 (.ref 512), en P "__static_attributes__" 813 (.ref 513), en P "__dict__" 815 (.ref 516), en P "__weakref__" 817 (.ref 517), en P "__doc__" 818 .none] 4, #[]⟩ : Obj)) ::
  (nat_lit 515, (⟨(.type "type"), none, .cls { name := "Web", bases := [(.type "object")], mro := [(.ref 515), (.type "object")], ns := 514, qualname := "Web", hasDict := true, slotNames := [], subclasses := [], abstract := false, collection := none, hasDel := false }, #[none, none, (some (.str "Web" 662)), (some (.str "Web" 670)), (some (.builtin "object.__new__")), (some (.bool true))]⟩ : Obj)) ::
  (nat_lit 525, (⟨(.type "code"), none, .fields #[(.str "has_bit" 821), (.str "has_bit" 822), (.str "/claim/cut.py" 823), (.int 217 0), (.int 2 0), (.int 0 0), (.int 0 0), (.int 3 0), (.ref 520), (.bool true), (.int 181 0), (.ref 521), .none, (.ref 522), (.ref 523), (.ref 524), (.int 826 0), (.int 217 0), (.str "/claim/cut.py" 827)], #[]⟩ : Obj)) ::
  (nat_lit 526, (⟨(.type "function"), none, .func (fnOf "has_bit" "has_bit" (defArgs s_has_bit) (defBody s_has_bit) (defScope s_has_bit) .none .none .none (.str "onceroad.webs" 656) none (.ref 525) .none), #[]⟩ : Obj)) ::
  (nat_lit 532, (⟨(.type "code"), none, .fields #[(.str "is_place" 829), (.str "is_place" 830), (.str "/claim/cut.py" 831), (.int 219 0), (.int 2 0), (.int 0 0), (.int 0 0), (.int 3 0), (.ref 527), (.bool true), (.int 181 0), (.ref 528), .none, (.ref 529), (.ref 530), (.ref 531), (.int 834 0), (.int 219 0), (.str "/claim/cut.py" 835)], #[]⟩ : Obj)) ::
  (nat_lit 533, (⟨(.type "function"), none, .func (fnOf "is_place" "is_place" (defArgs s_is_place) (defBody s_is_place) (defScope s_is_place) .none .none .none (.str "onceroad.webs" 656) none (.ref 532) .none), #[]⟩ : Obj)) ::
  (nat_lit 539, (⟨(.type "code"), none, .fields #[(.str "are_two_places" 837), (.str "are_two_places" 838), (.str "/claim/cut.py" 839), (.int 221 0), (.int 2 0), (.int 0 0), (.int 0 0), (.int 3 0), (.ref 534), (.bool true), (.int 181 0), (.ref 535), .none, (.ref 536), (.ref 537), (.ref 538), (.int 843 0), (.int 221 0), (.str "/claim/cut.py" 844)], #[]⟩ : Obj)) ::
  (nat_lit 540, (⟨(.type "function"), none, .func (fnOf "are_two_places" "are_two_places" (defArgs s_are_two_places) (defBody s_are_two_places) (defScope s_are_two_places) .none .none .none (.str "onceroad.webs" 656) none (.ref 539) .none), #[]⟩ : Obj)) ::
  (nat_lit 546, (⟨(.type "code"), none, .fields #[(.str "numbers_of" 846), (.str "numbers_of" 847), (.str "/claim/cut.py" 848), (.int 226 0), (.int 1 0), (.int 0 0), (.int 0 0), (.int 3 0), (.ref 541), (.bool true), (.int 181 0), (.ref 542), .none, (.ref 543), (.ref 544), (.ref 545), (.int 852 0), (.int 226 0), (.str "/claim/cut.py" 853)], #[]⟩ : Obj)) ::
  (nat_lit 547, (⟨(.type "function"), none, .func (fnOf "numbers_of" "numbers_of" (defArgs s_numbers_of) (defBody s_numbers_of) (defScope s_numbers_of) .none .none .none (.str "onceroad.webs" 656) none (.ref 546) .none), #[]⟩ : Obj)) ::
  (nat_lit 553, (⟨(.type "code"), none, .fields #[(.str "near_of" 855), (.str "near_of" 856), (.str "/claim/cut.py" 857), (.int 239 0), (.int 2 0), (.int 0 0), (.int 0 0), (.int 3 0), (.ref 548), (.bool true), (.int 181 0), (.ref 549), .none, (.ref 550), (.ref 551), (.ref 552), (.int 864 0), (.int 239 0), (.str "/claim/cut.py" 865)], #[]⟩ : Obj)) ::
  (nat_lit 554, (⟨(.type "function"), none, .func (fnOf "near_of" "near_of" (defArgs s_near_of) (defBody s_near_of) (defScope s_near_of) .none .none .none (.str "onceroad.webs" 656) none (.ref 553) .none), #[]⟩ : Obj)) ::
  (nat_lit 560, (⟨(.type "code"), none, .fields #[(.str "_law_cell" 869), (.str "_law_cell" 870), (.str "/claim/cut.py" 871), (.int 256 0), (.int 2 0), (.int 0 0), (.int 0 0), (.int 3 0), (.ref 555), (.bool true), (.int 181 0), (.ref 556), .none, (.ref 557), (.ref 558), (.ref 559), (.int 874 0), (.int 256 0), (.str "/claim/cut.py" 875)], #[]⟩ : Obj)) ::
  (nat_lit 561, (⟨(.type "function"), none, .func (fnOf "_law_cell" "_law_cell" (defArgs s_l_cell) (defBody s_l_cell) (defScope s_l_cell) .none .none .none (.str "law_onceroad_k13_rows_of_moves" 867) none (.ref 560) .none), #[]⟩ : Obj)) ::
  (nat_lit 567, (⟨(.type "code"), none, .fields #[(.str "_law_numbers" 877), (.str "_law_numbers" 878), (.str "/claim/cut.py" 879), (.int 260 0), (.int 3 0), (.int 0 0), (.int 0 0), (.int 3 0), (.ref 562), (.bool true), (.int 181 0), (.ref 563), .none, (.ref 564), (.ref 565), (.ref 566), (.int 887 0), (.int 260 0), (.str "/claim/cut.py" 888)], #[]⟩ : Obj)) ::
  (nat_lit 568, (⟨(.type "function"), none, .func (fnOf "_law_numbers" "_law_numbers" (defArgs s_l_numbers) (defBody s_l_numbers) (defScope s_l_numbers) .none .none .none (.str "law_onceroad_k13_rows_of_moves" 867) none (.ref 567) .none), #[]⟩ : Obj)) ::
  (nat_lit 572, (⟨(.type "code"), none, .fields #[(.str "_law_names" 890), (.str "_law_names" 891), (.str "/claim/cut.py" 892), (.int 272 0), (.int 1 0), (.int 0 0), (.int 0 0), (.int 3 0), (.ref 569), (.bool true), (.int 181 0), (.ref 570), .none, .none, .none, (.ref 571), (.int 893 0), (.int 272 0), (.str "/claim/cut.py" 894)], #[]⟩ : Obj)) ::
  (nat_lit 573, (⟨(.type "function"), none, .func (fnOf "_law_names" "_law_names" (defArgs s_l_names) (defBody s_l_names) (defScope s_l_names) .none .none .none (.str "law_onceroad_k13_rows_of_moves" 867) none (.ref 572) .none), #[]⟩ : Obj)) ::
  (nat_lit 577, (⟨(.type "code"), none, .fields #[(.str "_law_ties" 896), (.str "_law_ties" 897), (.str "/claim/cut.py" 898), (.int 280 0), (.int 2 0), (.int 0 0), (.int 0 0), (.int 3 0), (.ref 574), (.bool true), (.int 181 0), (.ref 575), .none, .none, .none, (.ref 576), (.int 899 0), (.int 280 0), (.str "/claim/cut.py" 900)], #[]⟩ : Obj)) ::
  (nat_lit 578, (⟨(.type "function"), none, .func (fnOf "_law_ties" "_law_ties" (defArgs s_l_ties) (defBody s_l_ties) (defScope s_l_ties) .none .none .none (.str "law_onceroad_k13_rows_of_moves" 867) none (.ref 577) .none), #[]⟩ : Obj)) ::
  (nat_lit 584, (⟨(.type "code"), none, .fields #[(.str "_law_tied" 902), (.str "_law_tied" 903), (.str "/claim/cut.py" 904), (.int 292 0), (.int 3 0), (.int 0 0), (.int 0 0), (.int 3 0), (.ref 579), (.bool true), (.int 181 0), (.ref 580), .none, (.ref 581), (.ref 582), (.ref 583), (.int 908 0), (.int 292 0), (.str "/claim/cut.py" 909)], #[]⟩ : Obj)) ::
  (nat_lit 585, (⟨(.type "function"), none, .func (fnOf "_law_tied" "_law_tied" (defArgs s_l_tied) (defBody s_l_tied) (defScope s_l_tied) .none .none .none (.str "law_onceroad_k13_rows_of_moves" 867) none (.ref 584) .none), #[]⟩ : Obj)) ::
  (nat_lit 589, (⟨(.type "code"), none, .fields #[(.str "_law_moves" 911), (.str "_law_moves" 912), (.str "/claim/cut.py" 913), (.int 294 0), (.int 3 0), (.int 0 0), (.int 0 0), (.int 3 0), (.ref 586), (.bool true), (.int 181 0), (.ref 587), .none, .none, .none, (.ref 588), (.int 914 0), (.int 294 0), (.str "/claim/cut.py" 915)], #[]⟩ : Obj)) ::
  (nat_lit 590, (⟨(.type "function"), none, .func (fnOf "_law_moves" "_law_moves" (defArgs s_l_moves) (defBody s_l_moves) (defScope s_l_moves) .none .none .none (.str "law_onceroad_k13_rows_of_moves" 867) none (.ref 589) .none), #[]⟩ : Obj)) ::
  (nat_lit 594, (⟨(.type "code"), none, .fields #[(.str "_law_rows" 917), (.str "_law_rows" 918), (.str "/claim/cut.py" 919), (.int 296 0), (.int 4 0), (.int 0 0), (.int 0 0), (.int 3 0), (.ref 591), (.bool true), (.int 181 0), (.ref 592), .none, .none, .none, (.ref 593), (.int 920 0), (.int 296 0), (.str "/claim/cut.py" 921)], #[]⟩ : Obj)) ::
  (nat_lit 595, (⟨(.type "function"), none, .func (fnOf "_law_rows" "_law_rows" (defArgs s_l_rows) (defBody s_l_rows) (defScope s_l_rows) .none .none .none (.str "law_onceroad_k13_rows_of_moves" 867) none (.ref 594) .none), #[]⟩ : Obj)) ::
  (nat_lit 601, (⟨(.type "code"), none, .fields #[(.str "_law_count" 923), (.str "_law_count" 924), (.str "/claim/cut.py" 925), (.int 302 0), (.int 3 0), (.int 0 0), (.int 0 0), (.int 3 0), (.ref 596), (.bool true), (.int 181 0), (.ref 597), .none, (.ref 598), (.ref 599), (.ref 600), (.int 931 0), (.int 302 0), (.str "/claim/cut.py" 932)], #[]⟩ : Obj)) ::
  (nat_lit 602, (⟨(.type "function"), none, .func (fnOf "_law_count" "_law_count" (defArgs s_l_count) (defBody s_l_count) (defScope s_l_count) .none .none .none (.str "law_onceroad_k13_rows_of_moves" 867) none (.ref 601) .none), #[]⟩ : Obj)) ::
  (nat_lit 608, (⟨(.type "code"), none, .fields #[(.str "_law_whole" 934), (.str "_law_whole" 935), (.str "/claim/cut.py" 936), (.int 310 0), (.int 1 0), (.int 0 0), (.int 0 0), (.int 3 0), (.ref 603), (.bool true), (.int 181 0), (.ref 604), .none, (.ref 605), (.ref 606), (.ref 607), (.int 938 0), (.int 310 0), (.str "/claim/cut.py" 939)], #[]⟩ : Obj)) ::
  (nat_lit 609, (⟨(.type "function"), none, .func (fnOf "_law_whole" "_law_whole" (defArgs s_l_whole) (defBody s_l_whole) (defScope s_l_whole) .none .none .none (.str "law_onceroad_k13_rows_of_moves" 867) none (.ref 608) .none), #[]⟩ : Obj)) ::
  (nat_lit 615, (⟨(.type "code"), none, .fields #[(.str "_law_refused" 941), (.str "_law_refused" 942), (.str "/claim/cut.py" 943), (.int 312 0), (.int 3 0), (.int 0 0), (.int 0 0), (.int 3 0), (.ref 610), (.bool true), (.int 181 0), (.ref 611), .none, (.ref 612), (.ref 613), (.ref 614), (.int 948 0), (.int 312 0), (.str "/claim/cut.py" 949)], #[]⟩ : Obj)) ::
  (nat_lit 616, (⟨(.type "function"), none, .func (fnOf "_law_refused" "_law_refused" (defArgs s_l_refused) (defBody s_l_refused) (defScope s_l_refused) .none .none .none (.str "law_onceroad_k13_rows_of_moves" 867) none (.ref 615) .none), #[]⟩ : Obj)) ::
  (nat_lit 622, (⟨(.type "code"), none, .fields #[(.str "_law_rows_right" 951), (.str "_law_rows_right" 952), (.str "/claim/cut.py" 953), (.int 322 0), (.int 5 0), (.int 0 0), (.int 0 0), (.int 3 0), (.ref 617), (.bool true), (.int 181 0), (.ref 618), .none, (.ref 619), (.ref 620), (.ref 621), (.int 961 0), (.int 322 0), (.str "/claim/cut.py" 962)], #[]⟩ : Obj)) ::
  (nat_lit 623, (⟨(.type "function"), none, .func (fnOf "_law_rows_right" "_law_rows_right" (defArgs s_l_rows_right) (defBody s_l_rows_right) (defScope s_l_rows_right) .none .none .none (.str "law_onceroad_k13_rows_of_moves" 867) none (.ref 622) .none), #[]⟩ : Obj)) ::
  (nat_lit 629, (⟨(.type "code"), none, .fields #[(.str "law" 964), (.str "law" 965), (.str "/claim/cut.py" 966), (.int 330 0), (.int 1 0), (.int 0 0), (.int 0 0), (.int 3 0), (.ref 624), (.bool true), (.int 181 0), (.ref 625), .none, (.ref 626), (.ref 627), (.ref 628), (.int 982 0), (.int 330 0), (.str "/claim/cut.py" 983)], #[]⟩ : Obj)) ::
  (nat_lit 630, (⟨(.type "function"), none, .func (fnOf "law" "law" (defArgs s_law) (defBody s_law) (defScope s_law) .none .none .none (.str "law_onceroad_k13_rows_of_moves" 867) none (.ref 629) .none), #[]⟩ : Obj)) ::
  []
def ks : List Addr := [2, 3, 34, 35, 37, 38, 54, 55, 57, 58, 73, 74, 76, 77, 92, 93, 95, 96, 111, 112, 114, 115, 130, 131, 133, 134, 187, 188, 190, 191, 199, 200, 206, 207, 211, 212, 225, 226, 239, 240, 246, 247, 281, 282, 288, 289, 291, 292, 302, 303, 323, 324, 328, 329, 335, 336, 356, 357, 359, 360, 368, 369, 375, 376, 380, 381, 387, 388, 401, 402, 408, 409, 429, 430, 443, 444, 450, 451, 457, 458, 483, 484, 514, 515, 525, 526, 532, 533, 539, 540, 546, 547, 553, 554, 560, 561, 567, 568, 572, 573, 577, 578, 584, 585, 589, 590, 594, 595, 601, 602, 608, 609, 615, 616, 622, 623, 629, 630]
theorem ks_eq : ∀ P, ks = (Kf P).map (·.1) := fun P => by kernel_rfl
noncomputable abbrev Hk : Hook := kHook Kf ks ks_eq
noncomputable abbrev Xt (s : Shared) : Bool := xlAt Q [] s && recOk [] s
noncomputable def runAt (w : World) (os : OsState) := Hd.lookT PySem.Challenge.pw_onceroad_k13_rows_of_moves Q Xt (fun s => ks.map s.heap.get?) NN w os
noncomputable def goodAt (w : World) (_ : OsState) := some (openGood Q [], (Kf w.params).map fun p => some p.2)
def tag {α : Type} (f g : World → OsState → α) : Bool := true
theorem tag1 : tag runAt goodAt = true := by k_qdec
theorem hl1 (w : World) (os : OsState) : runAt w os = goodAt w os := by
  rw [PySem.W.Fast.te10636410299771871672, PySem.W.Fast.te4170716365998629436]
  kernel_rfl
theorem hl : LeftO PySem.Challenge.pw_onceroad_k13_rows_of_moves Q [] Xt (Hook.obs Hk) (Hook.val Hk) NN := Hd.left_of (by kernel_rfl) (by decide) (fun s => by kernel_rfl) fun w os => hl1 w os
end K13
set_option maxRecDepth 100000 in
set_option maxHeartbeats 0 in
theorem PySem.Challenge.cw_onceroad_k13_rows_of_moves_holds : PySem.Challenge.rw_onceroad_k13_rows_of_moves.Holds := by
  w_on; o_law
  refine PySem.W.holds_open (q := K13.Q) (loose := []) (Xt := K13.Xt) (XP := PySem.W.XL K13.Q []) (Yf := PySem.W.Hook.obs K13.Hk) (Ya := PySem.W.Hook.val K13.Hk) (YP := PySem.W.Hook.says (PySem.W.kHook K13.Kf K13.ks K13.ks_eq)) (N := K13.NN) K13.hl (PySem.W.Hook.of K13.Hk) (PySem.W.Hook.keeps K13.Hk) (fun s e => PySem.W.xl_of s (Bool.and_eq_true_iff.mp e).1) PySem.W.XL.keeps (by rfl) (by rfl) (by rfl) (fun s e => PySem.W.recFacts_of (Bool.and_eq_true_iff.mp e).2) (by rfl) (by first | assumption | decide +kernel) (by decide +kernel) ⟨rfl, rfl, rfl, rfl, rfl, by decide +kernel⟩ ?hw ?hc
  (case hw => w_witness2)
  k_fill
  refine K13.walk (l := PySem.Challenge.rw_onceroad_k13_rows_of_moves) rfl rfl (fun w h Y => PySem.W.kIn_of Y) ?F
  case F =>
    intro w mg fa h KX G hmg
    refine' K13.all_mk KX G hmg ?_ ?_ ?_ ?_ ?_ ?_ ?_ ?_ ?_ ?_ ?_ ?_ ?_ ?_ ?_ ?_ ?_ ?_ ?_ ?_ ?_ ?_ ?_ ?_ ?_ ?_ ?_ ?_ ?_ ?_ ?_ ?_ ?_ ?_ ?_ ?_ ?_ ?_ ?_ ?_ ?_ ?_ ?_ ?_ ?_ ?_ ?_ ?_ ?_ ?_ ?_ ?_ ?_ ?_ ?_ ?_ ?_ ?_ ?_ ?_ ?_ ?_ ?_ ?_ ?_ ?_ ?_ ?_ ?_ ?_ ?_ ?_ ?_ ?_ ?_ ?_ ?_ ?_ ?_ ?_ ?_ ?_ ?_ ?_ ?_ ?_ ?_ ?_ ?_ ?_ ?_ ?_ ?_ ?_ ?_ ?_ ?_ ?_ ?_ ?_ ?_ ?_ ?_ ?_ ?_ ?_ ?_ ?_ ?_ ?_ ?_ ?_ ?_ ?_ ?_ ?_ ?_ ?_ ?_ ?_ ?_ ?_ ?_ ?_ ?_ ?_ ?_
    any_goals first | k_is | decide
    any_goals first | k_is | decide | exact ⟨_, _, by k_is, L2.fun_mk (by k_is) (by k_is) (by k_is)⟩ | exact ⟨_, _, by k_is, by k_is, L2.fun_mk (by k_is) (by k_is) (by k_is)⟩ | exact ⟨_, _, _, _, _, _, _, _, _, _, _, _, _, _, _, by k_is⟩ | exact ⟨by k_is, by k_is, by k_is, by k_is, by k_is, by k_is, by k_is, by k_is⟩ | fail
