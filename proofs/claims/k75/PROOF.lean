import PyProof.Rows.All
import Wide.All
import OpenK.AllK
import Wide.FinOn
import PyProof.EqAt
import PyProof.EqKinds
import PyProof.TupleCall
import Lean
import PySem.Challenge.RW_onceroad_k75_names_ties_and_lines
set_option Elab.async false
set_option linter.all false
set_option maxRecDepth 100000
namespace L2
open PySem PySem.Spec PyProof.Rows
abbrev Key := Sum Int Str
def keyIs : Key → Value → Bool
  | .inl k, v => Value.isInt k v
  | .inr x, v => Value.isStrOf x v
def keyH (w : World) : Key → Int
  | .inl k => hashInt k
  | .inr x => hashStr w x
theorem keyIs_shape : ∀ {k : Key} {v : Value}, keyIs k v = true → (∃ i t, k = Sum.inl i ∧ v = Value.int i t) ∨ (∃ x t, k = Sum.inr x ∧ v = Value.str x t)
  | .inl i, v, h => by
    obtain ⟨t, e⟩ := Value.isInt_shape (k := i) (v := v) h
    exact .inl ⟨i, t, rfl, e⟩
  | .inr x, v, h => by
    obtain ⟨t, e⟩ := Value.isStrOf_shape (x := x) (v := v) h
    exact .inr ⟨x, t, rfl, e⟩
theorem keyIs_int (i : Int) (t : Tok) : keyIs (.inl i) (.int i t) = true := by simp [keyIs, Value.isInt]
theorem keyIs_str (x : Str) (t : Tok) : keyIs (.inr x) (.str x t) = true := by simp [keyIs, Value.isStrOf]
theorem key_ll (a b : Int) : decide ((Sum.inl a : Key) = Sum.inl b) = (a == b) := by
  by_cases e : a = b
  · subst e; simp
  · have h : ¬ (Sum.inl a : Key) = Sum.inl b := fun q => e (Sum.inl.inj q)
    rw [decide_eq_false h]
    exact (beq_eq_false_iff_ne.mpr e).symm
theorem key_rr (a b : Str) : decide ((Sum.inr a : Key) = Sum.inr b) = decide (a = b) := by
  by_cases e : a = b
  · subst e; simp
  · have h : ¬ (Sum.inr a : Key) = Sum.inr b := fun q => e (Sum.inr.inj q)
    rw [decide_eq_false h, decide_eq_false e]
theorem key_lr (a : Int) (b : Str) : decide ((Sum.inl a : Key) = Sum.inr b) = false := decide_eq_false (fun q => nomatch q)
theorem key_rl (a : Str) (b : Int) : decide ((Sum.inr a : Key) = Sum.inl b) = false := decide_eq_false (fun q => nomatch q)
def mixKind (prog : Program) (w : World) : PySem.KeyKind prog w Key where
  is := keyIs
  hash := keyH w
  inj := fun v a b ha hb => by
    rcases keyIs_shape ha with ⟨i, t, rfl, rfl⟩ | ⟨x, t, rfl, rfl⟩
    · rcases keyIs_shape hb with ⟨j, u, rfl, e⟩ | ⟨y, u, rfl, e⟩
      · injection e with e1 _; rw [e1]
      · exact nomatch e
    · rcases keyIs_shape hb with ⟨j, u, rfl, e⟩ | ⟨y, u, rfl, e⟩
      · exact nomatch e
      · injection e with e1 _; rw [e1]
  byValue := fun k v h => by
    rcases keyIs_shape h with ⟨i, t, rfl, rfl⟩ | ⟨x, t, rfl, rfl⟩ <;> rfl
  pyHash := fun hv h => by
    rcases keyIs_shape hv with ⟨i, t, rfl, rfl⟩ | ⟨x, t, rfl, rfl⟩
    · exact wpAny_pyHash_int h
    · exact wpAny_pyHash_str h
  eqBool := fun hu hv h => by
    rcases keyIs_shape hu with ⟨i, t, rfl, rfl⟩ | ⟨x, t, rfl, rfl⟩
    · rcases keyIs_shape hv with ⟨j, u, rfl, rfl⟩ | ⟨y, u, rfl, rfl⟩
      · rw [key_ll] at h; exact wpAny_eqBool_int h
      · rw [key_lr] at h; exact SeqAt.EqAt.int_str i t y u _ _ _ _ h
    · rcases keyIs_shape hv with ⟨j, u, rfl, rfl⟩ | ⟨y, u, rfl, rfl⟩
      · rw [key_rl] at h; exact SeqAt.EqAt.str_int x t j u _ _ _ _ h
      · rw [key_rr] at h; exact wpAny_eqBool_str h
  «strs» := fun k x t v h => by
    rcases keyIs_shape h with ⟨i, u, rfl, e⟩ | ⟨y, u, rfl, e⟩
    · exact nomatch e
    · injection e with e1 _
      subst e1
      cases v <;> rfl
theorem mixKind_int (prog : Program) (w : World) (i : Int) (t : Tok) : (mixKind prog w).is (.inl i) (.int i t) = true := keyIs_int i t
theorem mixKind_str (prog : Program) (w : World) (x : Str) (t : Tok) : (mixKind prog w).is (.inr x) (.str x t) = true := keyIs_str x t
end L2
namespace L2
open PySem PySem.Spec PyProof.Rows
inductive V where
  | non | bl (b : Bool) | int (i : Int) | str (x : Str) | byt (b : Array UInt8) | flt (b : UInt64) | ref (a : Addr) | ty (n : String)
  deriving DecidableEq
def RelV : V → Value → Prop
  | .non, u => u = Value.none
  | .bl b, u => u = Value.bool b
  | .int i, u => ∃ t, u = Value.int i t
  | .str x, u => ∃ t, u = Value.str x t
  | .byt b, u => ∃ t, u = Value.bytes b t
  | .flt b, u => ∃ t, u = Value.float b t
  | .ref a, u => u = Value.ref a
  | .ty n, u => u = Value.type n
abbrev Vals : List V → List Value → Prop := Paired RelV
theorem Vals.length {xs : List V} {us : List Value} (r : Vals xs us) : xs.length = us.length := Paired.length r
theorem Vals.get : ∀ {xs : List V} {us : List Value} {i : Nat} {x : V}, Vals xs us → xs[i]? = some x → ∃ u, us[i]? = some u ∧ RelV x u
  | _, _, _, _, .nil, e => by simp at e
  | _, _, 0, _, .cons r _, e => by simp at e; subst e; exact ⟨_, rfl, r⟩
  | _, _, i + 1, x, .cons _ t, e => by
    obtain ⟨u, h1, h2⟩ := Vals.get (i := i) (x := x) t (by simpa using e)
    exact ⟨u, by simpa using h1, h2⟩
theorem Vals.set {x : V} {u : Value} (r : RelV x u) : ∀ {xs : List V} {us : List Value} (i : Nat), Vals xs us → Vals (xs.set i x) (us.set i u)
  | _, _, _, .nil => .nil
  | _, _, 0, .cons _ t => .cons r t
  | _, _, i + 1, .cons q t => .cons q (Vals.set r i t)
theorem Vals.append : ∀ {xs ys : List V} {us ws : List Value}, Vals xs us → Vals ys ws → Vals (xs ++ ys) (us ++ ws)
  | _, _, _, _, .nil, s => s
  | _, _, _, _, .cons r t, s => .cons r (Vals.append t s)
theorem Vals.take : ∀ {xs : List V} {us : List Value} (n : Nat), Vals xs us → Vals (xs.take n) (us.take n)
  | _, _, 0, _ => .nil
  | _, _, _ + 1, .nil => .nil
  | _, _, n + 1, .cons r t => .cons r (Vals.take n t)
theorem Vals.drop : ∀ {xs : List V} {us : List Value} (n : Nat), Vals xs us → Vals (xs.drop n) (us.drop n)
  | _, _, 0, r => r
  | _, _, _ + 1, .nil => .nil
  | _, _, n + 1, .cons _ t => Vals.drop n t
def RelO : Option V → Option Value → Prop
  | some v, some u => RelV v u
  | none, none => True
  | _, _ => False
def KV {κ : Type} : List (κ × V) → List (κ × Value) → Prop := Paired fun (p : κ × V) (q : κ × Value) => p.1 = q.1 ∧ RelV p.2 q.2
def kV : Key → V
  | .inl i => .int i
  | .inr x => .str x
inductive HO where
  /-- a list -/
  | lst (xs : List V)
  /-- a tuple (never changes) -/
  | tup (xs : List V)
  /-- a dict whose keys are ints and texts; one whose keys are tuples of ints and texts (the empty one is both) -/
  | dK (kvs : List (Key × V)) | dT (kvs : List (List Key × V))
  /-- a set of ints: its members, its size -/
  | set (S : Int → Bool) (n : Nat)
  /-- an instance of the class at C, its dict at dx, its attributes -/
  | ins (C dx : Addr) (fs : List (Str × V))
  /-- the dict of the instance at x -/
  | own (x : Addr)
  /-- the dict of an exception -/
  | xd (fs : List (Str × V))
  /-- a bound method, f of x -/
  | met (f x : Addr)
  /-- a range object lo, lo + 1, .. below hi -/
  | rng (lo hi : Int)
  /-- a thing that is known to the object (the script; a dict while a loop walks it): read, never written while it is so -/
  | frz (o : Obj) (u : HO)
  /-- a code object's table -/
  | tbl (ps : Array Value)
  /-- any other thing, by what is true of its one object (a def of one's own: SetO a S n := HO.ext fun h => ..) -/
  | ext (φ : Heap → Prop)
abbrev Hp := Addr → Option HO
def upd (H : Hp) (a : Addr) (o : HO) : Hp := fun b => if b = a then some o else H b
theorem upd_same {H : Hp} {a : Addr} {o : HO} : upd H a o a = some o := by unfold upd; rw [if_pos rfl]
theorem upd_ne {H : Hp} {a b : Addr} {o : HO} (h : b ≠ a) : upd H a o b = H b := by unfold upd; rw [if_neg h]
theorem ne_of {H : Hp} {a b : Addr} {o u : HO} (h : H a = some o) (h' : H b = some u) (d : o ≠ u) : a ≠ b := by
  intro e; subst e; rw [h] at h'; exact d (Option.some.inj h')
theorem ne_of_none {H : Hp} {a b : Addr} {o : HO} (h : H a = some o) (h' : H b = none) : a ≠ b := by
  intro e; subst e; rw [h] at h'; cases h'
section
variable (P : Program) (w : World)
def ObjOk (H : Hp) (h : Heap) (a : Addr) : HO → Prop
  | .lst xs => xs.length ≤ sizeLine ∧ ∃ (its : List Value) (n : Nat), Vals xs its ∧ h.get? a = some { cls := .type "list", data := .seq its.toArray n }
  | .tup xs => xs.length ≤ sizeLine ∧ ∃ its : List Value, Vals xs its ∧ IsTup h a its.toArray
  | .dK kvs => kvs.length ≤ sizeLine ∧ (a == sysModules) = false ∧ ∃ vs, KV kvs vs ∧ h.DictOf (mixKind P w) a vs
  | .dT kvs => kvs.length ≤ sizeLine ∧ (a == sysModules) = false ∧ ∃ xs : List (List Key × Addr × Value),
      Paired (fun (p : List Key × V) (q : List Key × Addr × Value) => p.1 = q.1 ∧ H q.2.1 = some (.tup (p.1.map kV)) ∧ RelV p.2 q.2.2) kvs xs ∧
      ∃ o es ep, h.get? a = some o ∧ o.ExactDict ∧ o.data = .dict es ep ∧ es.toList = xs.map (entryOfKey (tupleKind (mixKind P w))) ∧ (xs.map (·.1)).Nodup
  | .set S n => h.SetOf (intKind P w) a S n
  | .ins C dx fs => H dx = some (.own a) ∧ fs.length ≤ 1000 ∧ dx ≠ a ∧ h.get? a = some (PySem.W.instObj C dx) ∧
      ∃ mA, h.Ns1 dx mA ∧ (∀ f, RelO (fs.lookup f) (mA f)) ∧ PySem.Within mA (fs.map (·.1))
  | .own _ => ∃ o, h.get? a = some o
  | .xd fs => ∃ mA, h.Ns1 a mA ∧ ∀ f, RelO (fs.lookup f) (mA f)
  | .rng lo hi => ∃ t u v, h.get? a = some { cls := .type "range", data := .fields #[.int lo t, .int hi u, .int 1 v] }
  | .frz o u => h.get? a = some o ∧ ObjOk H h a u
  | .tbl ps => h.get? a = some { cls := .none, data := .fields ps }
  | .met f x => h.get? a = some (PySem.W.methodObj (.ref f) (.ref x))
  | .ext φ => φ h ∧ (∃ o, h.get? a = some o) ∧ ∀ h1 h2 : Heap, φ h1 → (∀ o, h1.get? a = some o → h2.get? a = some o) → φ h2
def HOk (H : Hp) (h : Heap) : Prop := ∀ a o, H a = some o → ObjOk P w H h a o
end
section
variable {P : Program} {w : World} {H H' : Hp} {h h' : Heap} {a : Addr} {o : HO}
theorem ObjOk.lt (x : ObjOk P w H h a o) : a < h.objs.size := by
  cases o with
  | lst xs => obtain ⟨_, _, _, _, e⟩ := x; exact Heap.lt_size e
  | tup xs => obtain ⟨_, _, _, p⟩ := x; exact p.lt
  | dK kvs => obtain ⟨_, _, _, _, o, _, _, e, _⟩ := x; exact Heap.lt_size e
  | dT kvs => obtain ⟨_, _, _, _, o, _, _, e, _⟩ := x; exact Heap.lt_size e
  | set S n => obtain ⟨o, _, _, _, e, _⟩ := x; exact Heap.lt_size e
  | ins C dx fs => obtain ⟨_, _, _, e, _⟩ := x; exact Heap.lt_size e
  | own y => obtain ⟨_, e⟩ := x; exact Heap.lt_size e
  | xd fs => obtain ⟨_, ⟨_, _, _, e, _⟩, _⟩ := x; exact Heap.lt_size e
  | rng lo hi => obtain ⟨_, _, _, e⟩ := x; exact Heap.lt_size e
  | frz ob u => obtain ⟨e, _⟩ := x; exact Heap.lt_size e
  | tbl ps => exact Heap.lt_size (show h.get? a = some _ from x)
  | met f y => exact Heap.lt_size (show h.get? a = some _ from x)
  | ext φ => obtain ⟨_, ⟨_, e⟩, _⟩ := x; exact Heap.lt_size e
theorem Paired.mapP {α β : Type} {F G : α → β → Prop} : ∀ {l₁ : List α} {l₂ : List β}, Paired F l₁ l₂ → (∀ a b, F a b → G a b) → Paired G l₁ l₂
  | _, _, .nil, _ => .nil
  | _, _, .cons r t, f => .cons (f _ _ r) (Paired.mapP t f)
theorem ObjOk.stay (x : ObjOk P w H h a o) (k : ∀ b u, (b = a ∨ H b = some (.own a)) → h.get? b = some u → h'.get? b = some u)
    (ho : ∀ b, H b = some (.own a) → H' b = some (.own a)) (ht : ∀ b xs, H b = some (.tup xs) → H' b = some (.tup xs)) : ObjOk P w H' h' a o := by
  induction o with
  | lst xs => obtain ⟨z, its, n, r, e⟩ := x; exact ⟨z, its, n, r, k _ _ (.inl rfl) e⟩
  | tup xs => obtain ⟨z, its, r, ob, e, c⟩ := x; exact ⟨z, its, r, ob, k _ _ (.inl rfl) e, c⟩
  | dK kvs => obtain ⟨z, y, vs, r, ob, es, ep, e, c⟩ := x; exact ⟨z, y, vs, r, ob, es, ep, k _ _ (.inl rfl) e, c⟩
  | dT kvs =>
    obtain ⟨z, y, xs, r, ob, es, ep, e, c⟩ := x
    exact ⟨z, y, xs, Paired.mapP r fun p q z => ⟨z.1, ht _ _ z.2.1, z.2.2⟩, ob, es, ep, k _ _ (.inl rfl) e, c⟩
  | set S n => obtain ⟨ob, es, ep, t, e, c⟩ := x; exact ⟨ob, es, ep, t, k _ _ (.inl rfl) e, c⟩
  | ins C dx fs =>
    obtain ⟨d, z, ne, e, mA, ⟨od, es, ep, e2, c⟩, r⟩ := x
    exact ⟨ho _ d, z, ne, k _ _ (.inl rfl) e, mA, ⟨od, es, ep, k _ _ (.inr d) e2, c⟩, r⟩
  | own y => obtain ⟨ob, e⟩ := x; exact ⟨ob, k _ _ (.inl rfl) e⟩
  | xd fs => obtain ⟨mA, ⟨od, es, ep, e, c⟩, r⟩ := x; exact ⟨mA, ⟨od, es, ep, k _ _ (.inl rfl) e, c⟩, r⟩
  | rng lo hi => obtain ⟨t, u, v, e⟩ := x; exact ⟨t, u, v, k _ _ (.inl rfl) e⟩
  | frz ob u ih => obtain ⟨e, q⟩ := x; exact ⟨k _ _ (.inl rfl) e, ih q⟩
  | tbl ps =>
    have e : h.get? a = some { cls := .none, data := .fields ps } := x
    show h'.get? a = some { cls := .none, data := .fields ps }
    exact k a _ (.inl rfl) e
  | met f y =>
    have e : h.get? a = some (PySem.W.methodObj (.ref f) (.ref y)) := x
    show h'.get? a = some (PySem.W.methodObj (.ref f) (.ref y))
    exact k a _ (.inl rfl) e
  | ext φ => obtain ⟨p, ⟨o, e⟩, st⟩ := x; exact ⟨st _ _ p fun o q => k _ _ (.inl rfl) q, ⟨o, k _ _ (.inl rfl) e⟩, st⟩
theorem HOk.lt (x : HOk P w H h) (e : H a = some o) : a < h.objs.size := (x a o e).lt
theorem HOk.fresh (x : HOk P w H h) (e : h.objs.size ≤ a) : H a = none := by
  cases q : H a with
  | none => rfl
  | some u => exact absurd (Nat.lt_of_lt_of_le (x.lt q) e) (Nat.lt_irrefl _)
theorem HOk.kept (x : HOk P w H h) (k : ∀ b u, h.get? b = some u → h'.get? b = some u) : HOk P w H h' := fun a o e =>
  (x a o e).stay (fun b u _ q => k b u q) (fun _ q => q) fun _ _ q => q
theorem HOk.laid (x : HOk P w H h) (k : ∀ b u, h.get? b = some u → h'.get? b = some u) (hp : h.objs.size ≤ a) (new : ObjOk P w (upd H a o) h' a o) : HOk P w (upd H a o) h' := fun b u e => by
  have hn := x.fresh hp
  by_cases hb : b = a
  · subst hb; rw [upd_same] at e; cases e; exact new
  · rw [upd_ne hb] at e
    exact (x b u e).stay (fun c v _ q => k c v q) (fun c q => by rw [upd_ne (ne_of_none q hn)]; exact q) fun c xs q => by rw [upd_ne (ne_of_none q hn)]; exact q
end
def Rd (H : Hp) (a : Addr) (u : HO) : Prop := H a = some u ∨ ∃ o, H a = some (.frz o u)
theorem Rd.ok {P : Program} {w : World} {H : Hp} {h : Heap} {a : Addr} {u : HO} (r : Rd H a u) (x : HOk P w H h) : ObjOk P w H h a u := by
  rcases r with r | ⟨o, r⟩
  · exact x a u r
  · obtain ⟨_, q⟩ := x a _ r
    exact q
def Mut : Option HO → Prop
  | some (.lst _) => True
  | some (.dK _) => True
  | some (.dT _) => True
  | some (.set _ _) => True
  | some (.ins _ _ _) => True
  | some (.ext _) => True
  | _ => False
section
variable {P : Program} {w : World} {H : Hp} {h h' : Heap} {x e : Addr} {o' : HO}
theorem HOk.write (ok : HOk P w H h) (mu : Mut (H x)) (he : e = x ∨ H e = some (.own x)) (k : ∀ b u, b ≠ e → h.get? b = some u → h'.get? b = some u) (heo : ∃ u, h'.get? e = some u)
    (new : ObjOk P w (upd H x o') h' x o') : HOk P w (upd H x o') h' := fun b u q => by
  have nown : ∀ c y, H c = some (.own y) → c ≠ x := fun c y r z => by subst z; rw [r] at mu; exact mu
  have ntup : ∀ c xs, H c = some (.tup xs) → c ≠ x := fun c xs r z => by subst z; rw [r] at mu; exact mu
  by_cases hb : b = x
  · subst hb; rw [upd_same] at q; cases q; exact new
  · rw [upd_ne hb] at q
    by_cases hbe : b = e
    · have q' : H b = some (.own x) := by
        rcases he with z | z
        · exact absurd (hbe.trans z) hb
        · rw [hbe]; exact z
      rw [q] at q'; cases q'
      obtain ⟨v, hv⟩ := heo
      exact ⟨v, by rw [hbe]; exact hv⟩
    · refine (ok b u q).stay (fun c v hc r => k c v ?_ r) (fun c r => by rw [upd_ne (nown c b r)]; exact r) fun c xs r => by rw [upd_ne (ntup c xs r)]; exact r
      rcases hc with rfl | hc
      · exact hbe
      · rintro rfl
        rcases he with z | z
        · exact nown c b hc z
        · rw [hc] at z; cases z; exact hb rfl
end
structure Un (fs ex : List Addr) (H H' : Hp) (h h' : Heap) : Prop where
  keep : ∀ b o, h.get? b = some o → H b = none → b ∉ fs → b ∉ ex → h'.get? b = some o
  slot : ∀ b o, h.get? b = some o → H b = none → b ∈ fs → b ∉ ex → ∃ sl, h'.get? b = some { o with slots := sl }
  free : ∀ b o, h.get? b = some o → H b = none → b ∉ ex → H' b = none
  there : ∀ b o, h.get? b = some o → b ∉ ex → ∃ o', h'.get? b = some o'
  tups : ∀ b xs, H b = some (.tup xs) → H' b = some (.tup xs)
  frzs : ∀ b o u, H b = some (.frz o u) → H' b = some (.frz o u)
  tbls : ∀ b ps, H b = some (.tbl ps) → ∃ more, H' b = some (.tbl (ps ++ more))
section
variable {fs fs' ex ex' : List Addr} {H H1 H2 : Hp} {h h1 h2 h' : Heap} {a x e : Addr} {o : HO}
theorem Un.any (u : Un fs ex H H1 h h1) {b : Addr} {ob : Obj} (q : h.get? b = some ob) (n : H b = none) (hx : b ∉ ex) : ∃ sl, h1.get? b = some { ob with slots := sl } := by
  by_cases hb : b ∈ fs
  · exact u.slot b ob q n hb hx
  · exact ⟨ob.slots, u.keep b ob q n hb hx⟩
theorem Un.kept (k : ∀ b u, h.get? b = some u → h'.get? b = some u) : Un fs ex H H h h' :=
  ⟨fun b ob q _ _ _ => k b ob q, fun b ob q _ _ _ => ⟨ob.slots, k b ob q⟩, fun _ _ _ n _ => n, fun b ob q _ => ⟨ob, k b ob q⟩, fun _ _ q => q, fun _ _ _ q => q, fun _ ps q => ⟨#[], by rw [q]; simp⟩⟩
theorem Un.refl : Un fs ex H H h h := Un.kept fun _ _ q => q
theorem Un.laid (k : ∀ b u, h.get? b = some u → h'.get? b = some u) (hp : h.objs.size ≤ a) (hn : H a = none) : Un fs ex H (upd H a o) h h' where
  keep := fun b u q _ _ _ => k b u q
  slot := fun b u q _ _ _ => ⟨u.slots, k b u q⟩
  free := fun b u q n _ => by rw [upd_ne (Nat.ne_of_lt (Nat.lt_of_lt_of_le (Heap.lt_size q) hp))]; exact n
  there := fun b u q _ => ⟨u, k b u q⟩
  tups := fun b xs q => by rw [upd_ne (ne_of_none q hn)]; exact q
  frzs := fun b u xs q => by rw [upd_ne (ne_of_none q hn)]; exact q
  tbls := fun b ps q => ⟨#[], by rw [upd_ne (ne_of_none q hn), q]; simp⟩
theorem Un.write (mu : Mut (H x)) (he : e = x ∨ H e = some (.own x)) (k : ∀ b u, b ≠ e → h.get? b = some u → h'.get? b = some u) (heo : ∃ u, h'.get? e = some u) : Un fs ex H (upd H x o) h h' := by
  have hx : ∀ b, H b = none → b ≠ x := fun b n z => by subst z; rw [n] at mu; exact mu
  have hb : ∀ b, H b = none → b ≠ e := fun b n z => by
    subst z
    rcases he with r | r
    · exact hx b n r
    · rw [n] at r; cases r
  have hm : ∀ b u, H b = some u → ¬ Mut (some u) → b ≠ x := fun b u q nm z => by subst z; rw [q] at mu; exact nm mu
  refine ⟨fun b u q n _ _ => k b u (hb b n) q, fun b u q n _ _ => ⟨u.slots, k b u (hb b n) q⟩, fun b u q n _ => by rw [upd_ne (hx b n)]; exact n, fun b u q _ => ?_,
    fun b xs q => by rw [upd_ne (hm b _ q fun z => z)]; exact q, fun b u xs q => by rw [upd_ne (hm b _ q fun z => z)]; exact q, fun b ps q => ⟨#[], by rw [upd_ne (hm b _ q fun z => z), q]; simp⟩⟩
  by_cases hbe : b = e
  · subst hbe; exact heo
  · exact ⟨u, k b u hbe q⟩
end
def trk (h : Heap) (H : Hp) : List Addr := (List.range h.objs.size).filter fun a => (H a).isSome
def hidT (h : Heap) (H : Hp) : Heap := PySem.W.hideAll h (trk h H)
theorem hidT_size (h : Heap) (H : Hp) : (hidT h H).objs.size = h.objs.size := PySem.W.hideAll_size _ _
theorem hidT_get {h : Heap} {H : Hp} {b : Addr} {o : Obj} (e : h.get? b = some o) (n : H b = none) : (hidT h H).get? b = some o :=
  PySem.W.hideAll_get _ e fun hm => by
    have q : (H b).isSome = true := (List.mem_filter.mp hm).2
    rw [n] at q; simp at q
theorem of_hidT {h : Heap} {H : Hp} {b : Addr} {o : Obj} (e : (hidT h H).get? b = some o) : h.get? b = some o ∧ H b = none := by
  have e' : h.get? b = some o := PySem.W.of_hideAll (trk h H) e
  refine ⟨e', ?_⟩
  cases q : H b with
  | none => rfl
  | some x =>
    have hm : b ∈ trk h H := List.mem_filter.mpr ⟨List.mem_range.mpr (Heap.lt_size e'), by simp [q]⟩
    have z : (hidT h H).get? b = none := PySem.W.hideAll_none (trk h H) hm
    rw [z] at e; cases e
def allNews (g h : Heap) (L : Addr) : List (Addr × Obj) := (List.range h.objs.size).filterMap fun a => if a = L ∨ (g.get? a).isSome = true then none else (h.get? a).map fun o => (a, o)
def rest (g h : Heap) (L d : Addr) : List (Addr × Obj) := (allNews g h L).filter fun p => decide (p.1 ≠ d)
end L2
namespace L2
open PySem PySem.Spec PyProof.Rows
structure Mod (K : PySem.W.Frag) (mg : Str → Option Value) (base : Heap) : Prop where
  kin : K.In base
  glob : base.Ns mainGlobals mg
  blt : ∃ mb, base.Ns builtinsNs mb ∧ ∀ x : Str, x ≠ "__name__" → mb x = bootBuiltins x
  nolimit : base.NoLimit
structure Cx where
  prog : Program
  w : World
  K : PySem.W.Frag
  mg : Str → Option Value
  base : Heap
  A : Around
  N : List Str
  s₀ : Shared
  H₀ : Hp
  env : Env
  outer : List Env
  stack : List Env
  ex : List Addr
  fn : Str → Bool
  calm : Bool
  pn : List (Addr × Obj)
  xe : Value → Shared → Prop
def frs (l : List Env) : List Addr := l.filterMap (·.frame)
abbrev Cx.fs (X : Cx) : List Addr := frs X.outer
def Vis (sc : Scope) (x : Str) : Prop := sc.names.lookup x = some .local ∨ sc.names.lookup x = some .cell ∨ sc.names.lookup x = some .free
def Loc (sc : Scope) (x : Str) : Prop := sc.names.lookup x = some .local ∨ sc.names.lookup x = some .cell
def Look (env : Env) (h : Heap) (m : Str → Option Value) (x : Str) (u : Value) : Prop :=
  (env.kindOf x = some .local ∧ m x = some u) ∨ ((env.kindOf x = some .cell ∨ env.kindOf x = some .free) ∧ ∃ c, env.cells.lookup x = some c ∧ h.IsCell c (some u))
structure Cx.Ok (X : Cx) : Prop where
  mod : Mod X.K X.mg X.base
  kind : X.env.scope.kind = .function
  glob : X.env.globals = mainGlobals
  blt : X.env.builtins = builtinsNs
  above : X.s₀.heap.objs.size ≤ X.env.locals
  inj : ∀ x y c, X.env.cells.lookup x = some c → X.env.cells.lookup y = some c → x = y
  has : ∀ x, (X.env.kindOf x = some .cell ∨ X.env.kindOf x = some .free) → ∃ c, X.env.cells.lookup x = some c
  cab : ∀ x c, X.fn x = true → X.env.cells.lookup x = some c → X.s₀.heap.objs.size ≤ c
  hd : X.calm = true → X.A.handled = none
  frames : X.A.frames = some X.stack
  stk : X.stack = X.outer ∨ (X.stack = X.env :: X.outer ∧ X.env.frame = some X.env.locals)
  exf : ∀ b ∈ X.ex, b ≠ X.env.locals ∧ ∀ x c, X.env.cells.lookup x = some c → c ≠ b
  bs : ∀ b o, X.base.get? b = some o → X.s₀.heap.get? b = some o ∧ X.H₀ b = none
  bsz : X.base.objs.size ≤ X.s₀.heap.objs.size
  noex : ∀ b o, X.base.get? b = some o → b ∉ X.ex
  exfs : ∀ b ∈ X.ex, b ∉ X.fs
  funs : X.s₀.heap.FunFrames X.base X.outer
  frf : ∀ b ∈ X.fs, X.H₀ b = none
structure Inv (X : Cx) (pins : List (Addr × Obj)) (σ : List (Option V)) (H : Hp) (s : Shared) : Prop where
  ok : X.Ok
  os : s.os = X.s₀.os
  bare : AllBare s.gens
  base : Un X.fs X.ex X.H₀ H X.s₀.heap s.heap
  loc : ∃ m, s.heap.Ns X.env.locals m ∧ ∀ (i : Nat) (x : Str) (v : V), X.N[i]? = some x → σ[i]? = some (some v) → Vis X.env.scope x → ∃ u, RelV v u ∧ Look X.env s.heap m x u
  cell : ∀ x c, X.env.cells.lookup x = some c → ∃ v, s.heap.IsCell c v
  free : H X.env.locals = none
  freeC : ∀ x c, X.env.cells.lookup x = some c → H c = none
  pin : ∀ p ∈ X.pn ++ pins, s.heap.get? p.1 = some p.2 ∧ H p.1 = none ∧ p.1 ≠ X.env.locals ∧ p.1 ∉ X.fs ∧ ∀ v, p.2.data ≠ .cell v
  hok : HOk X.prog X.w H s.heap
  len : σ.length = X.N.length
section
variable {X : Cx} {pins : List (Addr × Obj)} {σ : List (Option V)} {H H' : Hp} {s : Shared} {h' : Heap}
theorem Cx.Ok.nofr (ok : X.Ok) {b : Addr} {o : Obj} (e : X.base.get? b = some o) : b ∉ X.fs := fun hb => by
  have := (ok.funs.mem hb).1
  rw [e] at this; cases this
theorem Inv.bs (I : Inv X pins σ H s) : ∀ b o, X.base.get? b = some o → s.heap.get? b = some o ∧ H b = none := fun b o e =>
  ⟨I.base.keep b o (I.ok.bs b o e).1 (I.ok.bs b o e).2 (I.ok.nofr e) (I.ok.noex b o e), I.base.free b o (I.ok.bs b o e).1 (I.ok.bs b o e).2 (I.ok.noex b o e)⟩
theorem Inv.bk (I : Inv X pins σ H s) : ∀ b o, X.base.get? b = some o → s.heap.get? b = some o := fun b o e => (I.bs b o e).1
theorem Inv.mod (I : Inv X pins σ H s) : Mod X.K X.mg X.base := I.ok.mod
theorem Inv.kIn (I : Inv X pins σ H s) : X.K.In s.heap := I.ok.mod.kin.keeps I.bk
theorem Inv.lt (I : Inv X pins σ H s) : X.env.locals < s.heap.objs.size := let ⟨_, hn, _⟩ := I.loc; hn.lt
theorem Inv.sz (I : Inv X pins σ H s) : X.s₀.heap.objs.size ≤ s.heap.objs.size := Nat.le_trans I.ok.above (Nat.le_of_lt I.lt)
theorem Inv.nofs (I : Inv X pins σ H s) {a : Addr} (h : s.heap.objs.size ≤ a) : a ∉ X.fs := fun hb => by
  obtain ⟨_, o, ho, _⟩ := I.ok.funs.mem hb
  exact absurd (Nat.lt_of_lt_of_le (Heap.lt_size ho) (Nat.le_trans I.sz h)) (Nat.lt_irrefl _)
theorem Inv.cne (I : Inv X pins σ H s) : ∀ x c, X.env.cells.lookup x = some c → c ≠ X.env.locals := fun x c e z => by
  obtain ⟨v, o, ho, hd⟩ := I.cell x c e
  obtain ⟨m, ⟨o', es, ep, ho', hd', _⟩, _⟩ := I.loc
  rw [z, ho'] at ho; cases ho; rw [hd'] at hd; cases hd
theorem Inv.funs (I : Inv X pins σ H s) : s.heap.FunFrames X.base X.outer := by
  have all : ∀ (l : List Env), (∀ b ∈ frs l, b ∈ X.fs) → X.s₀.heap.FunFrames X.base l → s.heap.FunFrames X.base l := by
    intro l
    induction l with
    | nil => intro _ _; trivial
    | cons env r ih =>
      intro hs hl
      obtain ⟨hk, ⟨L, o, hf, hn, ho, hd⟩, hr⟩ := hl
      have hL : L ∈ X.fs := hs L (by unfold frs; rw [List.filterMap_cons, hf]; exact List.mem_cons_self)
      obtain ⟨sl, e⟩ := I.base.slot L o ho (I.ok.frf L hL) hL fun z => I.ok.exfs L z hL
      exact ⟨hk, ⟨L, _, hf, hn, e, hd⟩, ih (fun b hb => hs b (by unfold frs; rw [List.filterMap_cons, hf]; exact List.mem_cons_of_mem _ hb)) hr⟩
  exact all X.outer (fun _ hb => hb) I.ok.funs
theorem Inv.stack (I : Inv X pins σ H s) : s.heap.FunFrames X.base X.stack := by
  rcases I.ok.stk with e | ⟨e, hf⟩
  · rw [e]; exact I.funs
  · rw [e]
    obtain ⟨m, hn, _⟩ := I.loc
    refine .cons (by rw [I.ok.kind]; decide) hf hn ?_ I.funs
    exact Heap.get?_none_of_le (Nat.le_trans I.ok.bsz I.ok.above)
theorem Inv.stkSub (I : Inv X pins σ H s) : ∀ b ∈ frs X.stack, b ∈ X.env.locals :: X.fs := fun b hb => by
  rcases I.ok.stk with e | ⟨e, hf⟩
  · rw [e] at hb; exact List.mem_cons_of_mem _ hb
  · rw [e] at hb
    unfold frs at hb
    rw [List.filterMap_cons, hf] at hb
    exact hb
theorem Inv.stkFree (I : Inv X pins σ H s) : ∀ b ∈ frs X.stack, H b = none := fun b hb => by
  rcases List.mem_cons.mp (I.stkSub b hb) with e | hb
  · rw [e]; exact I.free
  · obtain ⟨_, o, ho, _⟩ := I.ok.funs.mem hb
    exact I.base.free b o ho (I.ok.frf b hb) fun z => I.ok.exfs b z hb
theorem Inv.step {g' : Array GenState} {t' : Nat} {d' : Drawn} {ch : List Addr} (I : Inv X pins σ H s)
    (hch : ∀ b ∈ ch, (b ∈ X.ex ∨ X.s₀.heap.objs.size ≤ b) ∧ b ≠ X.env.locals ∧ (∀ x c, X.env.cells.lookup x = some c → c ≠ b) ∧ ∀ p ∈ X.pn ++ pins, p.1 ≠ b)
    (keep : ∀ b o, b ≠ X.env.locals → b ∉ X.fs → b ∉ ch → s.heap.get? b = some o → H b = none → h'.get? b = some o)
    (slot : ∀ b o, b ≠ X.env.locals → b ∈ X.fs → b ∉ ch → s.heap.get? b = some o → H b = none → ∃ sl, h'.get? b = some { o with slots := sl }) (free : ∀ b o, b ∉ ch → s.heap.get? b = some o → H b = none → H' b = none)
    (there : ∀ b o, b ∉ ch → s.heap.get? b = some o → ∃ o', h'.get? b = some o')
    (tups : ∀ b xs, H b = some (.tup xs) → H' b = some (.tup xs)) (frzs : ∀ b o u, H b = some (.frz o u) → H' b = some (.frz o u)) (tbls : ∀ b ps, H b = some (.tbl ps) → ∃ more, H' b = some (.tbl (ps ++ more)))
    (ns : ∀ m, s.heap.Ns X.env.locals m → h'.Ns X.env.locals m) (hok : HOk X.prog X.w H' h') (hg : AllBare g') :
    Inv X pins σ H' { s with heap := h', gens := g', drawn := d', toks := t' } := by
  have neL : ∀ b o, X.s₀.heap.get? b = some o → b ≠ X.env.locals := fun b o e => Nat.ne_of_lt (Nat.lt_of_lt_of_le (Heap.lt_size e) I.ok.above)
  have neC : ∀ b o, X.s₀.heap.get? b = some o → b ∉ X.ex → b ∉ ch := fun b o e hx hb => by
    rcases (hch b hb).1 with z | z
    · exact hx z
    · exact absurd (Nat.lt_of_lt_of_le (Heap.lt_size e) z) (Nat.lt_irrefl _)
  have cellK : ∀ x c, X.env.cells.lookup x = some c → ∀ v, s.heap.IsCell c v → h'.IsCell c v := fun x c e v ⟨o, ho, hd⟩ => by
    have nch : c ∉ ch := fun z => (hch c z).2.2.1 x c e rfl
    by_cases hc : c ∈ X.fs
    · obtain ⟨sl, q⟩ := slot c o (I.cne x c e) hc nch ho (I.freeC x c e)
      exact ⟨_, q, hd⟩
    · exact ⟨o, keep c o (I.cne x c e) hc nch ho (I.freeC x c e), hd⟩
  refine ⟨I.ok, I.os, hg, ⟨fun b o e n hb hx => ?_, fun b o e n hb hx => ?_, fun b o e n hx => ?_, fun b o e hx => ?_, fun b xs e => tups b xs (I.base.tups b xs e), fun b o xs e => frzs b o xs (I.base.frzs b o xs e), fun b ps e => ?_⟩, ?_, fun x c e => ?_, ?_, fun x c e => ?_, fun p hp => ?_, hok, I.len⟩
  · exact keep b o (neL b o e) hb (neC b o e hx) (I.base.keep b o e n hb hx) (I.base.free b o e n hx)
  · obtain ⟨sl, e1⟩ := I.base.slot b o e n hb hx
    obtain ⟨sl', e2⟩ := slot b _ (neL b o e) hb (neC b o e hx) e1 (I.base.free b o e n hx)
    exact ⟨sl', e2⟩
  · obtain ⟨o', e1⟩ := I.base.there b o e hx
    exact free b o' (neC b o e hx) e1 (I.base.free b o e n hx)
  · obtain ⟨o', e1⟩ := I.base.there b o e hx
    exact there b o' (neC b o e hx) e1
  · obtain ⟨m1, e1⟩ := I.base.tbls b ps e
    obtain ⟨m2, e2⟩ := tbls b _ e1
    exact ⟨m1 ++ m2, by rw [e2, Array.append_assoc]⟩
  · obtain ⟨m, hn, hl⟩ := I.loc
    refine ⟨m, ns m hn, fun i x v e1 e2 e3 => ?_⟩
    obtain ⟨u, r, l⟩ := hl i x v e1 e2 e3
    refine ⟨u, r, ?_⟩
    rcases l with l | ⟨k, c, e, z⟩
    · exact .inl l
    · exact .inr ⟨k, c, e, cellK x c e _ z⟩
  · obtain ⟨v, z⟩ := I.cell x c e
    exact ⟨v, cellK x c e v z⟩
  · obtain ⟨m, ⟨o, _, _, ho, _⟩, _⟩ := I.loc
    exact free _ o (fun z => (hch _ z).2.1 rfl) ho I.free
  · obtain ⟨v, o, ho, hd⟩ := I.cell x c e
    exact free c o (fun z => (hch c z).2.2.1 x c e rfl) ho (I.freeC x c e)
  · obtain ⟨e, n, ne, nf, d⟩ := I.pin p hp
    have nch : p.1 ∉ ch := fun z => (hch p.1 z).2.2.2 p hp rfl
    exact ⟨keep p.1 p.2 ne nf nch e n, free p.1 p.2 nch e n, ne, nf, d⟩
theorem Inv.un {t' : Nat} (I : Inv X pins σ H s) (u : Un X.fs [] H H' s.heap h') (hok : HOk X.prog X.w H' h') : Inv X pins σ H' { s with heap := h', toks := t' } := by
  obtain ⟨m, ⟨o, es, ep, ho, r⟩, _⟩ := id I.loc
  obtain ⟨sl, hL⟩ := u.any ho I.free (by simp)
  exact I.step (g' := s.gens) (d' := s.drawn) (ch := []) (fun _ z => nomatch z) (fun b o _ hb _ e n => u.keep b o e n hb (by simp)) (fun b o _ hb _ e n => u.slot b o e n hb (by simp)) (fun b o _ e n => u.free b o e n (by simp)) (fun b o _ e => u.there b o e (by simp)) u.tups u.frzs u.tbls (fun m' hm => by
    obtain ⟨o', es', ep', ho', r'⟩ := hm
    rw [ho] at ho'; cases ho'
    exact ⟨_, es', ep', hL, r'⟩) hok I.bare
theorem Inv.call {g' : Array GenState} {t' : Nat} {d' : Drawn} {ch : List Addr} (I : Inv X pins σ H s) (u : Un (frs X.stack) ch H H' s.heap h') (hok : HOk X.prog X.w H' h') (hg : AllBare g')
    (hch : ∀ b ∈ ch, (b ∈ X.ex ∨ X.s₀.heap.objs.size ≤ b) ∧ b ≠ X.env.locals ∧ (∀ x c, X.env.cells.lookup x = some c → c ≠ b) ∧ ∀ p ∈ X.pn ++ pins, p.1 ≠ b) :
    Inv X pins σ H' { s with heap := h', gens := g', drawn := d', toks := t' } := by
  obtain ⟨m, ⟨o, es, ep, ho, r⟩, _⟩ := id I.loc
  obtain ⟨sl, hL⟩ := u.any ho I.free fun z => (hch _ z).2.1 rfl
  exact I.step (ch := ch) hch (fun b o hL hb hc e n => u.keep b o e n (fun z => (List.mem_cons.mp (I.stkSub b z)).elim hL hb) hc) (fun b o _ _ hc e n => u.any e n hc) (fun b o hc e n => u.free b o e n hc) (fun b o hc e => u.there b o e hc) u.tups u.frzs u.tbls (fun m' hm => by
    obtain ⟨o', es', ep', ho', r'⟩ := hm
    rw [ho] at ho'; cases ho'
    exact ⟨_, es', ep', hL, r'⟩) hok hg
theorem Inv.turned {t' : Nat} {it : Addr} (I : Inv X pins σ H s) (k : ∀ b o, b ≠ it → s.heap.get? b = some o → h'.get? b = some o) (hn : H it = none) (hL : it ≠ X.env.locals)
    (h1 : it ∈ X.ex ∨ X.s₀.heap.objs.size ≤ it) (h2 : ∀ x c, X.env.cells.lookup x = some c → c ≠ it) (h3 : ∀ p ∈ X.pn ++ pins, p.1 ≠ it) : Inv X pins σ H { s with heap := h', toks := t' } := by
  have nit : ∀ b u, H b = some u → b ≠ it := fun b u e z => by rw [z, hn] at e; cases e
  refine I.step (g' := s.gens) (d' := s.drawn) (ch := [it]) (fun b hb => ?_) (fun b o _ _ hc e _ => k b o (fun z => hc (by simp [z])) e) (fun b o _ _ hc e _ => ⟨o.slots, k b o (fun z => hc (by simp [z])) e⟩) (fun _ _ _ _ n => n)
    (fun b o hc e => ⟨o, k b o (fun z => hc (by simp [z])) e⟩) (fun _ _ e => e) (fun _ _ _ e => e) (fun b ps e => ⟨#[], by rw [e]; simp⟩) (fun m hm => ?_) (fun b u e => ?_) I.bare
  · have e : b = it := by simpa using hb
    subst e
    exact ⟨h1, hL, h2, h3⟩
  · obtain ⟨o, es, ep, ho, r⟩ := hm
    exact ⟨o, es, ep, k _ o (Ne.symm hL) ho, r⟩
  · refine (I.hok b u e).stay (fun c v hc q => k c v ?_ q) (fun _ q => q) fun _ _ q => q
    rcases hc with z | z
    · rw [z]; exact nit b u e
    · exact nit c _ z
theorem Inv.tok (I : Inv X pins σ H s) (t : Nat) : Inv X pins σ H { s with toks := t } := I.un (h' := s.heap) (t' := t) Un.refl I.hok
theorem Inv.kept {t' : Nat} (I : Inv X pins σ H s) (k : ∀ b u, s.heap.get? b = some u → h'.get? b = some u) : Inv X pins σ H { s with heap := h', toks := t' } := I.un (Un.kept k) (I.hok.kept k)
theorem Inv.laid {a : Addr} {o : HO} {t' : Nat} (I : Inv X pins σ H s) (k : ∀ b u, s.heap.get? b = some u → h'.get? b = some u) (hp : s.heap.objs.size ≤ a) (new : ObjOk X.prog X.w (upd H a o) h' a o) :
    Inv X pins σ (upd H a o) { s with heap := h', toks := t' } := I.un (Un.laid k hp (I.hok.fresh hp)) (I.hok.laid k hp new)
theorem Inv.write {x e : Addr} {o : HO} {t' : Nat} (I : Inv X pins σ H s) (mu : Mut (H x)) (he : e = x ∨ H e = some (.own x)) (k : ∀ b u, b ≠ e → s.heap.get? b = some u → h'.get? b = some u) (heo : ∃ u, h'.get? e = some u)
    (new : ObjOk X.prog X.w (upd H x o) h' x o) : Inv X pins σ (upd H x o) { s with heap := h', toks := t' } := I.un (Un.write mu he k heo) (I.hok.write mu he k heo new)
theorem Inv.weak {σ' : List (Option V)} (I : Inv X pins σ H s) (hl : σ'.length = σ.length) (w : ∀ (i : Nat) v, σ'[i]? = some (some v) → σ[i]? = some (some v)) : Inv X pins σ' H s :=
  ⟨I.ok, I.os, I.bare, I.base, let ⟨m, hn, hl'⟩ := I.loc; ⟨m, hn, fun i x v e1 e2 e3 => hl' i x v e1 (w i v e2) e3⟩, I.cell, I.free, I.freeC, I.pin, I.hok, hl.trans I.len⟩
theorem Inv.pins_of {pins' : List (Addr × Obj)} (I : Inv X pins σ H s) (h : ∀ p ∈ pins', s.heap.get? p.1 = some p.2 ∧ H p.1 = none ∧ p.1 ≠ X.env.locals ∧ p.1 ∉ X.fs ∧ ∀ v, p.2.data ≠ .cell v) : Inv X pins' σ H s :=
  ⟨I.ok, I.os, I.bare, I.base, I.loc, I.cell, I.free, I.freeC, fun p hp => (List.mem_append.mp hp).elim (fun z => I.pin p (List.mem_append_left _ z)) (h p), I.hok, I.len⟩
theorem nodup_ix {N : List Str} (hN : N.Nodup) {i j : Nat} {x : Str} (a : N[i]? = some x) (b : N[j]? = some x) : i = j := by
  obtain ⟨h1, e1⟩ := List.getElem?_eq_some_iff.mp a
  obtain ⟨h2, e2⟩ := List.getElem?_eq_some_iff.mp b
  exact (List.getElem_inj hN).mp (e1.trans e2.symm)
theorem store_ok2 {M : Model} {A : Around} {E : Value → Shared → Prop} {i : Nat} {x : Str} {v : V} {u : Value} {Q : Unit → Shared → Prop} (I : Inv X pins σ H s) (hN : X.N.Nodup) (hi : X.N[i]? = some x) (hx : Loc X.env.scope x) (r : RelV v u)
    (h : ∀ s', Inv X pins (σ.set i (some v)) H s' → (∃ a, Heap.SameBut a s.heap s'.heap ∧ (a = X.env.locals ∨ X.env.cells.lookup x = some a)) → Q () s') (hf : X.fn x = true ∨ X.env.scope.names.lookup x = some .local := by first | exact .inl rfl | exact .inr rfl | assumption) : wpAny M A (storeName X.env x u) Q E s := by
  obtain ⟨m, hn, hl⟩ := id I.loc
  have hcls : (X.env.scope.kind == .class || (X.env.scope.kind == .module && X.env.locals != X.env.globals)) = false := by rw [I.ok.kind]; rfl
  have hiσ : i < σ.length := by rw [I.len]; exact (List.getElem?_eq_some_iff.mp hi).1
  have cne := I.cne
  have tracked : ∀ {a : Addr} {h' : Heap}, (∃ o, s.heap.get? a = some o ∧ H a = none) → Heap.SameBut a s.heap h' → HOk X.prog X.w H h' := fun {a h'} ha hs b ob e => by
    obtain ⟨_, _, hfree⟩ := ha
    refine (I.hok b ob e).stay (fun c w' hc q => (hs.2 c ?_).trans q) (fun _ q => q) fun _ _ q => q
    rintro rfl
    rcases hc with rfl | hc
    · rw [hfree] at e; cases e
    · rw [hfree] at hc; cases hc
  rcases hx with hk | hk
  · refine wpAny_storeName_local hk hn (fun h' hn' hs => ?_) hcls
    obtain ⟨oL, _, _, hoL, _⟩ := id hn
    refine h _ ⟨I.ok, I.os, I.bare, ⟨fun b o e n hb hx => ?_, fun b o e n hb hx => ?_, I.base.free, fun b o e hx => ?_, I.base.tups, I.base.frzs, I.base.tbls⟩, ⟨_, hn', fun j y v' e1 e2 e3 => ?_⟩, fun y c e => ?_, I.free, I.freeC, fun p hp => ?_, tracked ⟨oL, hoL, I.free⟩ hs, by simpa using I.len⟩ ⟨_, hs, .inl rfl⟩
    · exact (hs.2 b (Nat.ne_of_lt (Nat.lt_of_lt_of_le (Heap.lt_size e) I.ok.above))).trans (I.base.keep b o e n hb hx)
    · obtain ⟨sl, e1⟩ := I.base.slot b o e n hb hx
      exact ⟨sl, (hs.2 b (Nat.ne_of_lt (Nat.lt_of_lt_of_le (Heap.lt_size e) I.ok.above))).trans e1⟩
    · obtain ⟨o', e1⟩ := I.base.there b o e hx
      exact ⟨o', (hs.2 b (Nat.ne_of_lt (Nat.lt_of_lt_of_le (Heap.lt_size e) I.ok.above))).trans e1⟩
    · by_cases hj : j = i
      · subst hj
        rw [hi] at e1; cases e1
        rw [List.getElem?_set_self hiσ] at e2
        cases e2
        exact ⟨u, r, .inl ⟨hk, by simp⟩⟩
      · rw [List.getElem?_set_ne (Ne.symm hj)] at e2
        obtain ⟨u', r', q⟩ := hl j y v' e1 e2 e3
        refine ⟨u', r', ?_⟩
        rcases q with ⟨k, e⟩ | ⟨k, c, e, z⟩
        · refine .inl ⟨k, ?_⟩
          have : y ≠ x := fun e => hj (nodup_ix hN e1 (e ▸ hi))
          simp [this, e]
        · exact .inr ⟨k, c, e, z.sameBut hs (cne y c e)⟩
    · obtain ⟨w', z⟩ := I.cell y c e
      exact ⟨w', z.sameBut hs (cne y c e)⟩
    · obtain ⟨e, n, ne, nf, d⟩ := I.pin p hp
      exact ⟨(hs.2 p.1 ne).trans e, n, ne, nf, d⟩
  · have hfn : X.fn x = true := by
      rcases hf with z | z
      · exact z
      · rw [z] at hk; cases hk
    obtain ⟨c, hc⟩ := I.ok.has x (.inl hk)
    obtain ⟨w', z⟩ := I.cell x c hc
    refine wpAny_storeName_cell I.ok.kind hk hc z (fun h' hc' hs => ?_)
    obtain ⟨oc, hoc, hocd⟩ := id z
    refine h { s with heap := h' } ⟨I.ok, I.os, I.bare, ⟨fun b o e n hb hx => ?_, fun b o e n hb hx => ?_, I.base.free, fun b o e hx => ?_, I.base.tups, I.base.frzs, I.base.tbls⟩, ⟨m, hn.sameBut hs (Ne.symm (cne x c hc)), fun j y v' e1 e2 e3 => ?_⟩, fun y c' e => ?_, I.free, I.freeC, fun p hp => ?_, tracked ⟨oc, hoc, I.freeC x c hc⟩ hs, by simpa using I.len⟩ ⟨c, hs, .inr hc⟩
    · exact (hs.2 b (Nat.ne_of_lt (Nat.lt_of_lt_of_le (Heap.lt_size e) (I.ok.cab x c hfn hc)))).trans (I.base.keep b o e n hb hx)
    · obtain ⟨sl, e1⟩ := I.base.slot b o e n hb hx
      exact ⟨sl, (hs.2 b (Nat.ne_of_lt (Nat.lt_of_lt_of_le (Heap.lt_size e) (I.ok.cab x c hfn hc)))).trans e1⟩
    · obtain ⟨o', e1⟩ := I.base.there b o e hx
      exact ⟨o', (hs.2 b (Nat.ne_of_lt (Nat.lt_of_lt_of_le (Heap.lt_size e) (I.ok.cab x c hfn hc)))).trans e1⟩
    · by_cases hj : j = i
      · subst hj
        rw [hi] at e1; cases e1
        rw [List.getElem?_set_self hiσ] at e2
        cases e2
        exact ⟨u, r, .inr ⟨.inl hk, c, hc, hc'⟩⟩
      · rw [List.getElem?_set_ne (Ne.symm hj)] at e2
        obtain ⟨u', r', q⟩ := hl j y v' e1 e2 e3
        refine ⟨u', r', ?_⟩
        rcases q with q | ⟨k, c', e, z'⟩
        · exact .inl q
        · refine .inr ⟨k, c', e, z'.sameBut hs ?_⟩
          rintro rfl
          exact hj (nodup_ix hN e1 (I.ok.inj _ _ _ e hc ▸ hi))
    · by_cases hcc : c' = c
      · subst hcc; exact ⟨_, hc'⟩
      · obtain ⟨w2, z2⟩ := I.cell y c' e
        exact ⟨w2, z2.sameBut hs hcc⟩
    · obtain ⟨e, n, ne, nf, d⟩ := I.pin p hp
      refine ⟨(hs.2 p.1 ?_).trans e, n, ne, nf, d⟩
      intro q
      rw [q, hoc] at e
      have q' : oc = p.2 := Option.some.inj e
      exact d w' (by rw [← q']; exact hocd)
theorem store_ok {M : Model} {A : Around} {E : Value → Shared → Prop} {i : Nat} {x : Str} {v : V} {u : Value} {Q : Unit → Shared → Prop} (I : Inv X pins σ H s) (hN : X.N.Nodup) (hi : X.N[i]? = some x) (hx : Loc X.env.scope x) (r : RelV v u)
    (h : ∀ s', Inv X pins (σ.set i (some v)) H s' → Q () s') (hf : X.fn x = true ∨ X.env.scope.names.lookup x = some .local := by first | exact .inl rfl | exact .inr rfl | assumption) : wpAny M A (storeName X.env x u) Q E s :=
  store_ok2 I hN hi hx r (fun s' I' _ => h s' I') hf
theorem Inv.call' {s' : Shared} {ch : List Addr} (I : Inv X pins σ H s) (ho : s'.os = s.os) (u : Un (frs X.stack) ch H H' s.heap s'.heap) (hok : HOk X.prog X.w H' s'.heap) (hg : AllBare s'.gens)
    (hch : ∀ b ∈ ch, (b ∈ X.ex ∨ X.s₀.heap.objs.size ≤ b) ∧ b ≠ X.env.locals ∧ (∀ x c, X.env.cells.lookup x = some c → c ≠ b) ∧ ∀ p ∈ X.pn ++ pins, p.1 ≠ b) : Inv X pins σ H' s' := by
  obtain ⟨h', g', d', t', o'⟩ := s'
  have e : o' = s.os := ho
  subst e
  exact I.call (g' := g') (t' := t') (d' := d') u hok hg hch
end
abbrev XK := Value → Option Addr → Hp → Prop
abbrev St := List (Option V)
abbrev VK := V → Hp → Prop
abbrev TE := St → Hp → VK → Prop
abbrev TT := St → Hp → (Bool → Hp → Prop) → Prop
abbrev TA := St → Hp → (List V → Hp → Prop) → Prop
structure Ends where
  nx : St → Hp → Prop
  rt : VK
  bk : St → Hp → Prop := fun _ _ => False
  ct : St → Hp → Prop := fun _ _ => False
abbrev TS := Ends → St → Hp → Prop
def EP (X : Cx) (pins : List (Addr × Obj)) (σ : St) (Q : VK) (u : Value) (s' : Shared) : Prop := ∃ v H', Inv X pins σ H' s' ∧ RelV v u ∧ Q v H'
def TP (X : Cx) (pins : List (Addr × Obj)) (σ : St) (Q : Bool → Hp → Prop) (b : Bool) (s' : Shared) : Prop := ∃ H', Inv X pins σ H' s' ∧ Q b H'
def AP (X : Cx) (pins : List (Addr × Obj)) (σ : St) (Q : List V → Hp → Prop) (us : List Value) (s' : Shared) : Prop := ∃ vs H', Inv X pins σ H' s' ∧ Vals vs us ∧ Q vs H'
def SP (X : Cx) (pins : List (Addr × Obj)) (D : Ends) (f : Flow) (s' : Shared) : Prop :=
  match f with
  | .next => ∃ σ' H', Inv X pins σ' H' s' ∧ D.nx σ' H'
  | .brk => ∃ σ' H', Inv X pins σ' H' s' ∧ D.bk σ' H'
  | .cont => ∃ σ' H', Inv X pins σ' H' s' ∧ D.ct σ' H'
  | .ret u => ∃ v σ' H', Inv X pins σ' H' s' ∧ RelV v u ∧ D.rt v H'
def PE (X : Cx) (e : Expr) (t : TE) : Prop :=
  ∀ (pins : List (Addr × Obj)) (s : Shared) (σ : St) (H : Hp) (Q : VK), Inv X pins σ H s → t σ H Q → wpAny (model X.prog X.w) X.A (eval e X.env) (EP X pins σ Q) X.xe s
def PT (X : Cx) (e : Expr) (t : TT) : Prop :=
  ∀ (pins : List (Addr × Obj)) (s : Shared) (σ : St) (H : Hp) (Q : Bool → Hp → Prop), Inv X pins σ H s → t σ H Q → wpAny (model X.prog X.w) X.A (isTrue e X.env (eval e X.env)) (TP X pins σ Q) X.xe s
def PW (X : Cx) (e : Expr) (t : TT) : Prop :=
  ∀ (whole : Sem Value) (pins : List (Addr × Obj)) (s : Shared) (σ : St) (H : Hp) (Q : Bool → Hp → Prop), Inv X pins σ H s → t σ H Q → wpAny (model X.prog X.w) X.A (isTrue e X.env whole) (TP X pins σ Q) X.xe s
theorem PW.pt {X : Cx} {e : Expr} {t : TT} (h : PW X e t) : PT X e t := h _
def PA (X : Cx) (es : List Expr) (t : TA) : Prop :=
  ∀ (pos : Pos) (pins : List (Addr × Obj)) (s : Shared) (σ : St) (H : Hp) (Q : List V → Hp → Prop), Inv X pins σ H s → t σ H Q → wpAny (model X.prog X.w) X.A (spliced (backTo pos (starEach es X.env))) (AP X pins σ Q) X.xe s
def PS (X : Cx) (st : Stmt) (t : TS) : Prop :=
  ∀ (pins : List (Addr × Obj)) (s : Shared) (σ : St) (H : Hp) (D : Ends), Inv X pins σ H s → t D σ H → wpAny (model X.prog X.w) X.A (exec st X.env) (SP X pins D) X.xe s
def PSs (X : Cx) (st : List Stmt) (t : TS) : Prop :=
  ∀ (pins : List (Addr × Obj)) (s : Shared) (σ : St) (H : Hp) (D : Ends), Inv X pins σ H s → t D σ H → wpAny (model X.prog X.w) X.A (execs st X.env) (SP X pins D) X.xe s
theorem thn {α : Type} {t : Sem α} {Q Q' : α → Shared → Prop} {M : Model} {A : Around} {E : Value → Shared → Prop} {s : Shared} (h : wpAny M A t Q E s) (hQ : ∀ a s, Q a s → Q' a s) : wpAny M A t Q' E s := wpAny_mono h hQ fun _ _ x => x
end L2
namespace L2
open PySem PySem.Spec PyProof.Rows
section
variable {X : Cx}
def tVar (i : Nat) : TE := fun σ H Q => ∃ v, σ[i]? = some (some v) ∧ Q v H
def tC (v : V) : TE := fun _ H Q => Q v H
theorem pe_var {i : Nat} {x : Str} {pos : Pos} (hN : X.N[i]? = some x) (hv : Vis X.env.scope x) (hd : (x == ("__debug__" : Str)) = false := by decide) (hcd : (x == ("__classdict__" : Str)) = false := by decide) : PE X (.Name x pos) (tVar i) := by
  intro pins s σ H Q I h
  obtain ⟨v, e, h⟩ := h
  obtain ⟨m, hn, hl⟩ := I.loc
  obtain ⟨u, r, l⟩ := hl i x v hN e hv
  have fin : EP X pins σ Q u s := ⟨v, H, I, r, h⟩
  rcases l with ⟨hk, hm⟩ | ⟨hk, c, hc, hcell⟩
  · exact wpAny_Name (wpAny_loadName_local I.ok.kind hk hn hm fin) hd
  · rcases hk with hk | hk
    · exact wpAny_Name (wpAny_loadName_cell I.ok.kind hk hc hcell fin) hd
    · exact wpAny_Name (wpAny_loadName_free I.ok.kind hk hc hcell fin hcd) hd
theorem pe_int {i j pos} : PE X (.Constant (.int i) j pos) (tC (.int i)) := fun _ _ _ H _ I h => wpAny_Constant_int ⟨.int i, H, I.tok _, ⟨_, rfl⟩, h⟩
theorem pe_bl {b j pos} : PE X (.Constant (.bool b) j pos) (tC (.bl b)) := fun _ _ _ H _ I h => Constant_bool ⟨.bl b, H, I, rfl, h⟩
theorem pe_non {j pos} : PE X (.Constant .none j pos) (tC .non) := fun _ _ _ H _ I h => Constant_none ⟨.non, H, I, rfl, h⟩
theorem pe_str {x j pos} : PE X (.Constant (.str x) j pos) (tC (.str x)) := fun _ _ _ H _ I h => Calls.Constant_str ⟨.str x, H, I.tok _, ⟨_, rfl⟩, h⟩
def Gl (X : Cx) (x : Str) : Prop := X.env.kindOf x = some .globalImplicit
theorem ld_glob {E : Value → Shared → Prop} {pins : List (Addr × Obj)} {s : Shared} {σ : St} {H : Hp} {x : Str} {u : Value} {pos : Pos} {Q : Value → Shared → Prop} (I : Inv X pins σ H s) (hg : Gl X x) (hm : X.mg x = some u) (h : Q u s)
    (hd : (x == ("__debug__" : Str)) = false := by decide) : wpAny (model X.prog X.w) X.A (eval (.Name x pos) X.env) Q E s :=
  Calls.Name_function_global I.ok.kind hg (Calls.loadGlobal_global (by rw [I.ok.glob]; exact I.mod.glob.keeps I.bk) hm h) hd
theorem ld_blt {E : Value → Shared → Prop} {pins : List (Addr × Obj)} {s : Shared} {σ : St} {H : Hp} {x : Str} {u : Value} {pos : Pos} {Q : Value → Shared → Prop} (I : Inv X pins σ H s) (hg : Gl X x) (hm : X.mg x = none) (hv : bootBuiltins x = some u) (h : Q u s)
    (hn : x ≠ "__name__" := by decide) (hd : (x == ("__debug__" : Str)) = false := by decide) : wpAny (model X.prog X.w) X.A (eval (.Name x pos) X.env) Q E s := by
  obtain ⟨mb, h1, h2⟩ := I.mod.blt
  exact Calls.Name_function_global I.ok.kind hg (Calls.loadGlobal_builtin (by rw [I.ok.glob]; exact I.mod.glob.keeps I.bk) hm (by rw [I.ok.blt]; exact h1.keeps I.bk) ((h2 x hn).trans hv) h) hd
theorem pe_glob {x : Str} {v : V} {u : Value} {pos : Pos} (hg : Gl X x) (hm : X.mg x = some u) (r : RelV v u) (hd : (x == ("__debug__" : Str)) = false := by decide) : PE X (.Name x pos) (tC v) :=
  fun _ _ _ H _ I h => ld_glob I hg hm ⟨v, H, I, r, h⟩ hd
theorem pe_bltn {x : Str} {v : V} {u : Value} {pos : Pos} (hg : Gl X x) (hm : X.mg x = none) (hv : bootBuiltins x = some u) (r : RelV v u) (hn : x ≠ "__name__" := by decide) (hd : (x == ("__debug__" : Str)) = false := by decide) : PE X (.Name x pos) (tC v) :=
  fun _ _ _ H _ I h => ld_blt I hg hm hv ⟨v, H, I, r, h⟩ hn hd
variable {a b : Expr} {ta tb : TE} {pos : Pos}
def tB (t : TE) : TT := fun σ H Q => t σ H fun x H1 => ∃ c, x = .bl c ∧ Q c H1
theorem pt_val {e : Expr} {t : TE} (h : PE X e t) (he : ∀ whole, isTrue e X.env whole = (do let v ← whole; standAt e.pos; holding [v] (truthy v)) := by intro _; rfl) : PT X e (tB t) := by
  intro pins s σ H Q I hw
  refine isTrue_plain (thn (h pins s σ H _ I hw) fun v s1 ⟨x, H1, I1, r1, q1⟩ => ?_) (he _)
  obtain ⟨d, rfl, q⟩ := q1
  cases r1
  exact wpAny_truthy_bool ⟨H1, I1, q⟩
variable {tA tB' : TT} {rest : List Expr}
def tAnd (t u : TT) : TT := fun σ H Q => t σ H fun c H1 => if c = true then u σ H1 Q else Q false H1
def tOr (t u : TT) : TT := fun σ H Q => t σ H fun c H1 => if c = true then Q true H1 else u σ H1 Q
def tNot (t : TT) : TT := fun σ H Q => t σ H fun c H1 => Q (!c) H1
theorem pw_or1 (ha : PT X a tA) : PW X (.BoolOp .Or [a] pos) tA := by
  intro wh pins s σ H Q I h
  refine isTrue_or (thn (ha pins s σ H Q I h) fun c s1 e => ?_)
  cases c with
  | false => exact isTrue_or_nil e
  | true => exact e
theorem pw_or (ha : PT X a tA) (hb : PW X (.BoolOp .Or (b :: rest) pos) tB') : PW X (.BoolOp .Or (a :: b :: rest) pos) (tOr tA tB') := by
  intro wh pins s σ H Q I h
  refine isTrue_or (thn (ha pins s σ H _ I h) fun c s1 ⟨H1, I1, q1⟩ => ?_)
  cases c with
  | true => exact ⟨H1, I1, q1⟩
  | false => exact hb wh pins s1 σ H1 Q I1 q1
theorem pt_not (ha : PT X a tA) : PT X (.UnaryOp .Not a pos) (tNot tA) := by
  intro pins s σ H Q I h
  exact isTrue_not (ha pins s σ H (fun c H1 => Q (!c) H1) I h)
def tAndV (ta tb : TE) : TE := fun σ H Q => ta σ H fun x H1 => ∃ c, x = .bl c ∧ if c = true then tb σ H1 Q else Q (.bl false) H1
def tOrV (ta tb : TE) : TE := fun σ H Q => ta σ H fun x H1 => ∃ c, x = .bl c ∧ if c = true then Q (.bl true) H1 else tb σ H1 Q
def tNotV (ta : TE) : TE := fun σ H Q => ta σ H fun x H1 => ∃ c, x = .bl c ∧ Q (.bl (!c)) H1
theorem pe_one {op} {t : TE} (h : PE X a t) : PE X (.BoolOp op [a] pos) t := fun pins s σ H Q I hw => BoolOp_one (h pins s σ H Q I hw)
theorem pe_and (ha : PE X a ta) (hb : PE X (.BoolOp .And (b :: rest) pos) tb) : PE X (.BoolOp .And (a :: b :: rest) pos) (tAndV ta tb) := by
  intro pins s σ H Q I h
  refine BoolOp_and (thn (ha pins s σ H _ I h) fun v s1 ⟨x, H1, I1, r1, q1⟩ => ?_)
  obtain ⟨c, rfl, q1⟩ := q1
  cases r1
  refine wpAny_truthy_bool ?_
  cases c with
  | true => exact hb pins s1 σ H1 Q I1 q1
  | false => exact ⟨.bl false, H1, I1, rfl, q1⟩
def tIf (t : TT) (ta tb : TE) : TE := fun σ H Q => t σ H fun c H1 => if c = true then ta σ H1 Q else tb σ H1 Q
theorem pe_ifExp {c : Expr} (hc : PT X c tA) (ha : PE X a ta) (hb : PE X b tb) : PE X (.IfExp c a b pos) (tIf tA ta tb) := by
  intro pins s σ H Q I h
  refine wpAny_IfExp (thn (hc pins s σ H _ I h) fun d s1 ⟨H1, I1, q1⟩ => ?_)
  cases d with
  | true => exact ha pins s1 σ H1 Q I1 q1
  | false => exact hb pins s1 σ H1 Q I1 q1
end
end L2
namespace L2
open PySem PySem.Spec PyProof.Rows
def SqL (K : PySem.W.Frag) (H : Hp) (a : Addr) (xs : List V) : Prop :=
  Rd H a (.lst xs) ∨
    ∃ (o : Obj) (its : Array Value) (n : Nat), K.lookup a = some o ∧ o.cls = .type "list" ∧ o.dict = none ∧ o.data = .seq its n ∧ its.size ≤ sizeLine ∧ Vals xs its.toList
def SqT (K : PySem.W.Frag) (H : Hp) (a : Addr) (xs : List V) : Prop :=
  Rd H a (.tup xs) ∨
    ∃ (o : Obj) (its : Array Value) (n : Nat), K.lookup a = some o ∧ o.cls = .type "tuple" ∧ o.data = .seq its n ∧ its.size ≤ sizeLine ∧ Vals xs its.toList
def absV : Value → Option V
  | .none => some .non
  | .bool b => some (.bl b)
  | .int i _ => some (.int i)
  | .str x _ => some (.str x)
  | .bytes b _ => some (.byt b)
  | .float b _ => some (.flt b)
  | .ref a => some (.ref a)
  | .type n => some (.ty n)
  | _ => none
theorem RelV.abs {x : V} {u : Value} (r : RelV x u) : absV u = some x := by
  cases x with
  | non => cases r; rfl
  | bl _ => cases r; rfl
  | int _ => obtain ⟨t, rfl⟩ := r; rfl
  | str _ => obtain ⟨t, rfl⟩ := r; rfl
  | byt _ => obtain ⟨t, rfl⟩ := r; rfl
  | flt _ => obtain ⟨t, rfl⟩ := r; rfl
  | ref _ => cases r; rfl
  | ty _ => cases r; rfl
theorem RelV.inj {x y : V} {u : Value} (r : RelV x u) (q : RelV y u) : x = y := Option.some.inj (r.abs.symm.trans q.abs)
theorem Vals.inj : ∀ {xs ys : List V} {us : List Value}, Vals xs us → Vals ys us → xs = ys
  | _, _, _, .nil, .nil => rfl
  | _, _, _, .cons r t, .cons r' t' => by rw [r.inj r', Vals.inj t t']
section
variable {X : Cx} {pins : List (Addr × Obj)} {σ : St} {H : Hp} {s : Shared} {a : Addr} {xs ys : List V}
theorem SqL.of {K : PySem.W.Frag} (h : H a = some (.lst xs)) : SqL K H a xs := .inl (.inl h)
theorem SqT.of {K : PySem.W.Frag} (h : H a = some (.tup xs)) : SqT K H a xs := .inl (.inl h)
theorem Inv.list (I : Inv X pins σ H s) (h : SqL X.K H a xs) : ∃ its : List Value, Vals xs its ∧ PlainL s.heap a its.toArray ∧ xs.length ≤ sizeLine := by
  rcases h with h | ⟨o, its, n, hk, hc, hd, hs, hz, r⟩
  · obtain ⟨z, its, n, r, e⟩ := h.ok I.hok
    exact ⟨its, r, ⟨_, n, e, rfl, rfl, rfl⟩, z⟩
  · refine ⟨its.toList, r, ⟨o, n, I.kIn a o hk, hc, hd, by simpa using hs⟩, ?_⟩
    have e := r.length
    simp only [Array.length_toList] at e
    omega
theorem Inv.tuple (I : Inv X pins σ H s) (h : SqT X.K H a xs) : ∃ its : List Value, Vals xs its ∧ IsTup s.heap a its.toArray ∧ xs.length ≤ sizeLine := by
  rcases h with h | ⟨o, its, n, hk, hc, hs, hz, r⟩
  · obtain ⟨z, its, r, p⟩ := h.ok I.hok
    exact ⟨its, r, p, z⟩
  · refine ⟨its.toList, r, ⟨o, I.kIn a o hk, hc, n, by simpa using hs⟩, ?_⟩
    have e := r.length
    simp only [Array.length_toList] at e
    omega
theorem Inv.list_inj (I : Inv X pins σ H s) (h : SqL X.K H a xs) (h' : SqL X.K H a ys) : xs = ys := by
  obtain ⟨its, r, ⟨o, n, e, _, _, d⟩, _⟩ := I.list h
  obtain ⟨its', r', ⟨o', n', e', _, _, d'⟩, _⟩ := I.list h'
  rw [e] at e'; cases e'
  rw [d] at d'
  injection d' with d1 _
  have : its = its' := by simpa using congrArg Array.toList d1
  subst this
  exact r.inj r'
theorem Inv.tuple_inj (I : Inv X pins σ H s) (h : SqT X.K H a xs) (h' : SqT X.K H a ys) : xs = ys := by
  obtain ⟨its, r, ⟨o, e, _, n, d⟩, _⟩ := I.tuple h
  obtain ⟨its', r', ⟨o', e', _, n', d'⟩, _⟩ := I.tuple h'
  rw [e] at e'; cases e'
  rw [d] at d'
  injection d' with d1 _
  have : its = its' := by simpa using congrArg Array.toList d1
  subst this
  exact r.inj r'
end
abbrev Cx.wish (X : Cx) (E : Value → Shared → Prop) : Cx := { X with xe := E }
abbrev Cx.nox (X : Cx) : Cx := X.wish fun _ _ => False
theorem Cx.Ok.wish {X : Cx} (ok : X.Ok) (E : Value → Shared → Prop) : (X.wish E).Ok :=
  ⟨ok.mod, ok.kind, ok.glob, ok.blt, ok.above, ok.inj, ok.has, ok.cab, ok.hd, ok.frames, ok.stk, ok.exf, ok.bs, ok.bsz, ok.noex, ok.exfs, ok.funs, ok.frf⟩
theorem Cx.Ok.unwish {X : Cx} {E : Value → Shared → Prop} (ok : (X.wish E).Ok) : X.Ok :=
  ⟨ok.mod, ok.kind, ok.glob, ok.blt, ok.above, ok.inj, ok.has, ok.cab, ok.hd, ok.frames, ok.stk, ok.exf, ok.bs, ok.bsz, ok.noex, ok.exfs, ok.funs, ok.frf⟩
section
variable {X : Cx} {pins : List (Addr × Obj)} {σ : St} {H : Hp} {s : Shared} {E : Value → Shared → Prop}
theorem Inv.wish (I : Inv X pins σ H s) (E : Value → Shared → Prop) : Inv (X.wish E) pins σ H s := ⟨I.ok.wish E, I.os, I.bare, I.base, I.loc, I.cell, I.free, I.freeC, I.pin, I.hok, I.len⟩
theorem Inv.unwish (I : Inv (X.wish E) pins σ H s) : Inv X pins σ H s := ⟨I.ok.unwish, I.os, I.bare, I.base, I.loc, I.cell, I.free, I.freeC, I.pin, I.hok, I.len⟩
theorem SP.unwish {D : Ends} {f : Flow} {s' : Shared} (h : SP (X.wish E) pins D f s') : SP X pins D f s' := by
  cases f with
  | next => obtain ⟨σ', H', I, q⟩ := h; exact ⟨σ', H', I.unwish, q⟩
  | brk => obtain ⟨σ', H', I, q⟩ := h; exact ⟨σ', H', I.unwish, q⟩
  | cont => obtain ⟨σ', H', I, q⟩ := h; exact ⟨σ', H', I.unwish, q⟩
  | ret u => obtain ⟨v, σ', H', I, r, q⟩ := h; exact ⟨v, σ', H', I.unwish, r, q⟩
theorem PSs.nox {st : List Stmt} {t : TS} (h : PSs X.nox st t) : PSs X st t := fun pins s σ H D I hw =>
  wpAny_mono (h pins s σ H D (I.wish _) hw) (fun _ _ q => q.unwish) fun _ _ z => False.elim z
end
section
variable {X : Cx} {st : Stmt} {rest : List Stmt} {t u : TS} {e : Expr} {te : TE} {pos : Pos}
def tNext : TS := fun D σ H => D.nx σ H
def tSeq (t u : TS) : TS := fun D σ H => t { D with nx := u D } σ H
theorem pss_nil : PSs X [] tNext := fun _ _ σ H _ I h => wpAny_execs_nil ⟨σ, H, I, h⟩
theorem pss_cons (h1 : PS X st t) (h2 : PSs X rest u) : PSs X (st :: rest) (tSeq t u) := by
  intro pins s σ H D I h
  refine wpAny_execs_cons (thn (h1 pins s σ H { D with nx := u D } I h) fun f s1 q => ?_)
  cases f with
  | next =>
    obtain ⟨σ', H', I', q⟩ := q
    exact h2 pins s1 σ' H' D I' q
  | ret v => exact q
  | brk => exact q
  | cont => exact q
theorem pss_one (h1 : PS X st t) : PSs X [st] t := by
  intro pins s σ H D I h
  refine wpAny_execs_cons (thn (h1 pins s σ H D I h) fun f s1 q => ?_)
  cases f with
  | next => exact wpAny_execs_nil q
  | ret v => exact q
  | brk => exact q
  | cont => exact q
theorem Inv.quiet {pins : List (Addr × Obj)} {σ : St} {H : Hp} {s : Shared} (I : Inv X pins σ H s) : interactive X.env = false := by simp [interactive, I.ok.kind]
def tDrop (te : TE) : TS := fun D σ H => te σ H fun _ H1 => D.nx σ H1
theorem ps_expr (he : PE X e te) (hs : swapsWith e none pos.line X.env = pure false := by rfl) : PS X (.Expr e pos) (tDrop te) := by
  intro pins s σ H D I h
  exact wpAny_Expr_any (thn (he pins s σ H _ I h) fun v s1 ⟨x, H1, I1, r1, q1⟩ => ⟨σ, H1, I1, q1⟩) I.quiet hs
def tRet (te : TE) : TS := fun D σ H => te σ H D.rt
theorem ps_ret (he : PE X e te) : PS X (.Return (some e) pos) (tRet te) := by
  intro pins s σ H D I h
  exact wpAny_Return_some (thn (he pins s σ H _ I h) fun v s1 ⟨x, H1, I1, r1, q1⟩ => ⟨x, σ, H1, I1, r1, q1⟩)
def tRetN : TS := fun D _ H => D.rt .non H
def tIfS (c : TT) (t u : TS) : TS := fun D σ H => c σ H fun b H1 => if b = true then t D σ H1 else u D σ H1
theorem ps_if {c : Expr} {a b : List Stmt} {tc : TT} (hc : PT X c tc) (ha : PSs X a t) (hb : PSs X b u) : PS X (.If c a b pos) (tIfS tc t u) := by
  intro pins s σ H D I h
  refine wpAny_If (thn (hc pins s σ H _ I h) fun d s1 ⟨H1, I1, q1⟩ => ?_)
  cases d with
  | true => exact ha pins s1 σ H1 D I1 q1
  | false => exact hb pins s1 σ H1 D I1 q1
end
abbrev TG := V → St → Hp → (St → Hp → Prop) → Prop
abbrev TGs := List V → St → Hp → (St → Hp → Prop) → Prop
def PG (X : Cx) (target : Expr) (t : TG) : Prop :=
  ∀ (pins : List (Addr × Obj)) (s : Shared) (σ : St) (H : Hp) (v : V) (u : Value) (Q : St → Hp → Prop), Inv X pins σ H s → RelV v u → t v σ H Q →
    wpAny (model X.prog X.w) X.A (assign target X.env u) (fun _ s' => ∃ σ' H', Inv X pins σ' H' s' ∧ Q σ' H') X.xe s
def PGs (X : Cx) (ts : List Expr) (t : TGs) : Prop :=
  ∀ (pins : List (Addr × Obj)) (s : Shared) (σ : St) (H : Hp) (vs : List V) (us : List Value) (Q : St → Hp → Prop), Inv X pins σ H s → Vals vs us → t vs σ H Q →
    wpAny (model X.prog X.w) X.A (assignInOrder ((assignEach ts X.env).map (·.2)) us) (fun _ s' => ∃ σ' H', Inv X pins σ' H' s' ∧ Q σ' H') X.xe s
abbrev TSet := V → V → V → Hp → (Hp → Prop) → Prop
def PSet (X : Cx) (t : TSet) : Prop :=
  ∀ (pins : List (Addr × Obj)) (s : Shared) (σ : St) (H : Hp) (o i v : V) (ov iv u : Value) (Q : Hp → Prop), Inv X pins σ H s → RelV o ov → RelV i iv → RelV v u → t o i v H Q →
    wpAny (model X.prog X.w) X.A (setItem ov iv u) (fun _ s' => ∃ H', Inv X pins σ H' s' ∧ Q H') X.xe s
section
variable {X : Cx} {pos : Pos}
def gName (i : Nat) : TG := fun v σ H Q => Q (σ.set i (some v)) H
theorem pg_name {i : Nat} {x : Str} (hN : X.N.Nodup) (hi : X.N[i]? = some x) (hx : Loc X.env.scope x) (hf : X.fn x = true ∨ X.env.scope.names.lookup x = some .local := by first | exact .inl rfl | exact .inr rfl | assumption) : PG X (.Name x pos) (gName i) := by
  intro pins s σ H v u Q I r h
  exact wpAny_assign_Name (store_ok I hN hi hx r (fun s' I' => ⟨_, H, I', h⟩) hf)
def gNil : TGs := fun vs σ H Q => vs = [] ∧ Q σ H
def gCons (t : TG) (u : TGs) : TGs := fun vs σ H Q => ∃ v r, vs = v :: r ∧ t v σ H fun σ' H' => u r σ' H' Q
theorem pgs_nil : PGs X [] gNil := by
  intro pins s σ H vs us Q I r h
  obtain ⟨e, h⟩ := h
  subst e
  cases r
  exact assignInOrder_nil ⟨σ, H, I, h⟩
theorem pgs_cons {e : Expr} {es : List Expr} {t : TG} {u : TGs} (h1 : PG X e t) (h2 : PGs X es u)
    (hs : (assignEach (e :: es) X.env).map (·.2) = assign e X.env :: (assignEach es X.env).map (·.2) := by rfl) : PGs X (e :: es) (gCons t u) := by
  intro pins s σ H vs us Q I r h
  obtain ⟨v, vr, e1, h⟩ := h
  subst e1
  cases r with
  | cons r rr =>
    rw [hs]
    refine assignInOrder_cons (thn (h1 pins s σ H _ _ _ I r h) fun _ s1 ⟨σ1, H1, I1, q1⟩ => ?_)
    exact h2 pins s1 σ1 H1 _ _ Q I1 rr q1
def gTup (K : PySem.W.Frag) (n : Nat) (t : TGs) : TG := fun v σ H Q => ∃ a xs, v = .ref a ∧ SqT K H a xs ∧ xs.length = n ∧ t xs σ H Q
theorem pg_tup {es : List Expr} {k : Nat} {t : TGs} {n : Nat} (hc : X.calm = true) (h : PGs X es t)
    (hn : (assignEach es X.env).length = n := by rfl) (hst : (assignEach es X.env).findIdx? (·.1) = none := by rfl) : PG X (.Tuple es k pos) (gTup X.K n t) := by
  intro pins s σ H v u Q I r hw
  obtain ⟨a, xs, e1, hq, hl, hw⟩ := hw
  subst e1
  cases r
  obtain ⟨its, rv, ht, hz⟩ := I.tuple hq
  refine assign_Tuple_tuple (I.ok.hd hc) ht (by simp [hn, ← hl, rv.length]) hst fun h' hx => ?_
  have I1 : Inv X pins σ H { s with heap := h' } := I.kept (t' := s.toks) fun b o e => hx b o (Nat.ne_of_lt (Heap.lt_size e)) e
  exact h pins _ σ H xs _ Q I1 (by simpa using rv) hw
def gSub (to ti : TE) (t : TSet) : TG := fun v σ H Q => to σ H fun o H1 => ti σ H1 fun i H2 => t o i v H2 fun H3 => Q σ H3
theorem pg_sub {o i : Expr} {to ti : TE} {t : TSet} (ho : PE X o to) (hi : PE X i ti) (hs : PSet X t)
    (ha : ∀ v, assign (.Subscript o i pos) X.env v = (do
      let ov ← holding [v] (eval o X.env)
      let iv ← holding [v, ov] (eval i X.env)
      standAt pos
      holding [v, ov, iv] (setItem ov iv v)
      release [v, ov, iv] []) := by intro _; rfl) : PG X (.Subscript o i pos) (gSub to ti t) := by
  intro pins s σ H v u Q I r h
  rw [ha]
  refine wpAny_bind (wpAny_holding (thn (ho pins s σ H _ I h) fun ov s1 ⟨x, H1, I1, r1, q1⟩ => ?_))
  refine wpAny_bind (wpAny_holding (thn (hi pins s1 σ H1 _ I1 q1) fun iv s2 ⟨y, H2, I2, r2, q2⟩ => ?_))
  refine wpAny_bind (wpAny_standAt (wpAny_bind (wpAny_holding (thn (hs pins s2 σ H2 x y v ov iv u _ I2 r1 r2 r q2) fun _ s3 ⟨H3, I3, q3⟩ => ?_))))
  exact wpAny_release ⟨σ, H3, I3, q3⟩
def tAsg (te : TE) (g : TG) : TS := fun D σ H => te σ H fun x H1 => g x σ H1 D.nx
theorem ps_asg {tg e : Expr} {te : TE} {g : TG} (he : PE X e te) (hg : PG X tg g) (hs : swapsWithSole [tg] e pos.line X.env = pure false := by rfl) (hw : swappedStores [tg] e X.env = pure none := by rfl)
    (h1 : (assignEach [tg] X.env).map (·.2) = [assign tg X.env] := by rfl) : PS X (.Assign [tg] e pos) (tAsg te g) := by
  intro pins s σ H D I h
  refine wpAny_Assign_stores (thn (he pins s σ H _ I h) fun v s1 ⟨x, H1, I1, r1, q1⟩ => ?_) hs hw
  rw [h1]
  exact thn (hg pins s1 σ H1 x v _ I1 r1 q1) fun _ s2 q => q
theorem ps_set {i : Nat} {x : Str} {e : Expr} {te : TE} {pos' : Pos} (hN : X.N.Nodup) (hi : X.N[i]? = some x) (hx : Loc X.env.scope x) (he : PE X e te) (hs : swapsWith e (some (.Name x pos')) pos.line X.env = pure false := by rfl) (hf : X.fn x = true ∨ X.env.scope.names.lookup x = some .local := by first | exact .inl rfl | exact .inr rfl | assumption) :
    PS X (.Assign [.Name x pos'] e pos) (tAsg te (gName i)) := by
  intro pins s σ H D I h
  refine wpAny_Assign_Name (thn (he pins s σ H _ I h) fun v s1 ⟨y, H1, I1, r1, q1⟩ => ?_) hs
  exact store_ok I1 hN hi hx r1 (fun s2 I2 => ⟨_, H1, I2, q1⟩) hf
end
section
variable {X : Cx} {pos : Pos}
end
structure It where
  go : Nat → Hp → Prop
  yld : Nat → Hp → V → Hp → Prop
  stop : Nat → Hp → Prop
def FpOk (X : Cx) (pins : List (Addr × Obj)) (H : Hp) (b : Addr) : Prop :=
  H b = none ∧ b ≠ X.env.locals ∧ b ∉ X.fs ∧ (b ∈ X.ex ∨ X.s₀.heap.objs.size ≤ b) ∧ (∀ x c, X.env.cells.lookup x = some c → c ≠ b) ∧ ∀ p ∈ X.pn ++ pins, p.1 ≠ b
theorem Inv.fpOk {X : Cx} {pins : List (Addr × Obj)} {σ : St} {H H' : Hp} {s : Shared} {b : Addr} (I : Inv X pins σ H s) (hb : s.heap.objs.size ≤ b) (hn : H' b = none) : FpOk X pins H' b := by
  refine ⟨hn, Nat.ne_of_gt (Nat.lt_of_lt_of_le I.lt hb), I.nofs hb, .inr (Nat.le_trans I.sz hb), fun x c e z => ?_, fun p hp z => ?_⟩
  · obtain ⟨v, q⟩ := I.cell x c e
    exact absurd (Nat.lt_of_lt_of_le q.lt (by rw [z]; exact hb)) (Nat.lt_irrefl _)
  · exact absurd (Nat.lt_of_lt_of_le (Heap.lt_size (I.pin p hp).1) (by rw [z]; exact hb)) (Nat.lt_irrefl _)
structure Turn (P : Program) (w : World) (K : PySem.W.Frag) (tg : Expr) (J : It) (fp : List Addr) (it : Addr) (tn : Nat → Heap → Prop) : Prop where
  mem : it ∈ fp
  obj : ∀ i h, tn i h → ∀ b ∈ fp, ∃ o, h.get? b = some o ∧ ∀ v, o.data ≠ .cell v
  keep : ∀ i h h', tn i h → (∀ b ∈ fp, ∀ o, h.get? b = some o → h'.get? b = some o) → tn i h'
  item : ∀ (X : Cx), X.prog = P → X.w = w → X.K = K → X.calm = true → ∀ (i : Nat) (pins : List (Addr × Obj)) (s : Shared) (σ : St) (H : Hp) (E : Value → Shared → Prop), Inv X pins σ H s → (∀ b ∈ fp, FpOk X pins H b) → tn i s.heap → J.go i H →
    wpAny (model P w) X.A (pyNext (.ref it)) (fun r s1 => ∃ u, r = some u ∧
      wpAny (model P w) X.A (letOwnedTupleGo tg (.ref it) u) (fun _ s2 => ∃ x H', Inv X pins σ H' s2 ∧ RelV x u ∧ J.yld i H x H' ∧ tn (i + 1) s2.heap ∧ ∀ b ∈ fp, H' b = none) E s1) E s
  done : ∀ (X : Cx), X.prog = P → X.w = w → X.K = K → X.calm = true → ∀ (i : Nat) (pins : List (Addr × Obj)) (s : Shared) (σ : St) (H : Hp) (E : Value → Shared → Prop), Inv X pins σ H s → (∀ b ∈ fp, FpOk X pins H b) → tn i s.heap → J.stop i H →
    wpAny (model P w) X.A (pyNext (.ref it)) (fun r s1 => r = none ∧ Inv X pins σ H s1) E s
  self : ∀ (A : Around) (i : Nat) (s : Shared) (Q : Value → Shared → Prop) (E : Value → Shared → Prop), tn i s.heap → Q (.ref it) s → wpAny (model P w) A (pyIter (.ref it)) Q E s
abbrev TI := St → Hp → (It → Hp → Prop) → Prop
def PIE (X : Cx) (pins : List (Addr × Obj)) (σ : St) (tg : Expr) (R : It → Hp → Prop) (itv : Value) (s2 : Shared) : Prop :=
  ∃ (it : Addr) (fp : List Addr) (tn : Nat → Heap → Prop) (J : It) (H' : Hp), itv = .ref it ∧ Inv X pins σ H' s2 ∧ Turn X.prog X.w X.K tg J fp it tn ∧ tn 0 s2.heap ∧ (∀ b ∈ fp, FpOk X pins H' b) ∧ R J H'
def PI (X : Cx) (tg iter : Expr) (wi : TI) : Prop :=
  ∀ (pins : List (Addr × Obj)) (s : Shared) (σ : St) (H : Hp) (R : It → Hp → Prop), Inv X pins σ H s → wi σ H R →
    wpAny (model X.prog X.w) X.A (eval iter X.env) (fun v s1 => wpAny (model X.prog X.w) X.A (pyIter v) (PIE X pins σ tg R) X.xe s1) X.xe s
theorem go_of {M : Model} {A : Around} {E : Value → Shared → Prop} {s : Shared} {tg : Expr} {it : Addr} {u : Value} {o : Obj} {n : String} {vs : Array Value} {Q : Unit → Shared → Prop} (ho : s.heap.get? it = some o) (hc : o.cls = .type n) (hd : o.data = .fields vs)
    (hn : ["enumerate", "zip", "dict_itemiterator", "dict_reverseitemiterator", "odict_iterator", "itertools.zip_longest", "itertools.pairwise"].contains n = false) (hQ : Q () s) : wpAny M A (letOwnedTupleGo tg (.ref it) u) Q E s := by
  unfold letOwnedTupleGo
  cases tg <;> first
    | exact wpAny_pure hQ
    | (cases u <;> first
        | exact wpAny_pure hQ
        | (refine wpAny_bind (wpAny_load ho ?_)
           rw [hc, hd]
           show wpAny M A (if (["enumerate", "zip", "dict_itemiterator", "dict_reverseitemiterator", "odict_iterator", "itertools.zip_longest", "itertools.pairwise"].contains n && vs[0]? == some (rawInt _)) = true then _ else _) Q E s
           rw [if_neg (by intro h; rw [hn, Bool.false_and] at h; cases h)]
           exact wpAny_pure hQ))
def Itl (K : PySem.W.Frag) (a : Addr) : It :=
  ⟨fun i H => ∃ xs x, SqL K H a xs ∧ xs[i]? = some x, fun i H x H' => H' = H ∧ ∀ xs, SqL K H a xs → xs[i]? = some x, fun i H => ∃ xs, SqL K H a xs ∧ xs.length ≤ i⟩
def Itt (K : PySem.W.Frag) (a : Addr) : It :=
  ⟨fun i H => ∃ xs x, SqT K H a xs ∧ xs[i]? = some x, fun i H x H' => H' = H ∧ ∀ xs, SqT K H a xs → xs[i]? = some x, fun i H => ∃ xs, SqT K H a xs ∧ xs.length ≤ i⟩
def Itr (lo : Int) (n : Nat) : It := ⟨fun i _ => i < n, fun i H x H' => H' = H ∧ x = .int (lo + i), fun i _ => n ≤ i⟩
theorem turn_list {P : Program} {w : World} {K : PySem.W.Frag} {tg : Expr} (a it : Addr) : Turn P w K tg (Itl K a) [it] it (fun i h => h.IsListIter it a i) where
  mem := by simp
  obj := fun i h st b hb => by
    have e : b = it := by simpa using hb
    subst e
    obtain ⟨o, e, c, d⟩ := st
    exact ⟨o, e, fun v z => by rw [d] at z; cases z⟩
  keep := fun i h h' st k => st.at fun o e => k it (by simp) o e
  item := by
    intro X hP hw hK hc i pins s σ H E I hf st hg
    subst hP hw hK
    obtain ⟨xs, x, hq, hx⟩ := hg
    obtain ⟨its, rv, p, hz⟩ := I.list hq
    obtain ⟨u, hu, ru⟩ := rv.get hx
    obtain ⟨f0, f1, f2, f3, f4, f5⟩ := hf it (by simp)
    refine wpAny_pyNext_list_item st p.isList (x := u) (by simpa using hu) fun h' st' sb => ?_
    have I1 : Inv X pins σ H { s with heap := h' } := I.turned (t' := s.toks) (fun b o hb e => (sb.2 b hb).trans e) f0 f1 f3 f4 f5
    obtain ⟨o, e, c, d⟩ := id st'
    exact ⟨u, rfl, go_of (s := { s with heap := h' }) e c d (by decide) ⟨x, H, I1, ru, ⟨rfl, fun ys hy => by rw [I.list_inj hy hq]; exact hx⟩, st', fun b hb => (hf b hb).1⟩⟩
  done := by
    intro X hP hw hK hc i pins s σ H E I hf st hg
    subst hP hw hK
    obtain ⟨xs, hq, hx⟩ := hg
    obtain ⟨its, rv, p, hz⟩ := I.list hq
    obtain ⟨f0, f1, f2, f3, f4, f5⟩ := hf it (by simp)
    have hl := rv.length
    exact wpAny_pyNext_list_end (I.ok.hd hc) st p.isList (by simp; omega) fun h' eb => ⟨rfl, I.turned (t' := s.toks) (fun b o hb e => eb b o hb e) f0 f1 f3 f4 f5⟩
  self := fun _ _ _ _ _ st h => wpAny_pyIter_listiter st h
theorem turn_tuple {P : Program} {w : World} {K : PySem.W.Frag} {tg : Expr} (a it : Addr) : Turn P w K tg (Itt K a) [it] it (fun i h => h.IsTupleIter it a i) where
  mem := by simp
  obj := fun i h st b hb => by
    have e : b = it := by simpa using hb
    subst e
    obtain ⟨o, e, c, d⟩ := st
    exact ⟨o, e, fun v z => by rw [d] at z; cases z⟩
  keep := fun i h h' st k => st.at fun o e => k it (by simp) o e
  item := by
    intro X hP hw hK hc i pins s σ H E I hf st hg
    subst hP hw hK
    obtain ⟨xs, x, hq, hx⟩ := hg
    obtain ⟨its, rv, p, hz⟩ := I.tuple hq
    obtain ⟨u, hu, ru⟩ := rv.get hx
    obtain ⟨f0, f1, f2, f3, f4, f5⟩ := hf it (by simp)
    refine wpAny_pyNext_tuple_item st (show s.heap.IsTuple a its.toArray from p) (x := u) (by simpa using hu) fun h' st' sb => ?_
    have I1 : Inv X pins σ H { s with heap := h' } := I.turned (t' := s.toks) (fun b o hb e => (sb.2 b hb).trans e) f0 f1 f3 f4 f5
    obtain ⟨o, e, c, d⟩ := id st'
    exact ⟨u, rfl, go_of (s := { s with heap := h' }) e c d (by decide) ⟨x, H, I1, ru, ⟨rfl, fun ys hy => by rw [I.tuple_inj hy hq]; exact hx⟩, st', fun b hb => (hf b hb).1⟩⟩
  done := by
    intro X hP hw hK hc i pins s σ H E I hf st hg
    subst hP hw hK
    obtain ⟨xs, hq, hx⟩ := hg
    obtain ⟨its, rv, p, hz⟩ := I.tuple hq
    obtain ⟨f0, f1, f2, f3, f4, f5⟩ := hf it (by simp)
    have hl := rv.length
    exact wpAny_pyNext_tuple_end (I.ok.hd hc) st (show s.heap.IsTuple a its.toArray from p) (by simp; omega) fun h' eb => ⟨rfl, I.turned (t' := s.toks) (fun b o hb e => eb b o hb e) f0 f1 f3 f4 f5⟩
  self := fun _ _ _ _ _ st h => wpAny_pyIter_tupleiter st h
theorem turn_range {P : Program} {w : World} {K : PySem.W.Frag} {tg : Expr} (it : Addr) (lo : Int) (n : Nat) : Turn P w K tg (Itr lo n) [it] it (fun i h => IsRangeIter h it (lo + (i : Nat) * 1) ((n : Int) - (i : Nat)) 1) where
  mem := by simp
  obj := fun i h st b hb => by
    have e : b = it := by simpa using hb
    subst e
    exact ⟨_, st, fun v z => by
      have z' : Data.fields _ = Data.cell v := z
      cases z'⟩
  keep := fun i h h' st k => k it (by simp) _ st
  item := by
    intro X hP hw hK hc i pins s σ H E I hf st hg
    subst hP hw hK
    obtain ⟨f0, f1, f2, f3, f4, f5⟩ := hf it (by simp)
    have W := Walks.range (prog := X.prog) (w := X.w) (I.ok.hd hc) it lo 1 n
    refine W.item i s _ _ hg st fun v h' tk hv st' kk => ?_
    obtain ⟨t, rfl⟩ := hv
    have I1 : Inv X pins σ H { s with heap := h', toks := tk } := I.turned (fun b o hb e => kk b o (by simpa using hb) e) f0 f1 f3 f4 f5
    refine ⟨_, rfl, go_of (s := { s with heap := h', toks := tk }) (n := "range_iterator") st' rfl rfl (by decide) ⟨.int (lo + i), H, I1, ⟨t, ?_⟩, ⟨rfl, rfl⟩, st', fun b hb => (hf b hb).1⟩⟩
    rw [Int.mul_one]
  done := by
    intro X hP hw hK hc i pins s σ H E I hf st hg
    subst hP hw hK
    obtain ⟨f0, f1, f2, f3, f4, f5⟩ := hf it (by simp)
    exact wpAny_pyNext_range_end (I.ok.hd hc) st (by have : n ≤ i := hg; omega) fun h' eb => ⟨rfl, I.turned (t' := s.toks) (fun b o hb e => eb b o hb e) f0 f1 f3 f4 f5⟩
  self := fun _ _ _ _ _ st h => wpAny_pyIter_rangeiter st h
end L2
namespace L2
open PySem PySem.Spec PyProof.Rows
section
variable {X : Cx} {tg : Expr}
theorem range_it {pins : List (Addr × Obj)} {σ : St} {H : Hp} {s : Shared} {R : It → Hp → Prop} {E : Value → Shared → Prop} {lo hi : Int} {t u v : Tok} {tk : Nat} (I : Inv X pins σ H s) (h1 : -(2 ^ 62) ≤ lo) (h2 : lo < 2 ^ 62) (h3 : -(2 ^ 62) ≤ hi) (h4 : hi < 2 ^ 62)
    (q : R (Itr lo (hi - lo).toNat) H) : wpAny (model X.prog X.w) X.A (pyIter (.ref s.heap.objs.size)) (PIE X pins σ tg R) E { s with heap := s.heap.push { cls := .type "range", data := .fields #[.int lo t, .int hi u, .int 1 v] }, toks := tk } := by
  refine wpAny_pyIter_range (IsRange.new ..) (small_one h1 h2 h3 h4) ?_
  have I1 : Inv X pins σ H { s with heap := s.heap.push { cls := .type "range", data := .fields #[.int lo t, .int hi u, .int 1 v] }, toks := tk } := I.kept fun b o e => Heap.get?_push_of_some _ e
  refine ⟨(s.heap.push { cls := .type "range", data := .fields #[.int lo t, .int hi u, .int 1 v] }).objs.size, [(s.heap.push { cls := .type "range", data := .fields #[.int lo t, .int hi u, .int 1 v] }).objs.size], _, _, H, rfl,
    I1.kept (t' := tk) fun b o e => Heap.get?_push_of_some _ e, turn_range _ lo (hi - lo).toNat, ?_, fun b hb => ?_, q⟩
  · have e1 : lo + ((0 : Nat) : Int) * 1 = lo := by simp
    have e2 : (((hi - lo).toNat : Nat) : Int) - ((0 : Nat) : Int) = Builtin.Range.rangeSize lo hi 1 := by rw [rangeSize_one]; split <;> omega
    show IsRangeIter _ _ (lo + ((0 : Nat) : Int) * 1) ((((hi - lo).toNat : Nat) : Int) - ((0 : Nat) : Int)) 1
    rw [e1, e2]
    exact Heap.get?_push_size _ rfl
  · have e : b = (s.heap.push { cls := .type "range", data := .fields #[.int lo t, .int hi u, .int 1 v] }).objs.size := by simpa using hb
    subst e
    exact I1.fpOk (Nat.le_refl _) (I1.hok.fresh (Nat.le_refl _))
def iRng1 (ta : TA) : TI := fun σ H R => ta σ H fun vs H1 => ∃ j : Int, vs = [.int j] ∧ -(2 ^ 62) ≤ j ∧ j < 2 ^ 62 ∧ R (Itr 0 j.toNat) H1
theorem pi_range1 {a : Expr} {ta : TA} {p pos : Pos} (hg : Gl X "range") (hm : X.mg "range" = none) (ha : PA X [a] ta) (hs : starEach [a] X.env = [(false, eval a X.env)] := by rfl) : PI X tg (.Call (.Name "range" p) [a] [] pos) (iRng1 ta) := by
  intro pins s σ H R I h
  refine Call_ (ld_blt I hg hm boot_range (PyProof.Rows.callWith_type1 (thn (ha pos pins s σ H _ I h) fun us s1 ⟨vs, H1, I1, r1, q1⟩ => ?_) hs rfl))
  obtain ⟨j, e, q1, q2, q⟩ := q1
  subst e
  cases r1 with
  | cons r rr =>
    cases rr
    obtain ⟨t, rfl⟩ := r
    exact call_range_1 (range_it I1 (by omega) (by omega) q1 q2 (by simpa using q))
def tFor (wi : TI) (g : TG) (tb : TS) : TS := fun D σ H => wi σ H fun J H1 => ∃ W : Nat → Nat → St → Hp → Prop, (∃ m, W 0 m σ H1) ∧ ∀ i m σ H, W i m σ H →
  (J.stop i H ∧ D.nx σ H) ∨ (J.go i H ∧ ∃ N : St → Hp → Prop, (∀ σ' H', N σ' H' → ∃ m', m' < m ∧ W (i + 1) m' σ' H') ∧ ∀ x H', J.yld i H x H' → g x σ H' fun σ2 H2 => tb { D with nx := N, ct := N, bk := D.nx } σ2 H2)
def pinsAt (fp : List Addr) (h : Heap) : List (Addr × Obj) := fp.filterMap fun b => (h.get? b).map fun o => (b, o)
theorem mem_pinsAt {fp : List Addr} {h : Heap} {b : Addr} {o : Obj} (hb : b ∈ fp) (e : h.get? b = some o) : (b, o) ∈ pinsAt fp h := List.mem_filterMap.mpr ⟨b, hb, by rw [e]; rfl⟩
theorem of_pinsAt {fp : List Addr} {h : Heap} {p : Addr × Obj} (hp : p ∈ pinsAt fp h) : p.1 ∈ fp ∧ h.get? p.1 = some p.2 := by
  obtain ⟨b, hb, e⟩ := List.mem_filterMap.mp hp
  cases q : h.get? b with
  | none => rw [q] at e; cases e
  | some o =>
    rw [q] at e
    have e' : (b, o) = p := Option.some.inj e
    subst e'
    exact ⟨hb, q⟩
theorem Inv.pinned {pins : List (Addr × Obj)} {σ : St} {H : Hp} {s : Shared} {fp : List Addr} (I : Inv X pins σ H s) (hf : ∀ b ∈ fp, FpOk X pins H b) (ho : ∀ b ∈ fp, ∃ o, s.heap.get? b = some o ∧ ∀ v, o.data ≠ .cell v) : Inv X (pins ++ pinsAt fp s.heap) σ H s :=
  I.pins_of fun p hp => (List.mem_append.mp hp).elim (fun z => I.pin p (List.mem_append_right _ z)) fun z => by
    obtain ⟨hb, e⟩ := of_pinsAt z
    obtain ⟨f0, f1, f2, _⟩ := hf p.1 hb
    obtain ⟨o, e', d⟩ := ho p.1 hb
    rw [e] at e'; cases e'
    exact ⟨e, f0, f1, f2, d⟩
theorem Inv.unpinned {pins pl : List (Addr × Obj)} {σ : St} {H : Hp} {s : Shared} (I : Inv X (pins ++ pl) σ H s) : Inv X pins σ H s := I.pins_of fun p hp => I.pin p (List.mem_append_right _ (List.mem_append_left _ hp))
theorem ps_for {iter : Expr} {body : List Stmt} {wi : TI} {g : TG} {tb : TS} {pos : Pos} (hp : PassesOwn (model X.prog X.w) X.A X.env X.xe) (hc : X.calm = true) (hi : PI X tg iter wi) (hg : PG X tg g) (hb : PSs X body tb)
    (hs : ∀ x, foldedSetIterable iter X.env x = pure x := by intro _; rfl) : PS X (.For tg iter body [] pos) (tFor wi g tb) := by
  intro pins s σ H D I h
  refine wpAny_For (thn (hi pins s σ H _ I h) fun v s1 h1 => thn h1 fun itv s2 h2 => ?_) hs
  obtain ⟨it, fp, tn, J, H2, e, I2, T, st2, f2, W, ⟨m0, w0⟩, turn⟩ := h2
  subst e
  have stat : ∀ {H' : Hp}, (∀ b ∈ fp, H' b = none) → ∀ b ∈ fp, FpOk X pins H' b := fun hn b hb => ⟨hn b hb, (f2 b hb).2⟩
  refine codeAny_forLoop_any (fun n s' => ∃ i σ' H', Inv X pins σ' H' s' ∧ tn i s'.heap ∧ (∀ b ∈ fp, H' b = none) ∧ W i n σ' H') ?_ m0 ⟨0, σ, H2, I2, st2, fun b hb => (f2 b hb).1, w0⟩
  rintro n s3 ⟨i, σ3, H3, I3, st3, fr3, w3⟩
  rcases turn i n σ3 H3 w3 with ⟨stop, qn⟩ | ⟨go, N, hN, step⟩
  · refine wpAny_passesOwn hp (thn (T.done X rfl rfl rfl hc i pins s3 σ3 H3 X.xe I3 (stat fr3) st3 stop) fun r s4 ⟨hr, I4⟩ => ?_)
    subst hr
    exact wpAny_execs_nil ⟨σ3, H3, I4, qn⟩
  · refine wpAny_passesOwn hp (thn (T.item X rfl rfl rfl hc i pins s3 σ3 H3 X.xe I3 (stat fr3) st3 go) fun r s4 ⟨u, hr, h4⟩ => ?_)
    subst hr
    refine wpAny_passesOwn hp (thn h4 fun _ s5 ⟨x, H5, I5, r5, y5, st5, fr5⟩ => ?_)
    have I5' := I5.pinned (stat fr5) (T.obj _ _ st5)
    refine wpAny_passesOwn hp (thn (hg _ s5 σ3 H5 x u _ I5' r5 (step x H5 y5)) fun _ s6 ⟨σ6, H6, I6, q6⟩ => ?_)
    refine wpAny_passesOwn hp (thn (hb _ s6 σ6 H6 _ I6 q6) fun f s7 q7 => ?_)
    have again : ∀ {σ7 : St} {H7 : Hp}, Inv X (pins ++ pinsAt fp s5.heap) σ7 H7 s7 → N σ7 H7 → ∃ m, m < n ∧ ∃ i σ' H', Inv X pins σ' H' s7 ∧ tn i s7.heap ∧ (∀ b ∈ fp, H' b = none) ∧ W i m σ' H' := fun {σ7 H7} I7 n7 => by
      obtain ⟨m', hm, w7⟩ := hN σ7 H7 n7
      refine ⟨m', hm, i + 1, σ7, H7, I7.unpinned, T.keep _ _ _ st5 fun b hb o e => (I7.pin (b, o) (List.mem_append_right _ (List.mem_append_right _ (mem_pinsAt hb e)))).1, fun b hb => ?_, w7⟩
      obtain ⟨o, e, d⟩ := T.obj _ _ st5 b hb
      exact (I7.pin (b, o) (List.mem_append_right _ (List.mem_append_right _ (mem_pinsAt hb e)))).2.1
    cases f with
    | next => obtain ⟨σ7, H7, I7, n7⟩ := q7; exact again I7 n7
    | cont => obtain ⟨σ7, H7, I7, n7⟩ := q7; exact again I7 n7
    | brk => obtain ⟨σ7, H7, I7, q7⟩ := q7; exact ⟨σ7, H7, I7.unpinned, q7⟩
    | ret v => obtain ⟨x7, σ7, H7, I7, r7, q7⟩ := q7; exact ⟨x7, σ7, H7, I7.unpinned, r7, q7⟩
end
theorem for_list {K : PySem.W.Frag} {a : Addr} {xs : List V} {g : TG} {tb : TS} {D : Ends} {σ : St} {H : Hp} (Pv : Nat → St → Hp → Prop) (h0 : Pv 0 σ H) (hl : ∀ i σ H, i ≤ xs.length → Pv i σ H → SqL K H a xs)
    (hs : ∀ i x σ H, xs[i]? = some x → Pv i σ H → g x σ H fun σ2 H2 => tb { D with nx := Pv (i + 1), ct := Pv (i + 1), bk := D.nx } σ2 H2) (hd : ∀ σ H, Pv xs.length σ H → D.nx σ H) :
    ∃ W : Nat → Nat → St → Hp → Prop, (∃ m, W 0 m σ H) ∧ ∀ i m σ H, W i m σ H →
      ((Itl K a).stop i H ∧ D.nx σ H) ∨ ((Itl K a).go i H ∧ ∃ N : St → Hp → Prop, (∀ σ' H', N σ' H' → ∃ m', m' < m ∧ W (i + 1) m' σ' H') ∧ ∀ x H', (Itl K a).yld i H x H' → g x σ H' fun σ2 H2 => tb { D with nx := N, ct := N, bk := D.nx } σ2 H2) := by
  refine ⟨fun i m σ H => m = xs.length - i ∧ i ≤ xs.length ∧ Pv i σ H, ⟨xs.length, by simp, Nat.zero_le _, h0⟩, ?_⟩
  rintro i m σ H ⟨rfl, hi, p⟩
  have q := hl i σ H hi p
  by_cases hlt : i < xs.length
  · refine .inr ⟨⟨xs, xs[i], q, by simp [hlt]⟩, Pv (i + 1), fun σ' H' p' => ⟨xs.length - (i + 1), by omega, rfl, hlt, p'⟩, fun x H' y => ?_⟩
    obtain ⟨e, y⟩ := y
    subst e
    exact hs i x σ _ (y xs q) p
  · have e : i = xs.length := by omega
    subst e
    exact .inl ⟨⟨xs, q, Nat.le_refl _⟩, hd σ H p⟩
theorem for_range {lo : Int} {n : Nat} {g : TG} {tb : TS} {D : Ends} {σ : St} {H : Hp} (Pv : Nat → St → Hp → Prop) (h0 : Pv 0 σ H)
    (hs : ∀ i σ H, i < n → Pv i σ H → g (.int (lo + i)) σ H fun σ2 H2 => tb { D with nx := Pv (i + 1), ct := Pv (i + 1), bk := D.nx } σ2 H2) (hd : ∀ σ H, Pv n σ H → D.nx σ H) :
    ∃ W : Nat → Nat → St → Hp → Prop, (∃ m, W 0 m σ H) ∧ ∀ i m σ H, W i m σ H →
      ((Itr lo n).stop i H ∧ D.nx σ H) ∨ ((Itr lo n).go i H ∧ ∃ N : St → Hp → Prop, (∀ σ' H', N σ' H' → ∃ m', m' < m ∧ W (i + 1) m' σ' H') ∧ ∀ x H', (Itr lo n).yld i H x H' → g x σ H' fun σ2 H2 => tb { D with nx := N, ct := N, bk := D.nx } σ2 H2) := by
  refine ⟨fun i m σ H => m = n - i ∧ i ≤ n ∧ Pv i σ H, ⟨n, by simp, Nat.zero_le _, h0⟩, ?_⟩
  rintro i m σ H ⟨rfl, hi, p⟩
  by_cases hlt : i < n
  · refine .inr ⟨hlt, Pv (i + 1), fun σ' H' p' => ⟨n - (i + 1), by omega, rfl, hlt, p'⟩, fun x H' y => ?_⟩
    obtain ⟨e, y⟩ := y
    subst e y
    exact hs i σ _ hlt p
  · have e : i = n := by omega
    subst e
    exact .inl ⟨Nat.le_refl _, hd σ H p⟩
end L2
namespace L2
open PySem PySem.Spec PyProof.Rows
abbrev R2 := V → V → Hp → VK → Prop
def OpR (X : Cx) (f : Value → Value → Sem Value) (r : R2) : Prop :=
  ∀ (pins : List (Addr × Obj)) (s : Shared) (σ : St) (H : Hp) (x y : V) (v u : Value) (Q : VK), Inv X pins σ H s → RelV x v → RelV y u → r x y H Q →
    wpAny (model X.prog X.w) X.A (f v u) (EP X pins σ Q) X.xe s
def UnR (X : Cx) (f : Value → Sem Value) (r : V → Hp → VK → Prop) : Prop :=
  ∀ (pins : List (Addr × Obj)) (s : Shared) (σ : St) (H : Hp) (x : V) (v : Value) (Q : VK), Inv X pins σ H s → RelV x v → r x H Q →
    wpAny (model X.prog X.w) X.A (f v) (EP X pins σ Q) X.xe s
def CallR (X : Cx) (f : Value) (r : List V → Hp → VK → Prop) : Prop :=
  ∀ (pins : List (Addr × Obj)) (s : Shared) (σ : St) (H : Hp) (xs : List V) (us : List Value) (Q : VK), Inv X pins σ H s → Vals xs us → r xs H Q →
    wpAny (model X.prog X.w) X.A (call f us) (EP X pins σ Q) X.xe s
def tOp (r : R2) (ta tb : TE) : TE := fun σ H Q => ta σ H fun x H1 => tb σ H1 fun y H2 => r x y H2 Q
def tUn (r : V → Hp → VK → Prop) (ta : TE) : TE := fun σ H Q => ta σ H fun x H1 => r x H1 Q
def rI (C : Int → Int → Prop) (g : Int → Int → V) : R2 := fun x y H Q => ∃ i j, x = .int i ∧ y = .int j ∧ C i j ∧ Q (g i j) H
def rI0 (g : Int → Int → V) : R2 := fun x y H Q => ∃ i j, x = .int i ∧ y = .int j ∧ Q (g i j) H
def rU (g : Int → V) : V → Hp → VK → Prop := fun x H Q => ∃ i, x = .int i ∧ Q (g i) H
section
variable {X : Cx} {a b c : Expr} {ta tb tc : TE} {pos : Pos}
theorem binT (ha : PE X a ta) (hb : PE X b tb) {pins : List (Addr × Obj)} {s : Shared} {σ : St} {H : Hp} {R : V → V → Hp → Prop} (I : Inv X pins σ H s)
    (h : ta σ H fun x H1 => tb σ H1 fun y H2 => R x y H2) {Q : Value → Shared → Prop} {f : Value → Value → Sem Value}
    (hf : ∀ v u s2 x y H2, Inv X pins σ H2 s2 → RelV x v → RelV y u → R x y H2 → wpAny (model X.prog X.w) X.A (f v u) Q X.xe s2) :
    wpAny (model X.prog X.w) X.A (eval a X.env) (fun v s₁ => wpAny (model X.prog X.w) X.A (eval b X.env) (fun u s₂ => wpAny (model X.prog X.w) X.A (f v u) Q X.xe s₂) X.xe s₁) X.xe s := by
  refine thn (ha pins s σ H _ I h) fun v s1 ⟨x, H1, I1, r1, q1⟩ => ?_
  refine thn (hb pins s1 σ H1 _ I1 q1) fun u s2 ⟨y, H2, I2, r2, q2⟩ => ?_
  exact hf v u s2 x y H2 I2 r1 r2 q2
theorem pe_op {op : Operator} {r : R2} (ho : OpR X (binaryOp op) r) (ha : PE X a ta) (hb : PE X b tb) : PE X (.BinOp a op b pos) (tOp r ta tb) := by
  intro pins s σ H Q I h
  exact wpAny_BinOp (binT ha hb I h fun v u s2 x y H2 I2 rx ry q => ho pins s2 σ H2 x y v u Q I2 rx ry q)
theorem pe_un {op : UnaryOp} {r : V → Hp → VK → Prop} (ho : UnR X (unaryOp op) r) (ha : PE X a ta) : PE X (.UnaryOp op a pos) (tUn r ta) := by
  intro pins s σ H Q I h
  exact UnaryOp_ (thn (ha pins s σ H _ I h) fun v s1 ⟨x, H1, I1, r1, q1⟩ => ho pins s1 σ H1 x v Q I1 r1 q1)
theorem opI {f : Value → Value → Sem Value} {C : Int → Int → Prop} {g : Int → Int → Int}
    (rule : ∀ (i j : Int) (t u : Tok) (s : Shared) (Q : Value → Shared → Prop) (E : Value → Shared → Prop), C i j → Q (.int (g i j) s.toks) { s with toks := s.toks + 1 } → wpAny (model X.prog X.w) X.A (f (.int i t) (.int j u)) Q E s) :
    OpR X f (rI C fun i j => .int (g i j)) := by
  intro pins s σ H x y v u Q I rx ry h
  obtain ⟨i, j, rfl, rfl, hc, q⟩ := h
  obtain ⟨t, rfl⟩ := rx
  obtain ⟨t', rfl⟩ := ry
  exact rule i j t t' s _ _ hc ⟨.int (g i j), H, I.tok _, ⟨_, rfl⟩, q⟩
theorem opI0 {f : Value → Value → Sem Value} {g : Int → Int → Int}
    (rule : ∀ (i j : Int) (t u : Tok) (s : Shared) (Q : Value → Shared → Prop) (E : Value → Shared → Prop), Q (.int (g i j) s.toks) { s with toks := s.toks + 1 } → wpAny (model X.prog X.w) X.A (f (.int i t) (.int j u)) Q E s) :
    OpR X f (rI0 fun i j => .int (g i j)) := by
  intro pins s σ H x y v u Q I rx ry h
  obtain ⟨i, j, rfl, rfl, q⟩ := h
  obtain ⟨t, rfl⟩ := rx
  obtain ⟨t', rfl⟩ := ry
  exact rule i j t t' s _ _ ⟨.int (g i j), H, I.tok _, ⟨_, rfl⟩, q⟩
theorem opB0 {f : Value → Value → Sem Value} {g : Int → Int → Bool}
    (rule : ∀ (i j : Int) (t u : Tok) (s : Shared) (Q : Value → Shared → Prop) (E : Value → Shared → Prop), Q (.bool (g i j)) s → wpAny (model X.prog X.w) X.A (f (.int i t) (.int j u)) Q E s) :
    OpR X f (rI0 fun i j => .bl (g i j)) := by
  intro pins s σ H x y v u Q I rx ry h
  obtain ⟨i, j, rfl, rfl, q⟩ := h
  obtain ⟨t, rfl⟩ := rx
  obtain ⟨t', rfl⟩ := ry
  exact rule i j t t' s _ _ ⟨.bl (g i j), H, I, rfl, q⟩
def CDiv (i j : Int) : Prop := 0 < j ∧ j < 1073741824
def CPow (i j : Int) : Prop := 0 ≤ j ∧ j ≤ 1000000 ∧ i.natAbs < 2 ^ 64
def CMul (i j : Int) : Prop := (-(2 ^ 64) < i ∧ i < 2 ^ 64) ∨ (-(2 ^ 64) < j ∧ j < 2 ^ 64)
theorem CMul.ok {i j : Int} (h : CMul i j) : IntMulOk i j := by
  rcases h with ⟨h1, h2⟩ | ⟨h1, h2⟩
  · exact .of_left (intBits_le_64 h1 h2)
  · exact .of_right (intBits_le_64 h1 h2)
theorem op_add : OpR X (binaryOp .Add) (rI0 fun i j => .int (i + j)) := opI0 fun _ _ _ _ _ _ _ q => add_int q
theorem op_mul : OpR X (binaryOp .Mult) (rI CMul fun i j => .int (i * j)) := opI fun _ _ _ _ _ _ _ hc q => mul_int q hc.ok
theorem op_fdiv : OpR X (binaryOp .FloorDiv) (rI CDiv fun i j => .int (i / j)) := opI fun i j _ _ _ _ _ hc q => by
  have h1 : (0 : Int) < j := hc.1
  have h2 : j < 1073741824 := hc.2
  exact floordiv_int (by omega) (by rw [Int.fdiv_eq_ediv_of_nonneg i (by omega)]; exact q) (.inl (PyProof.noPylong_small (by omega)))
theorem op_mod : OpR X (binaryOp .Mod) (rI (fun _ j => 0 < j) fun i j => .int (i % j)) := opI fun i j _ _ _ _ _ hc q => by
  have h1 : (0 : Int) < j := hc
  exact mod_int' (by omega) (by rw [Int.fmod_eq_emod_of_nonneg i (by omega)]; exact q)
theorem op_pow : OpR X (binaryOp .Pow) (rI CPow fun i j => .int (i ^ j.toNat)) := opI fun _ _ _ _ _ _ _ hc q => pow_int_small hc.1 hc.2.1 hc.2.2 q
theorem unI {f : Value → Sem Value} {g : Int → Int}
    (rule : ∀ (i : Int) (t : Tok) (s : Shared) (Q : Value → Shared → Prop) (E : Value → Shared → Prop), Q (.int (g i) s.toks) { s with toks := s.toks + 1 } → wpAny (model X.prog X.w) X.A (f (.int i t)) Q E s) :
    UnR X f (rU fun i => .int (g i)) := by
  intro pins s σ H x v Q I rx h
  obtain ⟨i, rfl, q⟩ := h
  obtain ⟨t, rfl⟩ := rx
  exact rule i t s _ _ ⟨.int (g i), H, I.tok _, ⟨_, rfl⟩, q⟩
theorem un_neg : UnR X (unaryOp .USub) (rU fun i => .int (-i)) := unI fun _ _ _ _ _ q => neg_int q
end
def scal : V → V → Bool
  | .non, .non => true | .non, .int _ => true | .int _, .non => true | .non, .bl _ => true | .bl _, .non => true | .non, .str _ => true | .str _, .non => true
  | .int _, .int _ => true | .bl _, .bl _ => true | .str _, .str _ => true | .byt _, .byt _ => true
  | .int _, .str _ => true | .str _, .int _ => true | .bl _, .str _ => true | .str _, .bl _ => true
  | _, _ => false
def rEq : R2 := fun x y H Q => scal x y = true ∧ Q (.bl (decide (x = y))) H
theorem dec_bl {i j : Bool} : decide (V.bl i = V.bl j) = (i == j) := by
  rw [Bool.eq_iff_iff]
  simp
section
variable {X : Cx} {a b c : Expr} {ta tb tc : TE} {pos : Pos}
theorem fin_bl {pins : List (Addr × Obj)} {σ : St} {H : Hp} {s : Shared} {Q : VK} {k k' : Bool} (I : Inv X pins σ H s) (q : Q (.bl k) H) (e : k = k') : EP X pins σ Q (.bool k') s := by
  subst e
  exact ⟨.bl k, H, I, rfl, q⟩
theorem op_lt : OpR X (compareOp .Lt) (rI0 fun i j => .bl (decide (i < j))) := opB0 fun _ _ _ _ _ _ _ q => lt_int q
theorem op_le : OpR X (compareOp .LtE) (rI0 fun i j => .bl (decide (i ≤ j))) := opB0 fun _ _ _ _ _ _ _ q => le_int q
theorem op_gt : OpR X (compareOp .Gt) (rI0 fun i j => .bl (decide (j < i))) := opB0 fun _ _ _ _ _ _ _ q => gt_int q
theorem op_ge : OpR X (compareOp .GtE) (rI0 fun i j => .bl (decide (j ≤ i))) := opB0 fun _ _ _ _ _ _ _ q => ge_int q
theorem op_isN : OpR X (compareOp .Is) (fun x y H Q => y = .non ∧ Q (.bl (decide (x = .non))) H) := by
  intro pins s σ H x y v u Q I rx ry h
  obtain ⟨rfl, q⟩ := h
  cases ry
  refine is_none_gen (fin_bl I q ?_)
  cases x <;> first
    | (cases rx; rfl)
    | (obtain ⟨t, rfl⟩ := rx; rfl)
theorem nomark (b : Expr) {op : CmpOp} (h : op ≠ .In := by decide) (h2 : op ≠ .NotIn := by decide) : behindInMarks op b = false := by
  have e1 : (op == CmpOp.In) = false := by cases op <;> first | rfl | exact absurd rfl h
  have e2 : (op == CmpOp.NotIn) = false := by cases op <;> first | rfl | exact absurd rfl h2
  cases b <;> simp [behindInMarks, e1, e2]
theorem pe_cmpR {op : CmpOp} {r : R2} (ho : OpR X (compareOp op) r) (ha : PE X a ta) (hb : PE X b tb) (hm : behindInMarks op b = false) : PE X (.Compare a [op] [b] pos) (tOp r ta tb) := by
  intro pins s σ H Q I h
  exact wpAny_Compare1 (binT ha hb I h fun v u s2 x y H2 I2 rx ry q => ho pins s2 σ H2 x y v u Q I2 rx ry q) hm
def tTest (t : TE) : TT := fun σ H Q => t σ H fun x H' => ∃ k, x = .bl k ∧ Q k H'
theorem pt_cmpR {op : CmpOp} {r : R2} (ho : OpR X (compareOp op) r) (ha : PE X a ta) (hb : PE X b tb) (hm : behindInMarks op b = false) : PT X (.Compare a [op] [b] pos) (tTest (tOp r ta tb)) := by
  intro pins s σ H Q I h
  refine wpAny_isTrue_Compare1 (thn (ha pins s σ H _ I h) fun v s1 ⟨x, H1, I1, r1, q1⟩ => thn (hb pins s1 σ H1 _ I1 q1) fun u s2 ⟨y, H2, I2, r2, q2⟩ =>
    thn (ho pins s2 σ H2 x y v u _ I2 r1 r2 q2) fun c s3 ⟨z, H3, I3, r3, k, e, q3⟩ => ?_) hm
  subst e
  cases r3
  exact wpAny_truthy_bool ⟨H3, I3, q3⟩
def tChain (r r' : R2) (ta tb tc : TE) : TE := fun σ H Q => ta σ H fun x H1 => tb σ H1 fun y H2 => r x y H2 fun z H3 => ∃ k, z = .bl k ∧
  (if k = true then tc σ H3 fun w' H4 => r' y w' H4 Q else Q (.bl false) H3)
theorem pe_chain {op op' : CmpOp} {r r' : R2} (ho : OpR X (compareOp op) r) (ho' : OpR X (compareOp op') r') (ha : PE X a ta) (hb : PE X b tb) (hc : PE X c tc)
    (hm : lastMarks [op, op'] [b, c] = false := by with_unfolding_all rfl) : PE X (.Compare a [op, op'] [b, c] pos) (tChain r r' ta tb tc) := by
  intro pins s σ H Q I h
  refine Compare_chain (thn (ha pins s σ H _ I h) fun v s1 ⟨x, H1, I1, r1, q1⟩ => chain_link (thn (hb pins s1 σ H1 _ I1 q1) fun u s2 ⟨y, H2, I2, r2, q2⟩ =>
    thn (ho pins s2 σ H2 x y v u _ I2 r1 r2 q2) fun d s3 ⟨z, H3, I3, r3, k, e, q3⟩ => ?_)) hm
  subst e
  cases r3
  refine wpAny_truthy_bool ?_
  cases k with
  | false => exact ite_ff ⟨.bl false, H3, I3, rfl, q3⟩
  | true => exact ite_tt (chain_last (thn (hc pins s3 σ H3 _ I3 q3) fun w' s4 ⟨z', H4, I4, r4, q4⟩ => ho' pins s4 σ H4 y z' u w' Q I4 r2 r4 q4))
theorem pt_chain {op op' : CmpOp} {r r' : R2} (ho : OpR X (compareOp op) r) (ho' : OpR X (compareOp op') r') (ha : PE X a ta) (hb : PE X b tb) (hc : PE X c tc)
    (hm : lastMarks [op, op'] [b, c] = false := by with_unfolding_all rfl) : PT X (.Compare a [op, op'] [b, c] pos) (tTest (tChain r r' ta tb tc)) := by
  intro pins s σ H Q I h
  refine isTrue_chain (thn (ha pins s σ H _ I h) fun v s1 ⟨x, H1, I1, r1, q1⟩ => test_link (thn (hb pins s1 σ H1 _ I1 q1) fun u s2 ⟨y, H2, I2, r2, q2⟩ =>
    thn (ho pins s2 σ H2 x y v u _ I2 r1 r2 q2) fun d s3 ⟨z, H3, I3, r3, k, e, q3⟩ => ?_)) hm
  subst e
  cases r3
  refine wpAny_truthy_bool ?_
  cases k with
  | false =>
    obtain ⟨k', e', q'⟩ := q3
    cases e'
    exact ite_ff ⟨H3, I3, q'⟩
  | true =>
    refine ite_tt (test_last (thn (hc pins s3 σ H3 _ I3 q3) fun w' s4 ⟨z', H4, I4, r4, q4⟩ => thn (ho' pins s4 σ H4 y z' u w' _ I4 r2 r4 q4) fun d' s5 ⟨z2, H5, I5, r5, k2, e2, q5⟩ => ?_))
    subst e2
    cases r5
    exact wpAny_truthy_bool ⟨H5, I5, q5⟩
theorem line63 : (sizeLine : Nat) < 2 ^ 63 := by rw [sizeLine_eq]; decide
theorem op_add_str : OpR X (binaryOp .Add) (fun x y H Q => ∃ i j, x = .str i ∧ y = .str j ∧ i.length + j.length ≤ sizeLine ∧ Q (.str (i ++ j)) H) := by
  intro pins s σ H x y v u Q I rx ry h
  obtain ⟨i, j, rfl, rfl, hz, q⟩ := h
  obtain ⟨t, rfl⟩ := rx
  obtain ⟨t', rfl⟩ := ry
  exact add_str (fun t' tk => ⟨.str (i ++ j), H, I.tok _, ⟨_, rfl⟩, q⟩) hz
theorem vals1 {x : V} {us : List Value} (r : Vals [x] us) : ∃ u, us = [u] ∧ RelV x u := by
  cases r with
  | cons r1 r2 => cases r2; exact ⟨_, rfl, r1⟩
theorem vals2 {x y : V} {us : List Value} (r : Vals [x, y] us) : ∃ u w', us = [u, w'] ∧ RelV x u ∧ RelV y w' := by
  cases r with
  | cons r1 r2 =>
    cases r2 with
    | cons r3 r4 => cases r4; exact ⟨_, _, rfl, r1, r3⟩
theorem call_max2 (hc : X.calm = true) : CallR X (.builtin "max") (fun xs H Q => ∃ i j, xs = [.int i, .int j] ∧ Q (.int (if j > i then j else i)) H) := by
  intro pins s σ H xs us Q I r h
  obtain ⟨i, j, rfl, q⟩ := h
  obtain ⟨u, w', rfl, ⟨t, rfl⟩, ⟨t', rfl⟩⟩ := vals2 r
  refine max_two_ints (I.ok.hd hc) fun h' tk k => ⟨_, H, I.kept k, ?_, q⟩
  by_cases hj : j > i
  · rw [if_pos hj, if_pos hj]; exact ⟨_, rfl⟩
  · rw [if_neg hj, if_neg hj]; exact ⟨_, rfl⟩
theorem call_min2 (hc : X.calm = true) : CallR X (.builtin "min") (fun xs H Q => ∃ i j, xs = [.int i, .int j] ∧ Q (.int (if j < i then j else i)) H) := by
  intro pins s σ H xs us Q I r h
  obtain ⟨i, j, rfl, q⟩ := h
  obtain ⟨u, w', rfl, ⟨t, rfl⟩, ⟨t', rfl⟩⟩ := vals2 r
  refine min_two_ints (I.ok.hd hc) fun h' tk k => ⟨_, H, I.kept k, ?_, q⟩
  by_cases hj : j < i
  · rw [if_pos hj, if_pos hj]; exact ⟨_, rfl⟩
  · rw [if_neg hj, if_neg hj]; exact ⟨_, rfl⟩
theorem call_int1 : CallR X (.type "int") (fun xs H Q => (∃ i, xs = [.int i] ∧ Q (.int i) H) ∨ ∃ k, xs = [.bl k] ∧ Q (.int (if k then 1 else 0)) H) := by
  intro pins s σ H xs us Q I r h
  rcases h with ⟨i, rfl, q⟩ | ⟨k, rfl, q⟩
  · obtain ⟨u, rfl, t, rfl⟩ := vals1 r
    exact call_int_int ⟨.int i, H, I, ⟨_, rfl⟩, q⟩
  · obtain ⟨u, rfl, r1⟩ := vals1 r
    cases r1
    exact call_int_bool ⟨.int (if k then 1 else 0), H, I.tok _, ⟨_, rfl⟩, q⟩
end
end L2
namespace L2
open PySem PySem.Spec PyProof.Rows
structure ObjM (h : Heap) (x dx C : Addr) (mA : Str → Option Value) : Prop where
  obj : h.get? x = some (PySem.W.instObj C dx)
  ns : h.Ns1 dx mA
  ne : dx ≠ x
theorem lookIn_ns {h : Heap} {dx : Addr} {mA : Str → Option Value} (n : h.Ns1 dx mA) : ∃ od, h.get? dx = some od ∧ ∀ name, PySem.W.lookIn name od = some (mA name) := by
  obtain ⟨o, es, ep, ho, hd, hk, _, hm⟩ := n
  refine ⟨o, ho, fun name => ?_⟩
  have e := hm name
  unfold nsFind findBy at e
  rw [← Array.find?_toList] at e
  unfold PySem.W.lookIn
  rw [hd]
  dsimp only
  split
  · rename_i y q
    rw [q] at e
    exact congrArg some e
  · rename_i q
    rw [q] at e
    have a : es.toList.any (·.refKey) = false := by
      rw [List.any_eq_false]
      intro y hy
      obtain ⟨z, t, hkey⟩ := hk y (Array.mem_toList_iff.mp hy)
      simp [DictEntry.refKey, hkey]
    have a' : ¬ es.toList.any (·.refKey) = true := by rw [a]; exact Bool.false_ne_true
    rw [if_neg a']
    exact congrArg some e
theorem ObjM.look {h : Heap} {x dx C : Addr} {mA : Str → Option Value} (I : ObjM h x dx C mA) : ∃ od, PySem.W.InstAt h x (PySem.W.instObj C dx) C (some od) ∧ ∀ name, PySem.W.lookIn name od = some (mA name) :=
  let ⟨od, ho, hl⟩ := lookIn_ns I.ns
  ⟨od, ⟨I.obj, rfl, rfl, ho⟩, hl⟩
section
variable {prog : Program} {w : World} {A : Around} {E : Value → Shared → Prop} {s : Shared} {K : PySem.W.Frag} {x dx C f : Addr} {mA : Str → Option Value} {name : Str} {v : Value}
theorem get_map {expr : Bool} {Q : Value → Shared → Prop} (X : K.In s.heap) (I : ObjM s.heap x dx C mA) (hg : PySem.W.plainGet K C name = true) (hh : PySem.W.hasDictIn K C = true)
    (ha : PySem.W.findIn K (.ref C) name = some none) (hv : mA name = some v) (hv' : PySem.W.handedIn v = true) (h : Q v { s with toks := s.toks + 1 }) :
    wpAny (model prog w) A (getAttr (.ref x) name expr) Q E s := by
  obtain ⟨od, J, hl⟩ := I.look
  exact PySem.W.get_value X J (PySem.W.plainGet_of hg).1 (PySem.W.findObj_own hh ha rfl (by rw [hl, hv])) hv' h
theorem set_map {ns : List Str} {Q : Unit → Shared → Prop} (X : K.In s.heap) (I : ObjM s.heap x dx C mA)
    (hs : PySem.W.findIn K (.ref C) "__setattr__" = some (some (.builtin "object.__setattr__"))) (hp : PySem.W.plainOver K C = true) (ht : PySem.W.takerIn K C name = some none) (hh : PySem.W.hasDictIn K C = true)
    (hw : PySem.Within mA ns) (hsz : ns.length ≤ sizeLine)
    (h : ∀ h', ObjM h' x dx C (fun y => if y = name then some v else mA y) → Heap.SameBut dx s.heap h' → Q () { s with heap := h', toks := s.toks + 2 }) :
    wpAny (model prog w) A (setAttr (.ref x) name v) Q E s := by
  obtain ⟨od, J, hl⟩ := I.look
  refine PySem.W.set_plain X J hs (PySem.W.osa_open (s := { s with toks := s.toks + 1 }) (r := none) X J hp ht fun b => ?_)
  obtain ⟨cd, hc, hd'⟩ := PySem.W.any_some hh
  have hx : s.heap.get? x = some ⟨.ref C, some dx, .plain, #[]⟩ := I.obj
  refine wpAny_bind (wpAny_pure (wpAny_bind (wpAny_bind (wpAny_loadPart hx (wpAny_bind (PySem.W.Looks.here (s := { s with toks := s.toks + 1 }) (PySem.W.looks_clsIn X hc) ?_))))))
  rw [hd']
  refine wpAny_pure (a := some dx) (wpAny_bind (wpAny_pure (wpAny_bind ?_)))
  refine wpAny_nsSet1 (s := { s with toks := s.toks + 1 }) I.ns fun h' hn2 hs2 => ?_
  obtain ⟨oD, esD, epD, hoD, hdD, hcD⟩ := hn2.count (PySem.Within.cons name v hw)
  refine wpAny_bind (wpAny_lookBehind hoD (by rw [hdD]; exact pastItsLine_dict (Nat.le_trans hcD (by rw [List.length_cons]; omega))) ?_)
  exact wpAny_pure (h _ ⟨(hs2.2 _ (Ne.symm I.ne)).trans I.obj, hn2, I.ne⟩ hs2)
end
def putF (f : Str) (v : V) : List (Str × V) → List (Str × V)
  | [] => [(f, v)]
  | (g, x) :: r => if g = f then (g, v) :: r else (g, x) :: putF f v r
theorem lookup_putF (f g : Str) (v : V) : ∀ fs : List (Str × V), (putF f v fs).lookup g = if g = f then some v else fs.lookup g
  | [] => by
    show List.lookup g [(f, v)] = _
    by_cases h : g = f
    · have hb : (g == f) = true := beq_iff_eq.mpr h
      simp only [List.lookup, hb, if_pos h]
    · have hb : (g == f) = false := beq_eq_false_iff_ne.mpr h
      simp only [List.lookup, hb, if_neg h]
  | (k, x) :: r => by
    have ih := lookup_putF f g v r
    rw [show putF f v ((k, x) :: r) = (if k = f then (k, v) :: r else (k, x) :: putF f v r) from rfl]
    by_cases hk : k = f
    · rw [if_pos hk]
      by_cases h : g = k
      · have hb : (g == k) = true := beq_iff_eq.mpr h
        simp only [List.lookup, hb, if_pos (h.trans hk)]
      · have hb : (g == k) = false := beq_eq_false_iff_ne.mpr h
        simp only [List.lookup, hb, if_neg (fun e : g = f => h (e.trans hk.symm))]
    · rw [if_neg hk]
      by_cases h : g = k
      · have hb : (g == k) = true := beq_iff_eq.mpr h
        simp only [List.lookup, hb, if_neg (fun e : g = f => hk (h.symm.trans e))]
      · have hb : (g == k) = false := beq_eq_false_iff_ne.mpr h
        simp only [List.lookup, hb]
        exact ih
theorem keys_putF (f : Str) (v : V) : ∀ fs : List (Str × V), f ∈ (putF f v fs).map (·.1) ∧ ∀ g, g ∈ fs.map (·.1) → g ∈ (putF f v fs).map (·.1)
  | [] => ⟨by simp [putF], fun g h => by simp at h⟩
  | (k, x) :: r => by
    obtain ⟨i1, i2⟩ := keys_putF f v r
    rw [show putF f v ((k, x) :: r) = (if k = f then (k, v) :: r else (k, x) :: putF f v r) from rfl]
    by_cases hk : k = f
    · rw [if_pos hk]
      subst hk
      exact ⟨by simp, fun g h => by simpa using h⟩
    · rw [if_neg hk]
      refine ⟨?_, fun g h => ?_⟩
      · rw [List.map_cons]
        exact List.mem_cons_of_mem _ i1
      · rw [List.map_cons] at h ⊢
        rcases List.mem_cons.mp h with e | e
        · exact List.mem_cons.mpr (.inl e)
        · exact List.mem_cons_of_mem _ (i2 g e)
theorem length_putF (f : Str) (v : V) : ∀ fs : List (Str × V), (putF f v fs).length ≤ fs.length + 1
  | [] => by simp [putF]
  | (k, x) :: r => by
    have ih := length_putF f v r
    rw [show putF f v ((k, x) :: r) = (if k = f then (k, v) :: r else (k, x) :: putF f v r) from rfl]
    by_cases hk : k = f
    · rw [if_pos hk, List.length_cons, List.length_cons]; omega
    · rw [if_neg hk, List.length_cons, List.length_cons]; omega
theorem RelO.some_of {v : V} {o : Option Value} (r : RelO (some v) o) : ∃ u, o = some u ∧ RelV v u := by
  cases o with
  | none => exact (show False from r).elim
  | some u => exact ⟨u, rfl, r⟩
theorem handed_of {v : V} {u : Value} (r : RelV v u) : PySem.W.handedIn u = true := by
  cases v with
  | non => cases (show u = Value.none from r); rfl
  | bl b => cases (show u = Value.bool b from r); rfl
  | int i => obtain ⟨t, e⟩ := (show ∃ t, u = Value.int i t from r); cases e; rfl
  | str x => obtain ⟨t, e⟩ := (show ∃ t, u = Value.str x t from r); cases e; rfl
  | byt b => obtain ⟨t, e⟩ := (show ∃ t, u = Value.bytes b t from r); cases e; rfl
  | flt b => obtain ⟨t, e⟩ := (show ∃ t, u = Value.float b t from r); cases e; rfl
  | ref a => cases (show u = Value.ref a from r); rfl
  | ty n => cases (show u = Value.type n from r); rfl
section
variable {P : Program} {w : World} {H H' : Hp} {h h' : Heap} {a C dx : Addr} {fs fs' : List (Str × V)}
theorem ins_get (hok : HOk P w H h) (e : H a = some (.ins C dx fs)) : ∃ mA, ObjM h a dx C mA ∧ (∀ f, RelO (fs.lookup f) (mA f)) ∧ PySem.Within mA (fs.map (·.1)) ∧ fs.length ≤ 1000 ∧ H dx = some (.own a) := by
  obtain ⟨d, z, ne, ob, mA, n, r, q⟩ := (show ObjOk P w H h a (.ins C dx fs) from hok a _ e)
  exact ⟨mA, ⟨ob, n, ne⟩, r, q, z, d⟩
end
structure Cls (K : PySem.W.Frag) (C : Addr) : Prop where
  pg : PySem.W.plainGet K C Str.empty = true
  hd : PySem.W.hasDictIn K C = true
  po : PySem.W.plainOver K C = true
  sa : PySem.W.findIn K (.ref C) "__setattr__" = some (some (.builtin "object.__setattr__"))
theorem Cls.get {K : PySem.W.Frag} {C : Addr} (c : Cls K C) (f : Str) : PySem.W.plainGet K C f = true := c.pg
def NoAttr (K : PySem.W.Frag) (C : Addr) (f : Str) : Prop := PySem.W.findIn K (.ref C) f = some none
theorem NoAttr.taker {K : PySem.W.Frag} {C : Addr} {f : Str} (n : NoAttr K C f) : PySem.W.takerIn K C f = some none := by
  unfold PySem.W.takerIn
  rw [show PySem.W.findIn K (.ref C) f = some none from n]
  rfl
structure Con (K : PySem.W.Frag) (C : Addr) (f : Str) (v : V) (u : Value) : Prop where
  at_ : PySem.W.findIn K (.ref C) f = some (some u)
  rel : RelV v u
  get : PySem.W.specialIn K u "__get__" = some none
  cp : PySem.W.copiedNames.contains f = false
structure Meth (K : PySem.W.Frag) (C : Addr) (m : Str) (f : Addr) : Prop where
  at_ : PySem.W.findIn K (.ref C) m = some (some (.ref f))
  fn : PySem.W.isFn K (.ref f) = true
  kp : PySem.W.keepIn K (.ref f) = true
section
variable {X : Cx} {pins : List (Addr × Obj)} {σ : St} {H : Hp} {s : Shared} {a C dx : Addr} {fs : List (Str × V)} {f : Str} {v : V} {A : Around} {E : Value → Shared → Prop}
theorem getattr_ok {b : Bool} {Q : Value → Shared → Prop} (I : Inv X pins σ H s) (e : H a = some (.ins C dx fs)) (c : Cls X.K C) (n : NoAttr X.K C f) (l : fs.lookup f = some v)
    (h : ∀ u s', Inv X pins σ H s' → RelV v u → Q u s') : wpAny (model X.prog X.w) A (getAttr (.ref a) f b) Q E s := by
  obtain ⟨mA, O, r, _, _, _⟩ := ins_get I.hok e
  obtain ⟨u, hu, ru⟩ := RelO.some_of (v := v) (o := mA f) (by rw [← l]; exact r f)
  exact get_map I.kIn O (c.get f) c.hd n hu (handed_of ru) (h u _ (I.tok _) ru)
theorem setattr_ok {y : V} {u : Value} {Q : Unit → Shared → Prop} (I : Inv X pins σ H s) (e : H a = some (.ins C dx fs)) (c : Cls X.K C) (n : NoAttr X.K C f) (hl : fs.length < 1000) (ry : RelV y u)
    (h : ∀ s', Inv X pins σ (upd H a (.ins C dx (putF f y fs))) s' → Q () s') : wpAny (model X.prog X.w) A (setAttr (.ref a) f u) Q E s := by
  obtain ⟨mA, O, r, wi, _, ho⟩ := ins_get I.hok e
  have hz : (fs.map (·.1)).length ≤ sizeLine := by rw [List.length_map, sizeLine_eq]; omega
  refine set_map I.kIn O c.sa c.po n.taker c.hd wi hz fun h' O' sb => h _ ?_
  have hd : ∃ o, h'.get? dx = some o := let ⟨o, _, _, e', _⟩ := O'.ns; ⟨o, e'⟩
  refine I.write (x := a) (e := dx) (by rw [e]; exact True.intro) (.inr ho) (fun b q hb z => (sb.2 b hb).trans z) hd ?_
  refine ⟨by rw [upd_ne O.ne]; exact ho, ?_, O.ne, O'.obj, _, O'.ns, fun g => ?_, fun g hg => ?_⟩
  · have := length_putF f y fs; omega
  · show RelO ((putF f y fs).lookup g) (if g = f then some u else mA g)
    rw [lookup_putF]
    by_cases q : g = f
    · rw [if_pos q, if_pos q]; exact ry
    · rw [if_neg q, if_neg q]; exact r g
  · by_cases q : g = f
    · rw [q]; exact (keys_putF f y fs).1
    · refine (keys_putF f y fs).2 g (wi g fun z => hg ?_)
      show (if g = f then some u else mA g) = none
      rw [if_neg q]; exact z
theorem attr_of {prog : Program} {w : World} {env : Env} {e : Expr} {f : Str} {pos : Pos} {s : Shared} {Q : Value → Shared → Prop} (hb : attributeBase e f env (eval e env) = eval e env)
    (h : wpAny (model prog w) A (eval e env) (fun o s₁ => wpAny (model prog w) A (getAttr o f true) Q E s₁) E s) : wpAny (model prog w) A (eval (.Attribute e f pos) env) Q E s :=
  Attribute_any_ h (by rw [arm_eval_Attribute, hb])
end
section
variable {X : Cx} {o e value : Expr} {f : Str} {pos pos' tpos : Pos} {ta tv : TE}
end
section
variable {X : Cx} {pins : List (Addr × Obj)} {σ : St} {H : Hp} {s : Shared} {A : Around} {E : Value → Shared → Prop} {Q : Value → Shared → Prop} {c : Value} {b : Bool}
inductive TyOf (K : PySem.W.Frag) (H : Hp) : V → Value → Prop where
  | non : TyOf K H .non (.type "NoneType")
  | bl (x : Bool) : TyOf K H (.bl x) (.type "bool")
  | int (i : Int) : TyOf K H (.int i) (.type "int")
  | str (x : Str) : TyOf K H (.str x) (.type "str")
  | flt (x : UInt64) : TyOf K H (.flt x) (.type "float")
  | lst {a : Addr} {xs : List V} (e : H a = some (.lst xs)) : TyOf K H (.ref a) (.type "list")
  | frz {a : Addr} {o : Obj} {xs : List V} (e : H a = some (.frz o (.lst xs))) : TyOf K H (.ref a) (.type "list")
  | tup {a : Addr} {xs : List V} (e : H a = some (.tup xs)) : TyOf K H (.ref a) (.type "tuple")
  | dK {a : Addr} {kvs : List (Key × V)} (e : H a = some (.dK kvs)) : TyOf K H (.ref a) (.type "dict")
  | dT {a : Addr} {kvs : List (List Key × V)} (e : H a = some (.dT kvs)) : TyOf K H (.ref a) (.type "dict")
  | ins {a C dx : Addr} {fs : List (Str × V)} (e : H a = some (.ins C dx fs)) (cl : Cls K C) (ha : PySem.W.findIn K (.ref C) "__class__" = some (some (.builtin "object.__class__")))
      (hn : PySem.W.specialIn K (.builtin "object.__class__") "__get__" = some (some (.builtin "getset_descriptor.__get__"))) (htk : PySem.W.takesIn K (.builtin "object.__class__") = some true)
      (hm : PySem.W.mroIn K C (.type "object") = some true) : TyOf K H (.ref a) (.ref C)
end
end L2
namespace L2
open PySem PySem.Spec PyProof.Rows
structure Room (k : Nat) (A : Around) : Prop where
  hd : A.handled = none
  dp : A.depth + 3 * k + 5 < recursionLimit
  un : A.units + 16 * k + 200 < cLine
theorem Room.mono {j k : Nat} {A : Around} (r : Room k A) (h : j ≤ k) : Room j A := ⟨r.hd, by have := r.dp; omega, by have := r.un; omega⟩
theorem Room.deeper {k : Nat} {A : Around} (r : Room (k + 1) A) (env : Env) : Room k (A.deeper env) :=
  ⟨r.hd, by have := r.dp; show A.depth + 1 + 3 * k + 5 < _; omega, by have := r.un; show A.units + 3 + 16 * k + 200 < _; omega⟩
theorem make_depth {A : Around} {C : Addr} {us : List Value} {kw : List (Str × Value)} : (A.under (.builtin "type.__call__" ⟨.ref C :: us, kw⟩)).depth = A.depth + 1 := by
  first | rfl | simp [Around.under, Code.weight, Code.isCreation, Code.isGuard, Code.isCaller, Code.frames, Code.isFrame, guardIds]
theorem make_units {A : Around} {C : Addr} {us : List Value} {kw : List (Str × Value)} : (A.under (.builtin "type.__call__" ⟨.ref C :: us, kw⟩)).units = A.units + 1 := by
  first | rfl | simp [Around.under, Code.cUnits, Code.frames, Code.isFrame]
theorem Room.make {k : Nat} {A : Around} (r : Room (k + 1) A) (C : Addr) (us : List Value) (kw : List (Str × Value)) : Room k (A.under (.builtin "type.__call__" ⟨.ref C :: us, kw⟩)) :=
  ⟨r.hd, by have := r.dp; rw [make_depth]; omega, by have := r.un; rw [make_units]; omega⟩
theorem Room.depth {k : Nat} {A : Around} (r : Room k A) : A.depth < recursionLimit := by have := r.dp; omega
def tNil : TA := fun _ H Q => Q [] H
def tCons (ta : TE) (tr : TA) : TA := fun σ H Q => ta σ H fun x H1 => tr σ H1 fun xs H2 => Q (x :: xs) H2
section
variable {X : Cx} {e : Expr} {es : List Expr} {te : TE} {t : TA} {pos : Pos}
theorem pa_nil : PA X [] tNil := fun _ _ _ _ H Q I h => Calls.spliced_nil ⟨[], H, I, .nil, h⟩
theorem pa_cons (ha : PE X e te) (hr : PA X es t) (hs : starEach (e :: es) X.env = (false, eval e X.env) :: starEach es X.env := by rfl) : PA X (e :: es) (tCons te t) := by
  intro pos pins s σ H Q I h
  rw [hs]
  show wpAny _ _ (spliced ((false, eval e X.env) :: backTo pos (starEach es X.env))) _ _ s
  refine Calls.spliced_cons (thn (ha pins s σ H _ I h) fun u s1 ⟨x, H1, I1, r1, q1⟩ => ?_)
  exact thn (hr pos pins s1 σ H1 _ I1 q1) fun us s2 ⟨xs, H2, I2, r2, q2⟩ => ⟨x :: xs, H2, I2, .cons r1 r2, q2⟩
def tTup (t : TA) : TE := fun σ H Q => t σ H fun xs H1 => xs.length ≤ sizeLine ∧ ∀ p, H1 p = none → Q (.ref p) (upd H1 p (.tup xs))
def tLst (t : TA) : TE := fun σ H Q => t σ H fun xs H1 => xs.length ≤ sizeLine ∧ ∀ p, H1 p = none → Q (.ref p) (upd H1 p (.lst xs))
theorem pe_tup {x1} (h : PA X es t) : PE X (.Tuple es x1 pos) (tTup t) := by
  intro pins s σ H Q I hq
  refine wpAny_Tuple_spliced (thn (h pos pins s σ H _ I hq) fun us s1 ⟨xs, H1, I1, r, z, q⟩ => ⟨by rw [← r.length]; exact z, ?_⟩)
  have hf : H1 s1.heap.objs.size = none := I1.hok.fresh (Nat.le_refl _)
  refine ⟨.ref s1.heap.objs.size, upd H1 s1.heap.objs.size (.tup xs), I1.laid (t' := s1.toks) (fun b u e => Heap.get?_push_of_some _ e) (Nat.le_refl _) ?_, rfl, q _ hf⟩
  exact ⟨z, us, r, ⟨_, Heap.get?_push_size _ rfl, rfl, _, rfl⟩⟩
theorem pe_lst (h : PA X es t) : PE X (.List es pos) (tLst t) := by
  intro pins s σ H Q I hq
  refine wpAny_List_spliced (thn (h pos pins s σ H _ I hq) fun us s1 ⟨xs, H1, I1, r, z, q⟩ => ⟨by rw [← r.length]; exact z, ?_⟩)
  have hf : H1 s1.heap.objs.size = none := I1.hok.fresh (Nat.le_refl _)
  refine ⟨.ref s1.heap.objs.size, upd H1 s1.heap.objs.size (.lst xs), I1.laid (t' := s1.toks) (fun b u e => Heap.get?_push_of_some _ e) (Nat.le_refl _) ?_, rfl, q _ hf⟩
  exact ⟨z, us, 0, r, Heap.get?_push_size _ rfl⟩
end
abbrev Sp := List V → Hp → VK → XK → Prop
abbrev CXT := List Env → Hp → Shared → XK → Value → Shared → Prop
structure Env0 (P : Program) (w : World) (K : PySem.W.Frag) (mg : Str → Option Value) (base : Heap) (A : Around) (outer : List Env) (s : Shared) (H : Hp) : Prop where
  frames : A.frames = some outer
  mod : Mod K mg base
  bs : ∀ b o, base.get? b = some o → s.heap.get? b = some o ∧ H b = none
  bsz : base.objs.size ≤ s.heap.objs.size
  funs : s.heap.FunFrames base outer
  frf : ∀ b ∈ frs outer, H b = none
  hok : HOk P w H s.heap
  bare : AllBare s.gens
def CE (outer : List Env) (P : Program) (w : World) (H : Hp) (s : Shared) (Q : VK) (u : Value) (s' : Shared) : Prop :=
  ∃ v H', s'.os = s.os ∧ AllBare s'.gens ∧ Un (frs outer) [] H H' s.heap s'.heap ∧ HOk P w H' s'.heap ∧ RelV v u ∧ Q v H'
def CR (CX : CXT) (outer : List Env) (P : Program) (w : World) (H : Hp) (s : Shared) (Q : VK) (E : XK) (r : Result) (s' : Shared) : Prop :=
  match r with
  | .ok (.ret u) => CE outer P w H s Q u s'
  | .ok _ => False
  | .error e => CX outer H s E e s'
structure FnOk (P : Program) (w : World) (K : PySem.W.Frag) (mg : Str → Option Value) (base : Heap) (CX : CXT) (k : Nat) (f : Addr) (fd : FuncData) (ps : List Str) (sp : Sp) : Prop where
  len : ∀ vs H Q E, sp vs H Q E → vs.length = ps.length
  run : ∀ (A : Around) (outer : List Env) (s : Shared) (H : Hp) (args : Args) (us : List Value) (vs : List V) (Q : VK) (E : XK), Room k A → Env0 P w K mg base A outer s H → BindsTo s fd args (ps.zip us) → Vals vs us → sp vs H Q E →
    codeAny (model P w) A (.call (.ref f) args) (CR CX outer P w H s Q E) s
theorem Env0.make {P : Program} {w : World} {K : PySem.W.Frag} {mg : Str → Option Value} {base : Heap} {A : Around} {outer : List Env} {s : Shared} {H : Hp} (e : Env0 P w K mg base A outer s H) (C : Addr) (us : List Value) (kw : List (Str × Value)) :
    Env0 P w K mg base (A.under (.builtin "type.__call__" ⟨.ref C :: us, kw⟩)) outer s H := ⟨by first | exact e.frames | (simpa [Around.under, Code.envs, Code.isFrame, pushEnvs] using e.frames), e.mod, e.bs, e.bsz, e.funs, e.frf, e.hok, e.bare⟩
section
variable {X : Cx} {pins : List (Addr × Obj)} {σ : St} {H : Hp} {s s' : Shared}
theorem Inv.env0 (I : Inv X pins σ H s) : Env0 X.prog X.w X.K X.mg X.base X.A X.stack s H :=
  ⟨I.ok.frames, I.ok.mod, I.bs, Nat.le_trans I.ok.bsz I.sz, I.stack, I.stkFree, I.hok, I.bare⟩
theorem Inv.after {Q : VK} {u : Value} (I : Inv X pins σ H s) (h : CE X.stack X.prog X.w H s Q u s') : EP X pins σ Q u s' := by
  obtain ⟨v, H', os, bare, un, hok, r, q⟩ := h
  obtain ⟨hh, g, d, t, os'⟩ := s'
  obtain rfl : os' = s.os := os
  exact ⟨v, H', I.call (h' := hh) (g' := g) (d' := d) (t' := t) (ch := []) un hok bare (fun b z => absurd z (by simp)), r, q⟩
end
def tCall (sp : Sp) (dvs : List V) (E : XK) (t : TA) : TE := fun σ H Q => t σ H fun vs H1 => sp (vs ++ dvs) H1 Q E
def tMeth (C : Addr) (m : Str) (sp : Sp) (dvs : List V) (E : XK) (ta : TE) (t : TA) : TE := fun σ H Q => ta σ H fun x H1 => ∃ a dx fs, x = .ref a ∧ H1 a = some (.ins C dx fs) ∧ fs.lookup m = none ∧
  t σ H1 fun vs H2 => sp (x :: (vs ++ dvs)) H2 Q E
def tMake (C : Addr) (sp : Sp) (dvs : List V) (E : XK) (t : TA) : TE := fun σ H Q => t σ H fun vs H1 => ∀ x dx, H1 x = none → H1 dx = none → dx ≠ x →
  sp (.ref x :: (vs ++ dvs)) (upd (upd H1 dx (.own x)) x (.ins C dx [])) (fun v H2 => v = .non ∧ Q (.ref x) H2) E
def Binds (K : PySem.W.Frag) (fd : FuncData) (ps : List Str) (ds : List Value) : Prop :=
  ∀ (s : Shared) (us : List Value), K.In s.heap → (us ++ ds).length = ps.length → BindsTo s fd ⟨us, []⟩ (ps.zip (us ++ ds))
theorem Binds.all {K : PySem.W.Frag} {fd : FuncData} {ps : List Str} (h : ∀ us : List Value, us.length = ps.length → bindArgs fd ⟨us, []⟩ = pure (ps.zip us)) : Binds K fd ps [] := fun s us _ hl => by
  rw [List.append_nil] at hl ⊢
  exact .of_eq (h us hl)
def Passes (CX : CXT) (X : Cx) (E : XK) : Prop := ∀ (pins : List (Addr × Obj)) (σ : St) (H : Hp) (s : Shared) (e : Value) (s' : Shared), Inv X pins σ H s → CX X.stack H s E e s' → X.xe e s'
section
variable {X : Cx} {CX : CXT} {k : Nat} {f C : Addr} {fd : FuncData} {ps : List Str} {sp : Sp} {dvs : List V} {ds : List Value} {E : XK} {x m : Str} {p pos apos : Pos} {e o : Expr} {es : List Expr} {ta : TE} {t : TA}
theorem run_fn {pins : List (Addr × Obj)} {σ : St} {H : Hp} {s : Shared} {Q : VK} {us : List Value} {vs : List V} (F : FnOk X.prog X.w X.K X.mg X.base CX k f fd ps sp) (hr : Room k X.A) (hb : Binds X.K fd ps ds) (hd : Vals dvs ds) (hx : Passes CX X E)
    (I : Inv X pins σ H s) (r : Vals vs us) (h : sp (vs ++ dvs) H Q E) : wpAny (model X.prog X.w) X.A (call (.ref f) us) (EP X pins σ Q) X.xe s := by
  have r2 : Vals (vs ++ dvs) (us ++ ds) := r.append hd
  have hl : (us ++ ds).length = ps.length := by rw [← r2.length]; exact F.len _ _ _ _ h
  refine wpAny_call (codeAny_mono (F.run X.A X.stack s H ⟨us, []⟩ (us ++ ds) (vs ++ dvs) Q E hr I.env0 (hb s us I.kIn hl) r2 h) fun r s' hq => ?_)
  cases r with
  | error e => exact hx pins σ H s e s' I hq
  | ok fl =>
    cases fl with
    | ret u => exact I.after hq
    | next => exact False.elim hq
    | brk => exact False.elim hq
    | cont => exact False.elim hq
theorem pe_call (F : FnOk X.prog X.w X.K X.mg X.base CX k f fd ps sp) (hr : Room k X.A) (hg : Gl X x) (hm : X.mg x = some (.ref f)) (hk : PySem.W.keepIn X.K (.ref f) = true) (hb : Binds X.K fd ps ds) (hd : Vals dvs ds) (hx : Passes CX X E)
    (ha : PA X (e :: es) t) (hdb : (x == ("__debug__" : Str)) = false := by decide) (he : starEach (e :: es) X.env = (false, eval e X.env) :: starEach es X.env := by rfl) (hpl : (backTo pos (starEach es X.env)).any (·.1) = false := by rfl) :
    PE X (.Call (.Name x p) (e :: es) [] pos) (tCall sp dvs E t) := by
  intro pins s σ H Q I h
  refine wpAny_Call_Name_kw (ld_glob I hg hm ?_ hdb)
  refine PySem.W.callWith_K (h₀ := X.base) I.ok.mod.kin hk (thn (ha pos pins s σ H _ I h) fun us s1 ⟨vs, H1, I1, r, q⟩ => ⟨I1.kIn, ?_⟩) he hpl
  exact run_fn F hr hb hd hx I1 r q
structure Mk (K : PySem.W.Frag) (C f : Addr) : Prop where
  makes : PySem.W.makesIn K C = true
  init : PySem.W.findIn K (.ref C) "__init__" = some (some (.ref f))
  fn : PySem.W.isFn K (.ref f) = true
  kp : PySem.W.keepIn K (.ref C) = true
end
section
variable {X : Cx} {CX : CXT} {k : Nat} {f C : Addr} {fd : FuncData} {ps ks : List Str} {sp : Sp} {E : XK} {x m : Str} {p pos apos kpos : Pos} {e o : Expr} {es : List Expr} {kws : List Keyword} {te ta : TE} {t tk : TA} {nm : Option Str}
structure KBinds (K : PySem.W.Frag) (fd : FuncData) (ps ks : List Str) (g : List Value → List Value → List Value) (gV : List V → List V → List V) : Prop where
  to : ∀ (s : Shared) (us ws : List Value), K.In s.heap → (g us ws).length = ps.length → BindsTo s fd ⟨us, ks.zip ws⟩ (ps.zip (g us ws))
  rel : ∀ {vs : List V} {us : List Value} {zs : List V} {ws : List Value}, Vals vs us → Vals zs ws → Vals (gV vs zs) (g us ws)
variable {g : List Value → List Value → List Value} {gV : List V → List V → List V}
end
structure FnScope (N P : List Str) (sc : Scope) : Prop where
  kind : sc.kind = .function
  co : sc.isCoroutine = false
  gen : sc.isGenerator = false
  nd : N.Nodup
  pre : N.take P.length = P
  par : ∀ x ∈ P, sc.names.lookup x = some .local ∨ sc.names.lookup x = some .cell
  nofree : ∀ y ∈ sc.names, y.2 ≠ .free
theorem bindL_out {kindOf : Str → Option NameKind} {x : Str} : ∀ {binds : List (Str × Value)} {m : Str → Option Value}, (∀ v, (x, v) ∉ binds) → bindL kindOf binds m x = m x
  | [], _, _ => rfl
  | (n, v) :: r, m, h => by
    unfold bindL
    rw [bindL_out fun w hw => h w (List.mem_cons_of_mem _ hw)]
    split
    · have : x ≠ n := by rintro rfl; exact h v List.mem_cons_self
      simp [this]
    · rfl
theorem bindC_out {kindOf : Str → Option NameKind} {x : Str} : ∀ {binds : List (Str × Value)} {m : Str → Option Value}, (∀ v, (x, v) ∉ binds) → bindC kindOf binds m x = m x
  | [], _, _ => rfl
  | (n, v) :: r, m, h => by
    unfold bindC
    rw [bindC_out fun w hw => h w (List.mem_cons_of_mem _ hw)]
    split
    · rfl
    · have : x ≠ n := by rintro rfl; exact h v List.mem_cons_self
      simp [this]
theorem bindL_get {kindOf : Str → Option NameKind} {x : Str} {v : Value} : ∀ {P : List Str} {vs : List Value} {i : Nat} {m : Str → Option Value}, P.Nodup → P[i]? = some x → vs[i]? = some v → kindOf x = some .local →
    bindL kindOf (P.zip vs) m x = some v
  | [], _, _, _, _, h, _, _ => by simp at h
  | _ :: _, [], _, _, _, _, h, _ => by simp at h
  | p :: P, w :: vs, 0, m, nd, h1, h2, hk => by
    simp at h1 h2; subst h1; subst h2
    show bindL kindOf ((p, w) :: P.zip vs) m p = _
    unfold bindL
    rw [bindL_out fun v hv => (List.nodup_cons.mp nd).1 (List.of_mem_zip hv).1, if_pos hk]
    simp
  | p :: P, w :: vs, i + 1, m, nd, h1, h2, hk => by
    show bindL kindOf ((p, w) :: P.zip vs) m x = _
    unfold bindL
    exact bindL_get (i := i) (List.nodup_cons.mp nd).2 (by simpa using h1) (by simpa using h2) hk
theorem bindC_get {kindOf : Str → Option NameKind} {x : Str} {v : Value} : ∀ {P : List Str} {vs : List Value} {i : Nat} {m : Str → Option Value}, P.Nodup → P[i]? = some x → vs[i]? = some v → kindOf x ≠ some .local →
    bindC kindOf (P.zip vs) m x = some v
  | [], _, _, _, _, h, _, _ => by simp at h
  | _ :: _, [], _, _, _, _, h, _ => by simp at h
  | p :: P, w :: vs, 0, m, nd, h1, h2, hk => by
    simp at h1 h2; subst h1; subst h2
    show bindC kindOf ((p, w) :: P.zip vs) m p = _
    unfold bindC
    rw [bindC_out fun v hv => (List.nodup_cons.mp nd).1 (List.of_mem_zip hv).1, if_neg hk]
    simp
  | p :: P, w :: vs, i + 1, m, nd, h1, h2, hk => by
    show bindC kindOf ((p, w) :: P.zip vs) m x = _
    unfold bindC
    exact bindC_get (i := i) (List.nodup_cons.mp nd).2 (by simpa using h1) (by simpa using h2) hk
def start (N : List Str) (vs : List V) : St := vs.map some ++ List.replicate (N.length - vs.length) none
def cxOf (CX : CXT) (P : Program) (w : World) (K : PySem.W.Frag) (mg : Str → Option Value) (base : Heap) (N : List Str) (qual : Str) (scope : Scope) (f : Addr) (cd : Value) (A : Around) (outer : List Env) (s : Shared) (H : Hp) (E : XK) : Cx where
  prog := P
  w := w
  K := K
  mg := mg
  base := base
  A := A.deeper (envOfC qual scope s.heap.objs.size f cd)
  N := N
  s₀ := s
  H₀ := H
  env := envOfC qual scope s.heap.objs.size f cd
  outer := outer
  stack := envOfC qual scope s.heap.objs.size f cd :: outer
  ex := []
  calm := true
  fn := fun _ => true
  pn := []
  xe := fun e s' => wpAny (model P w) (A.deeper (envOfC qual scope s.heap.objs.size f cd)) (leaving (envOfC qual scope s.heap.objs.size f cd) e) (fun _ s'' => CX outer H s E e s'') (fun e' s'' => CX outer H s E e' s'') s'
theorem cell_has {sc : Scope} {n : Nat} {x : Str} (h : sc.names.lookup x = some .cell) : ∃ c, (cellsFrom n sc.names []).lookup x = some c := by
  have q := PySem.W.cellsFrom_some sc.names n [] (.inl h)
  exact Option.isSome_iff_exists.mp q
theorem inv_start {CX : CXT} {P : Program} {w : World} {K : PySem.W.Frag} {mg : Str → Option Value} {base : Heap} {N ps : List Str} {qual : Str} {scope : Scope} {f : Addr} {cd : Value} {A : Around} {outer : List Env} {s s1 : Shared} {H : Hp} {E : XK} {us : List Value} {vs : List V}
    (S : FnScope N ps scope) (hd : A.handled = none) (e0 : Env0 P w K mg base A outer s H) (hl : vs.length = ps.length) (r : Vals vs us)
    (x : InCallC s s.heap.objs.size (bindL (envOfC qual scope s.heap.objs.size f cd).kindOf (ps.zip us) fun _ => none) (cellsFrom (s.heap.objs.size + 1) scope.names []) (bindC (envOfC qual scope s.heap.objs.size f cd).kindOf (ps.zip us) fun _ => none) s1) :
    Inv (cxOf CX P w K mg base N qual scope f cd A outer s H E) [] (start N vs) H s1 := by
  have hpl : ps.length ≤ N.length := by have := congrArg List.length S.pre; rw [List.length_take] at this; omega
  obtain ⟨h1, tk, rfl, hk⟩ := x.done
  have noA : ∀ b : Addr, b ∉ (cxOf CX P w K mg base N qual scope f cd A outer s H E).ex := fun b z => absurd (show b ∈ ([] : List Addr) from z) (by simp)
  refine ⟨⟨e0.mod, S.kind, rfl, rfl, Nat.le_refl _, fun y z c h1 h2 => ?_, fun y hy => ?_, fun y c _ h => ?_, fun _ => hd, Around.frames_deeper e0.frames, .inr ⟨rfl, rfl⟩, fun b z => absurd z (noA b), e0.bs, e0.bsz, fun b _ _ => noA b, fun b z => absurd z (noA b), e0.funs, e0.frf⟩,
    rfl, e0.bare, Un.kept hk, ⟨_, x.toInCall.ns, fun i y v h1 h2 h3 => ?_⟩, fun y c h => ⟨_, x.cell y c h⟩, e0.hok.fresh (Nat.le_refl _), fun y c h => ?_, fun p hp => absurd (show p ∈ ([] : List (Addr × Obj)) from hp) (by simp), e0.hok.kept hk, ?_⟩
  · exact name_of_addr x.apart (PySem.mem_of_lookup h1) (PySem.mem_of_lookup h2)
  · have hy : scope.names.lookup y = some .cell ∨ scope.names.lookup y = some .free := hy
    rcases hy with hy | hy
    · exact cell_has hy
    · exact absurd rfl (S.nofree _ (PySem.mem_of_lookup hy))
  · exact Nat.le_of_lt (x.above y c (PySem.mem_of_lookup h))
  · have hi : i < vs.length := by
      unfold start at h2
      by_cases hi : i < vs.length
      · exact hi
      · rw [List.getElem?_append_right (by simpa using hi)] at h2
        rw [List.getElem?_replicate] at h2
        split at h2 <;> cases h2
    have ha : vs[i]? = some v := by
      unfold start at h2
      rw [List.getElem?_append_left (by simpa using hi), List.getElem?_map] at h2
      cases e : vs[i]? with
      | none => rw [e] at h2; cases h2
      | some a => rw [e] at h2; cases h2; rfl
    obtain ⟨u, hu, rv⟩ := r.get ha
    have hp : ps[i]? = some y := by
      rw [← S.pre, List.getElem?_take_of_lt (by omega)]; exact h1
    have ndP : ps.Nodup := by rw [← S.pre]; exact S.nd.sublist (List.take_sublist _ _)
    refine ⟨u, rv, ?_⟩
    rcases S.par y (List.mem_of_getElem? hp) with k | k
    · exact .inl ⟨k, bindL_get ndP hp hu k⟩
    · obtain ⟨c, e⟩ := cell_has (n := s.heap.objs.size + 1) k
      refine .inr ⟨.inl k, c, e, ?_⟩
      have q := x.cell y c e
      rw [bindC_get ndP hp hu (by show scope.names.lookup y ≠ _; rw [k]; decide)] at q
      exact q
  · exact e0.hok.fresh (Nat.le_of_lt (x.above y c (PySem.mem_of_lookup h)))
  · unfold start
    show _ = N.length
    rw [List.length_append, List.length_map, List.length_replicate]
    omega
theorem fn_of {CX : CXT} {P : Program} {w : World} {K : PySem.W.Frag} {mg : Str → Option Value} {base : Heap} {k : Nat} {f : Addr} {name qual : Str} {params : Arguments} {body : List Stmt} {scope : Scope} {dV kV doc pm cdv ct oc : Value} {an od : Option Addr}
    {osl : Array (Option Value)} {N ps : List Str} {sp : Sp} (lk : K.lookup f = some ⟨oc, od, .func (PySem.W.fnOf name qual params body scope dV kV doc pm an cdv ct), osl⟩) (hcd : PySem.W.codeIn K cdv qual = true) (S : FnScope N ps scope)
    (len : ∀ vs H Q E, sp vs H Q E → vs.length = ps.length)
    (hbody : ∀ (A : Around) (outer : List Env) (s : Shared) (H : Hp) (vs : List V) (Q : VK) (E : XK), Room k (A.deeper (envOfC qual scope s.heap.objs.size f cdv)) → sp vs H Q E →
      ∃ t, PSs (cxOf CX P w K mg base N qual scope f cdv A outer s H E) body t ∧ t { nx := fun _ H' => Q .non H', rt := Q } (start N vs) H) :
    FnOk P w K mg base CX (k + 1) f (PySem.W.fnOf name qual params body scope dV kV doc pm an cdv ct) ps sp := by
  refine ⟨len, fun A outer s H args us vs Q E hr e0 hb r hsp => ?_⟩
  have hl := len _ _ _ _ hsp
  have KX : K.In s.heap := e0.mod.kin.keeps fun b o e => (e0.bs b o e).1
  have lim : s.heap.NoLimit := e0.mod.nolimit.keeps fun b o e => (e0.bs b o e).1
  have hkind : ∀ y ∈ ps.zip us, scope.names.lookup y.1 = some .local ∨ (scope.names.lookup y.1 = some .cell ∧ ((cellsFrom (s.heap.objs.size + 1) scope.names []).lookup y.1).isSome = true) := fun ⟨n, v⟩ hy => by
    rcases S.par n (List.of_mem_zip hy).1 with q | q
    · exact .inl q
    · exact .inr ⟨q, PySem.W.cellsFrom_some _ _ _ (.inl q)⟩
  refine codeAny_call_function hr.depth (KX _ _ lk) rfl S.co S.gen rfl (PySem.W.codeRec_of KX hcd) (hb _ _ _ _ ?_)
  refine wpAny_newFunctionEnv_cells S.kind hkind fun env he s1 x => ?_
  subst he
  refine ⟨lim.keeps x.toInCall.keep, codeAny_func ?_⟩
  obtain ⟨t, ht, hq⟩ := hbody A outer s H vs Q E (hr.deeper _) hsp
  have I : Inv (cxOf CX P w K mg base N qual scope f cdv A outer s H E) [] (start N vs) H s1 := inv_start S hr.hd e0 hl r x
  refine wpAny_mono (ht [] s1 (start N vs) H _ I hq) (fun fl s' hs => ?_) fun e s' hs => hs
  have fin : ∀ {σ' : St} {H' : Hp} {v : V} {u : Value}, Inv (cxOf CX P w K mg base N qual scope f cdv A outer s H E) [] σ' H' s' → RelV v u → Q v H' → CE outer P w H s Q u s' :=
    fun {σ' H' v u} J rv q => ⟨v, H', J.os, J.bare, J.base, J.hok, rv, q⟩
  cases fl with
  | ret u =>
    obtain ⟨v, σ', H', J, rv, q⟩ := hs
    exact fin J rv q
  | next =>
    obtain ⟨σ', H', J, q⟩ := hs
    exact fin (v := V.non) (u := Value.none) J rfl q
  | brk =>
    obtain ⟨_, _, _, q⟩ := hs
    exact False.elim q
  | cont =>
    obtain ⟨_, _, _, q⟩ := hs
    exact False.elim q
end L2
namespace L2
open PySem PySem.Spec PyProof.Rows
section
variable {X : Cx} {x : Str} {p pos : Pos} {e : Expr} {es : List Expr} {t : TA} {id T : String} {r : List V → Hp → VK → Prop}
def tCB (r : List V → Hp → VK → Prop) (t : TA) : TE := fun σ H Q => t σ H fun vs H1 => r vs H1 Q
theorem pe_callB (hc : CallR X (.builtin id) r) (hg : Gl X x) (hm : X.mg x = none) (hv : bootBuiltins x = some (.builtin id)) (ha : PA X (e :: es) t) (hn : x ≠ "__name__" := by decide) (hdb : (x == ("__debug__" : Str)) = false := by decide)
    (he : starEach (e :: es) X.env = (false, eval e X.env) :: starEach es X.env := by rfl) (hpl : (backTo pos (starEach es X.env)).any (·.1) = false := by rfl) : PE X (.Call (.Name x p) (e :: es) [] pos) (tCB r t) := by
  intro pins s σ H Q I h
  refine wpAny_Call_Name_kw (ld_blt I hg hm hv ?_ hn hdb)
  exact PyProof.Rows.callWith_builtin1 (thn (ha pos pins s σ H _ I h) fun us s1 ⟨vs, H1, I1, r1, q1⟩ => hc pins s1 σ H1 vs us Q I1 r1 q1) he hpl
theorem pe_callTy (hc : CallR X (.type T) r) (hg : Gl X x) (hm : X.mg x = none) (hv : bootBuiltins x = some (.type T)) (ha : PA X (e :: es) t) (hn : x ≠ "__name__" := by decide) (hdb : (x == ("__debug__" : Str)) = false := by decide)
    (he : starEach (e :: es) X.env = (false, eval e X.env) :: starEach es X.env := by rfl) (hpl : (backTo pos (starEach es X.env)).any (·.1) = false := by rfl) : PE X (.Call (.Name x p) (e :: es) [] pos) (tCB r t) := by
  intro pins s σ H Q I h
  refine wpAny_Call_Name_kw (ld_blt I hg hm hv ?_ hn hdb)
  exact PyProof.Rows.callWith_type1 (thn (ha pos pins s σ H _ I h) fun us s1 ⟨vs, H1, I1, r1, q1⟩ => hc pins s1 σ H1 vs us Q I1 r1 q1) he hpl
end
end L2
namespace HT
open PySem PyProof.Rows
section
open PySem.SeqAt
open PySem.AutoSeq1 (wpAny_loadPart')
open PySem.MeetsSeq PySem.MeetsSeq2 PySem.MeetsSeq3
end
section
variable {prog : Program} {w : World} {A : Around} {E : Value → Shared → Prop} {s : Shared}
theorem cat_tup {t b : Addr} {vs ws : List Value} {Q : Value → Shared → Prop} (ht : IsTup s.heap t vs.toArray) (hb : IsTup s.heap b ws.toArray) (hv : vs ≠ [])
    (h1 : ws = [] → Q (.ref t) s) (h2 : ws ≠ [] → Q (.ref s.heap.objs.size) { s with heap := s.heap.push { cls := .type "tuple", data := .seq (vs ++ ws).toArray } })
    (hsz : vs.length + ws.length ≤ sizeLine) : wpAny (model prog w) A (binaryOp .Add (.ref t) (.ref b)) Q E s := by
  obtain ⟨⟨cls, dd, data, sl⟩, ho, hc, n, hd⟩ := id ht
  obtain ⟨⟨cls2, dd2, data2, sl2⟩, ho2, hc2, n2, hd2⟩ := id hb
  simp only at hc hd hc2 hd2
  subst hc hd hc2 hd2
  have e : vs.toArray ++ ws.toArray = (vs ++ ws).toArray := by simp
  by_cases hw : ws = []
  · exact concat_meets ⟨_, ho, rfl⟩ ⟨_, ho2, rfl⟩ noFill_tuple_add seq_tuple_add PySem.F.slot_tuple_add PySem.F.entry_tuple_add (PySem.F.args_tuple_add_2 _ _)
      (tuple_addW1 t b vs.toArray ws.toArray n n2 dd dd2 sl sl2 (by simpa using hv) (by simp [hw])) ⟨ho, ho2, h1 hw⟩
  · refine concat_meets ⟨_, ho, rfl⟩ ⟨_, ho2, rfl⟩ noFill_tuple_add seq_tuple_add PySem.F.slot_tuple_add PySem.F.entry_tuple_add (PySem.F.args_tuple_add_2 _ _)
      (tuple_addW2 t b vs.toArray ws.toArray n n2 dd dd2 sl sl2 (by simpa using hv) (by simpa using hw) (by rw [List.size_toArray, List.size_toArray]; exact hsz)) ⟨ho, ho2, ?_⟩
    rw [e]
    exact h2 hw
def sIx (n d : Nat) : Option Int → Nat
  | none => d
  | some v => if v < 0 then (v + (n : Int)).toNat else min v.toNat n
theorem sIx_none (n d : Nat) : sIx n d none = d := rfl
theorem sIx_nat (n d k : Nat) : sIx n d (some (k : Int)) = min k n := by
  show (if (k : Int) < 0 then ((k : Int) + (n : Int)).toNat else min (k : Int).toNat n) = min k n
  rw [if_neg (by omega), Int.toNat_natCast]
theorem sIx_le (n d : Nat) (hd : d ≤ n) (o : Option Int) : sIx n d o ≤ n := by
  cases o with
  | none => exact hd
  | some v =>
    show (if v < 0 then (v + (n : Int)).toNat else min v.toNat n) ≤ n
    by_cases hv : v < 0
    · rw [if_pos hv]; omega
    · rw [if_neg hv]; exact Nat.min_le_right _ _
theorem clip_eq (v : Int) (n d : Nat) : (if v < 0 then max (v + (n : Int)) 0 else min v (n : Int)) = ((sIx n d (some v) : Nat) : Int) := by
  show (if v < 0 then max (v + (n : Int)) 0 else min v (n : Int)) = (((if v < 0 then (v + (n : Int)).toNat else min v.toNat n) : Nat) : Int)
  by_cases hv : v < 0
  · simp only [if_pos hv]; omega
  · simp only [if_neg hv]; omega
theorem adjust_gen (lo hi : Option Int) (n : Nat) : Builtin.Slice.sliceAdjust lo hi 1 (n : Int) = (((sIx n 0 lo : Nat) : Int), ((sIx n n hi : Nat) : Int)) := by
  have h1 : ¬ ((1 : Int) < 0) := by omega
  unfold Builtin.Slice.sliceAdjust
  simp only [h1, if_false]
  refine Prod.ext ?_ ?_
  · cases lo with
    | none => rfl
    | some v => exact clip_eq v n 0
  · cases hi with
    | none => rfl
    | some v => exact clip_eq v n n
theorem places_gen (i j : Nat) : Builtin.Slice.slicePlaces (i : Int) (j : Int) 1 = j - i := by
  unfold Builtin.Slice.slicePlaces
  have h1 : (1 : Int) > 0 := by omega
  simp only [h1, if_true, Int.ediv_one]
  split <;> omega
theorem slicePart_ {v : Value} {o : Option Int} {Q : Option Int → Shared → Prop} (p : IsPart v o) (h : Q o s) : wpAny (model prog w) A (Builtin.Slice.slicePartIndex v) Q E s := by
  cases p with
  | none => exact slicePart_none h
  | int i t => exact slicePart_int h
theorem sliceApplied_gen {sl : Addr} {vl vu : Value} {lo hi : Option Int} {n : Nat} {Q : Int × Int × Nat → Shared → Prop} (hs : s.heap.IsSliceOf sl vl vu .none) (pl : IsPart vl lo) (pu : IsPart vu hi)
    (h : Q (((sIx n 0 lo : Nat) : Int), 1, sIx n n hi - sIx n 0 lo) s) : wpAny (model prog w) A (Builtin.Slice.sliceApplied (.ref sl) (pure (n : Int))) Q E s := by
  obtain ⟨os, hos, hcs, hds⟩ := id hs
  unfold Builtin.Slice.sliceApplied Builtin.Slice.sliceFields
  refine wpAny_bind (wpAny_bind (wpAny_field hos hds (x := vl) rfl (wpAny_bind (wpAny_field hos hds (x := vu) rfl (wpAny_bind (wpAny_field hos hds (x := .none) rfl (wpAny_pure ?_)))))))
  refine wpAny_bind (slicePart_none ?_)
  show wpAny _ _ (if ((1 : Int) == 0) = true then _ else _) _ _ s
  rw [if_neg (by decide)]
  refine wpAny_bind (slicePart_ pl (wpAny_bind (slicePart_ pu (wpAny_bind (wpAny_pure ?_)))))
  show wpAny _ _ (match Builtin.Slice.sliceAdjust lo hi 1 (n : Int) with | (lo, hi) => pure (lo, (1 : Int), Builtin.Slice.slicePlaces lo hi 1)) _ _ s
  rw [adjust_gen lo hi n]
  show wpAny _ _ (pure (((sIx n 0 lo : Nat) : Int), (1 : Int), Builtin.Slice.slicePlaces ((sIx n 0 lo : Nat) : Int) ((sIx n n hi : Nat) : Int) 1)) _ _ s
  rw [places_gen]
  exact wpAny_pure h
theorem pick_gen (xs : Array Value) (i k : Nat) : ((List.range k).filterMap fun (m : Nat) => xs[((i : Int) + (m : Int) * 1).toNat]?).toArray = ((xs.toList.drop i).take k).toArray := by
  have e : (fun (m : Nat) => xs[((i : Int) + (m : Int) * 1).toNat]?) = fun m => xs[i + m]? := by
    funext m
    have : ((i : Int) + (m : Int) * 1).toNat = i + m := by omega
    rw [this]
  rw [e]
  have := pick_run xs i k
  rw [List.filterMap_map] at this
  have e2 : ((fun x => xs[x]?) ∘ fun x => i + x) = fun m => xs[i + m]? := rfl
  rw [e2] at this
  rw [this]
theorem getItem_tuple_cut {t sl : Addr} {items : Array Value} {vl vu : Value} {lo hi : Option Int} {Q : Value → Shared → Prop} (ht : IsTup s.heap t items) (hs : s.heap.IsSliceOf sl vl vu .none) (pl : IsPart vl lo) (pu : IsPart vu hi)
    (hw : ¬ (sIx items.size 0 lo = 0 ∧ sIx items.size items.size hi = items.size))
    (h : Q (.ref s.heap.objs.size) { s with heap := s.heap.push { cls := .type "tuple", data := .seq ((items.toList.drop (sIx items.size 0 lo)).take (sIx items.size items.size hi - sIx items.size 0 lo)).toArray } })
    (hsz : items.size ≤ sizeLine) : wpAny (model prog w) A (getItem (.ref t) (.ref sl)) Q E s := by
  have htake : sizeOk (.seq ((items.toList.drop (sIx items.size 0 lo)).take (sIx items.size items.size hi - sIx items.size 0 lo)).toArray) := by
    show ((items.toList.drop (sIx items.size 0 lo)).take (sIx items.size items.size hi - sIx items.size 0 lo)).toArray.size ≤ sizeLine
    rw [List.size_toArray, List.length_take, List.length_drop, Array.length_toList]
    omega
  have hj : sIx items.size items.size hi ≤ items.size := sIx_le _ _ (Nat.le_refl _) hi
  obtain ⟨os, hos, hcs, hds⟩ := id hs
  have hTs : s.TypeIs (.ref sl) "slice" := ⟨os, hos, hcs⟩
  unfold getItem
  try with_reducible refine wpAny_holding ?_
  first | refine wpAny_bind (wpAny_pure ?_) | skip
  refine wpAny_bind (wpAny_sequenceKey ht.typeIs (by decide) ?_)
  refine wpAny_bind (wpAny_callSpecial?_slot (name := Str.ofString "__getitem__") ht.typeIs PyProof.Rows.slot_tuple_getitem
    (wpAny_call_entry PyProof.Rows.slot_tuple_getitem ht.typeIs entry_tuple_getitem ?_ (args_tuple_getitem _ _)))
  show wpAny _ _ (Builtin.Tuple.tupleItemsOf (.ref t) >>= _) _ _ s
  refine wpAny_bind (tupleItemsOf_ ht ?_)
  refine wpAny_bind (wpAny_typeOf hTs ?_)
  rw [if_pos (by decide)]
  refine wpAny_bind (sliceApplied_gen hs pl pu ?_)
  have hno : ¬ ((((sIx items.size 0 lo : Nat) : Int) == 0 && (1 : Int) == 1 && (sIx items.size items.size hi - sIx items.size 0 lo) == items.size) = true) := by
    intro q
    rw [Bool.and_eq_true, Bool.and_eq_true] at q
    have q1 : ((sIx items.size 0 lo : Nat) : Int) = 0 := eq_of_beq q.1.1
    have q2 : sIx items.size items.size hi - sIx items.size 0 lo = items.size := eq_of_beq q.2
    exact hw ⟨by omega, by omega⟩
  show wpAny _ _ (if (((sIx items.size 0 lo : Nat) : Int) == 0 && (1 : Int) == 1 && (sIx items.size items.size hi - sIx items.size 0 lo) == items.size) = true then _ else _) _ _ s
  rw [if_neg hno, pick_gen]
  first
    | exact wpAny_bind (m := Builtin.Tuple.tupleExact _) (wpAny_newObj_type (wpAny_pure ⟨_, rfl, wpAny_pure h⟩) htake)
    | exact wpAny_bind (m := Builtin.Tuple.tupleExact _) (wpAny_newObj_type (wpAny_bind (wpAny_pure (wpAny_pure ⟨_, rfl, wpAny_pure h⟩))) htake)
    | exact wpAny_bind (wpAny_bind (m := Builtin.Tuple.tupleExact _) (wpAny_newObj_type (wpAny_pure (wpAny_pure ⟨_, rfl, wpAny_pure h⟩)) htake))
    | exact wpAny_bind (wpAny_bind (m := Builtin.Tuple.tupleExact _) (wpAny_newObj_type (wpAny_pure ⟨_, rfl, wpAny_pure h⟩) htake))
end
end HT
namespace L2
open PySem PySem.Spec PyProof.Rows
abbrev TO := St → Hp → (Option Int → Hp → Prop) → Prop
def PO (X : Cx) (e : Option Expr) (t : TO) : Prop :=
  ∀ (pins : List (Addr × Obj)) (s : Shared) (σ : St) (H : Hp) (Q : Option Int → Hp → Prop), Inv X pins σ H s → t σ H Q →
    wpAny (model X.prog X.w) X.A (evalPart e X.env) (fun u s' => ∃ o H', Inv X pins σ H' s' ∧ IsPart u o ∧ Q o H') X.xe s
def tNoPart : TO := fun _ H Q => Q none H
def tPart (t : TE) : TO := fun σ H Q => t σ H fun x H1 => ∃ i, x = .int i ∧ Q (some i) H1
section
variable {X : Cx} {e : Expr} {te : TE} {lo hi : Option Expr} {tl th : TO} {pos p2 : Pos}
theorem po_none : PO X none tNoPart := by
  intro pins s σ H Q I h
  rw [evalPart_none]
  exact wpAny_pure ⟨none, H, I, .none, h⟩
theorem po_some (h : PE X e te) : PO X (some e) (tPart te) := by
  intro pins s σ H Q I hw
  rw [evalPart_some]
  refine thn (h pins s σ H _ I hw) fun u s1 ⟨x, H1, I1, r1, q1⟩ => ?_
  obtain ⟨i, rfl, q⟩ := q1
  obtain ⟨t, rfl⟩ := r1
  exact ⟨some i, H1, I1, .int i t, q⟩
def SlR (X : Cx) (r : V → Option Int → Option Int → Hp → VK → Prop) : Prop :=
  ∀ (pins : List (Addr × Obj)) (s : Shared) (σ : St) (H : Hp) (x : V) (v vl vu : Value) (lo hi : Option Int) (sl : Addr) (Q : VK), Inv X pins σ H s → RelV x v → s.heap.IsSliceOf sl vl vu .none → IsPart vl lo → IsPart vu hi → r x lo hi H Q →
    ∃ T id, typeLookup (.type T) "__getitem__" = pure (some (.builtin id)) ∧ s.TypeIs v T ∧ wpAny (model X.prog X.w) X.A (getItem v (.ref sl)) (EP X pins σ Q) X.xe s
def tSl (r : V → Option Int → Option Int → Hp → VK → Prop) (te : TE) (tl th : TO) : TE := fun σ H Q => te σ H fun x H1 => tl σ H1 fun l H2 => th σ H2 fun u H3 => r x l u H3 Q
theorem pe_slice {r : V → Option Int → Option Int → Hp → VK → Prop} (hr : SlR X r) (he : PE X e te) (hl : PO X lo tl) (hu : PO X hi th) : PE X (.Subscript e (.Slice lo hi none p2) pos) (tSl r te tl th) := by
  intro pins s σ H Q I h
  refine Subscript_ (thn (he pins s σ H _ I h) fun v s1 ⟨x, H1, I1, r1, q1⟩ => ?_)
  refine wpAny_Slice (thn (hl pins s1 σ H1 _ I1 q1) fun vl s2 ⟨l, H2, I2, pl, q2⟩ => thn (hu pins s2 σ H2 _ I2 q2) fun vu s3 ⟨u, H3, I3, pu, q3⟩ => ?_)
  rw [evalPart_none]
  refine wpAny_pure ?_
  have I4 : Inv X pins σ H3 { s3 with heap := s3.heap.push { cls := .type "slice", data := .fields #[vl, vu, .none] } } := I3.kept (t' := s3.toks) fun b ob q => Heap.get?_push_of_some _ q
  obtain ⟨T, id, hT, ht, hg⟩ := hr pins { s3 with heap := s3.heap.push { cls := .type "slice", data := .fields #[vl, vu, .none] } } σ H3 x v vl vu l u s3.heap.objs.size Q I4 r1 (Heap.IsSliceOf.new ..) pl pu q3
  show wpAny (model X.prog X.w) X.A (subscriptTail e (.Slice lo hi none p2) v (.ref s3.heap.objs.size)) (EP X pins σ Q) X.xe { s3 with heap := s3.heap.push { cls := .type "slice", data := .fields #[vl, vu, .none] } }
  exact tail_any (ops := [.ref s3.heap.objs.size, v]) ht hT hg (by with_unfolding_all rfl)
def cutV (xs : List V) (lo hi : Option Int) : List V := (xs.drop (HT.sIx xs.length 0 lo)).take (HT.sIx xs.length xs.length hi - HT.sIx xs.length 0 lo)
theorem cutV_length (xs : List V) (lo hi : Option Int) : (cutV xs lo hi).length ≤ xs.length := by
  unfold cutV
  rw [List.length_take, List.length_drop]
  omega
def rSlT (K : PySem.W.Frag) : V → Option Int → Option Int → Hp → VK → Prop := fun x lo hi H Q => ∃ a xs, x = .ref a ∧ SqT K H a xs ∧
  ¬ (HT.sIx xs.length 0 lo = 0 ∧ HT.sIx xs.length xs.length hi = xs.length) ∧ ∀ p, H p = none → Q (.ref p) (upd H p (.tup (cutV xs lo hi)))
theorem sl_tup : SlR X (rSlT X.K) := by
  intro pins s σ H x v vl vu lo hi sl Q I rx hs pl pu h
  obtain ⟨a, xs, rfl, hx, hw, q⟩ := h
  cases rx
  obtain ⟨its, r, ht, hz⟩ := I.tuple hx
  have hlen : its.toArray.size = xs.length := by rw [List.size_toArray]; exact r.length.symm
  refine ⟨"tuple", _, PyProof.Rows.slot_tuple_getitem.lookup, ht.typeIs, ?_⟩
  refine HT.getItem_tuple_cut ht hs pl pu (by rw [hlen]; exact hw) ?_ (by rw [hlen]; exact hz)
  rw [hlen]
  refine ⟨.ref s.heap.objs.size, _, I.laid (t' := s.toks) (o := .tup (cutV xs lo hi)) (fun b ob q => Heap.get?_push_of_some _ q) (Nat.le_refl _) ?_, rfl, q _ (I.hok.fresh (Nat.le_refl _))⟩
  exact ⟨Nat.le_trans (cutV_length xs lo hi) hz, _, (r.drop (HT.sIx xs.length 0 lo)).take (HT.sIx xs.length xs.length hi - HT.sIx xs.length 0 lo), IsTup.new _ _⟩
def rCatT (K : PySem.W.Frag) : R2 := fun x y H Q => ∃ a b xs ys, x = .ref a ∧ y = .ref b ∧ SqT K H a xs ∧ SqT K H b ys ∧ xs ≠ [] ∧ xs.length + ys.length ≤ sizeLine ∧
  (ys = [] → Q (.ref a) H) ∧ (ys ≠ [] → ∀ p, H p = none → Q (.ref p) (upd H p (.tup (xs ++ ys))))
theorem Vals.nil_iff {xs : List V} {us : List Value} (r : Vals xs us) : us = [] ↔ xs = [] := by
  cases r with
  | nil => simp
  | cons _ _ => simp
theorem op_catT : OpR X (binaryOp .Add) (rCatT X.K) := by
  intro pins s σ H x y v u Q I rx ry h
  obtain ⟨a, b, xs, ys, rfl, rfl, ha, hb, hx, hz, q1, q2⟩ := h
  cases rx
  cases ry
  obtain ⟨its, r1, p1, _⟩ := I.tuple ha
  obtain ⟨its2, r2, p2, _⟩ := I.tuple hb
  refine HT.cat_tup p1 p2 (fun z => hx (r1.nil_iff.mp z)) (fun z => ⟨.ref a, H, I, rfl, q1 (r2.nil_iff.mp z)⟩) (fun z => ?_) (by rw [← r1.length, ← r2.length]; exact hz)
  refine ⟨.ref s.heap.objs.size, _, I.laid (t' := s.toks) (o := .tup (xs ++ ys)) (fun b ob q => Heap.get?_push_of_some _ q) (Nat.le_refl _) ?_, rfl, q2 (fun w => z (r2.nil_iff.mpr w)) _ (I.hok.fresh (Nat.le_refl _))⟩
  exact ⟨by rw [List.length_append]; exact hz, _, r1.append r2, IsTup.new _ _⟩
end
end L2
namespace L2
open PySem PySem.Spec PyProof.Rows
def ixN (n : Nat) (i : Int) : Option Nat := if 0 ≤ i then (if i < n then some i.toNat else none) else if -(n : Int) ≤ i then some (i + n).toNat else none
def atI {α : Type} (xs : List α) (i : Int) : Option α := (ixN xs.length i).bind fun j => xs[j]?
theorem ixN_seq {n : Nat} {i : Int} {j : Nat} (h : ixN n i = some j) : seqIndex? i n = some j ∧ j < n ∧ -(n : Int) ≤ i ∧ i < n := by
  unfold ixN at h
  by_cases h0 : 0 ≤ i
  · rw [if_pos h0] at h
    by_cases h1 : i < n
    · rw [if_pos h1] at h
      have e : i.toNat = j := Option.some.inj h
      exact ⟨by rw [seqIndex_of h0 h1, e], by omega, by omega, h1⟩
    · rw [if_neg h1] at h; cases h
  · rw [if_neg h0] at h
    by_cases h1 : -(n : Int) ≤ i
    · rw [if_pos h1] at h
      have e : (i + n).toNat = j := Option.some.inj h
      exact ⟨by rw [seqIndex_neg (by omega) h1, e], by omega, h1, by omega⟩
    · rw [if_neg h1] at h; cases h
theorem atI_get {α : Type} {xs : List α} {i : Int} {v : α} (h : atI xs i = some v) : ∃ j, seqIndex? i xs.length = some j ∧ xs[j]? = some v ∧ j < xs.length ∧ -(xs.length : Int) ≤ i ∧ i < xs.length := by
  unfold atI at h
  cases e : ixN xs.length i with
  | none => rw [e] at h; cases h
  | some j =>
    rw [e] at h
    obtain ⟨h1, h2, h3, h4⟩ := ixN_seq e
    exact ⟨j, h1, h, h2, h3, h4⟩
theorem atI_nat {α : Type} {xs : List α} {j : Nat} {v : α} (h : xs[j]? = some v) : atI xs (j : Int) = some v := by
  have hj : j < xs.length := (List.getElem?_eq_some_iff.mp h).1
  have e : ixN xs.length (j : Int) = some j := by
    unfold ixN
    rw [if_pos (by omega), if_pos (by omega)]; simp
  unfold atI; rw [e]; exact h
def PlainIx (b : Expr) : Prop := ∀ o i, subscripted b false o i = operate [o, i] (getItem o i)
def IxR (X : Cx) (r : R2) : Prop :=
  ∀ (value slice : Expr) (pins : List (Addr × Obj)) (s : Shared) (σ : St) (H : Hp) (x y : V) (v u : Value) (Q : VK), Inv X pins σ H s → RelV x v → RelV y u → r x y H Q →
    subscripted slice false v u = operate [v, u] (getItem v u) → wpAny (model X.prog X.w) X.A (subscriptTail value slice v u) (EP X pins σ Q) X.xe s
def MtR (X : Cx) (id : String) (r : V → List V → Hp → VK → Prop) : Prop :=
  ∀ (pins : List (Addr × Obj)) (s : Shared) (σ : St) (H : Hp) (x : V) (xs : List V) (v : Value) (us : List Value) (Q : VK), Inv X pins σ H s → RelV x v → Vals xs us → r x xs H Q →
    wpAny (model X.prog X.w) X.A (call (.builtin id) (v :: us)) (EP X pins σ Q) X.xe s
section
variable {X : Cx} {a b : Expr} {ta tb : TE} {pos : Pos}
theorem IxR.or {r r' : R2} (h : IxR X r) (h' : IxR X r') : IxR X (fun x y H Q => r x y H Q ∨ r' x y H Q) := by
  intro value slice pins s σ H x y v u Q I rx ry q hs
  rcases q with q | q
  · exact h value slice pins s σ H x y v u Q I rx ry q hs
  · exact h' value slice pins s σ H x y v u Q I rx ry q hs
theorem pe_ix {r : R2} (hr : IxR X r) (ha : PE X a ta) (hb : PE X b tb) (hs : PlainIx b) : PE X (.Subscript a b pos) (tOp r ta tb) := by
  intro pins s σ H Q I h
  exact Subscript_ (binT ha hb I h fun v u s2 x y H2 I2 rx ry q => hr a b pins s2 σ H2 x y v u Q I2 rx ry q (hs _ _))
def rIxL (K : PySem.W.Frag) : R2 := fun x y H Q => ∃ p xs i v, x = .ref p ∧ y = .int i ∧ SqL K H p xs ∧ atI xs i = some v ∧ Q v H
def rIxT (K : PySem.W.Frag) : R2 := fun x y H Q => ∃ p xs i v, x = .ref p ∧ y = .int i ∧ SqT K H p xs ∧ atI xs i = some v ∧ Q v H
def rIxS : R2 := fun x y H Q => ∃ z i c, x = .str z ∧ y = .int i ∧ z.length ≤ sizeLine ∧ atI z.cps.toList i = some c ∧ Q (.str ⟨#[c]⟩) H
theorem ix_list : IxR X (rIxL X.K) := by
  intro value slice pins s σ H x y v u Q I rx ry h hs
  obtain ⟨p, xs, i, z, rfl, rfl, hq, he, q⟩ := h
  cases rx
  obtain ⟨t, rfl⟩ := ry
  obtain ⟨its, r, pl, hz⟩ := I.list hq
  obtain ⟨j, h1, h2, h3, h4, h5⟩ := atI_get he
  obtain ⟨w, ew, rw'⟩ := r.get h2
  have hl := r.length
  have hn := line63
  have fin : EP X pins σ Q w s := ⟨z, H, I, rw', q⟩
  by_cases h0 : 0 ≤ i
  · have hj : i.toNat = j := by
      rw [seqIndex_of h0 h5] at h1
      exact Option.some.inj h1
    exact item_listR pl.isList h0 (by omega) (by rw [hj]; simpa using ew) fin hs
  · have hj : (i + (its.toArray.size : Int)).toNat = j := by
      rw [seqIndex_neg (by omega) h4] at h1
      rw [List.size_toArray, ← hl]
      exact Option.some.inj h1
    exact subscriptTail_builtinR (x := w) pl.isList.typeIs slot_list_getitem.lookup
      (wpAny_getItem_list_neg (Q := fun r s' => r = w ∧ EP X pins σ Q r s') pl.isList (by omega) (by rw [List.size_toArray] <;> omega) (by omega) (by rw [hj]; simpa using ew) ⟨rfl, fin⟩) hs
theorem ix_tup : IxR X (rIxT X.K) := by
  intro value slice pins s σ H x y v u Q I rx ry h hs
  obtain ⟨p, xs, i, z, rfl, rfl, hq, he, q⟩ := h
  cases rx
  obtain ⟨t, rfl⟩ := ry
  obtain ⟨its, r, pl, hz⟩ := I.tuple hq
  obtain ⟨j, h1, h2, h3, h4, h5⟩ := atI_get he
  obtain ⟨w, ew, rw'⟩ := r.get h2
  have hl := r.length
  have hn := line63
  have fin : EP X pins σ Q w s := ⟨z, H, I, rw', q⟩
  exact subscriptTail_builtinR (x := w) pl.typeIs slot_tuple_getitem.lookup
    (getItem_tuple (j := j) (Q := fun r s' => r = w ∧ EP X pins σ Q r s') pl (by omega) (by omega) (by rw [List.size_toArray, ← hl]; exact h1) (by simpa using ew) ⟨rfl, fin⟩) hs
theorem ix_str : IxR X rIxS := by
  intro value slice pins s σ H x y v u Q I rx ry h hs
  obtain ⟨z, i, c, rfl, rfl, hz, he, q⟩ := h
  obtain ⟨t, rfl⟩ := rx
  obtain ⟨t', rfl⟩ := ry
  obtain ⟨j, h1, h2, h3, h4, h5⟩ := atI_get he
  have hl : z.cps.toList.length = z.length := by simp [Str.length]
  rw [hl] at h1 h4 h5
  have hn := line63
  exact tail_any (typeIs_str s z t) slot_str_getitem.lookup (getItem_str (c := c) (by
    have e1 : decide (i < -(2 ^ 63 : Int)) = false := decide_eq_false (by omega)
    have e2 : decide (i ≥ 2 ^ 63) = false := decide_eq_false (by omega)
    rw [e1, e2, Bool.or_false]) (by rw [h1]; simpa using h2) ⟨.str ⟨#[c]⟩, H, I.tok _, ⟨_, rfl⟩, q⟩) hs
def rIx (K : PySem.W.Frag) : R2 := fun x y H Q => rIxL K x y H Q ∨ rIxT K x y H Q ∨ rIxS x y H Q
theorem ix_seq : IxR X (rIx X.K) := ix_list.or (ix_tup.or ix_str)
theorem mapSeq_set (its : List Value) (n j : Nat) (u : Value) : Obj.mapSeq (·.setIfInBounds j u) { cls := .type "list", data := .seq its.toArray n } = { cls := .type "list", data := .seq (its.set j u).toArray n } := by
  simp [Obj.mapSeq]
theorem Inv.lst {pins : List (Addr × Obj)} {σ : St} {H : Hp} {s : Shared} {p : Addr} {xs : List V} (I : Inv X pins σ H s) (h : H p = some (.lst xs)) :
    ∃ (its : List Value) (n : Nat), Vals xs its ∧ s.heap.get? p = some { cls := .type "list", data := .seq its.toArray n } ∧ xs.length ≤ sizeLine := by
  obtain ⟨z, its, n, r, e⟩ := I.hok p _ h
  exact ⟨its, n, r, e, z⟩
theorem Inv.lstUpd {pins : List (Addr × Obj)} {σ : St} {H : Hp} {s : Shared} {p : Addr} {xs ys : List V} {its its' : List Value} {n n' : Nat} {f : Obj → Obj} (I : Inv X pins σ H s) (h : H p = some (.lst xs))
    (ho : s.heap.get? p = some { cls := .type "list", data := .seq its.toArray n }) (hf : f { cls := .type "list", data := .seq its.toArray n } = { cls := .type "list", data := .seq its'.toArray n' }) (r : Vals ys its') (hz : ys.length ≤ sizeLine) (t : Nat) :
    Inv X pins σ (upd H p (.lst ys)) { s with heap := s.heap.update p f, toks := t } := by
  have e : (s.heap.update p f).get? p = some { cls := .type "list", data := .seq its'.toArray n' } := by
    rw [Heap.get?_update_self f ho (by rw [hf] <;> rfl), hf]
  refine I.write (x := p) (e := p) (by rw [h]; trivial) (.inl rfl) (fun b u hb q => (Heap.get?_update_other _ _ (Ne.symm hb)).trans q) ⟨_, e⟩ ?_
  exact ⟨hz, its', n', r, e⟩
def rSetL : V → V → V → Hp → (Hp → Prop) → Prop := fun o i v H Q => ∃ p xs k j, o = .ref p ∧ i = .int k ∧ H p = some (.lst xs) ∧ ixN xs.length k = some j ∧ Q (upd H p (.lst (xs.set j v)))
theorem set_list : PSet X rSetL := by
  intro pins s σ H o i v ov iv u Q I ro ri rv h
  obtain ⟨p, xs, k, j, rfl, rfl, hp, hj, q⟩ := h
  cases ro
  obtain ⟨t, rfl⟩ := ri
  obtain ⟨its, n, r, ho, hz⟩ := I.lst hp
  obtain ⟨h1, h2, h3, h4⟩ := ixN_seq hj
  have hl := r.length
  have hn := line63
  have I' : Inv X pins σ (upd H p (.lst (xs.set j v))) { s with heap := s.heap.update p (Obj.mapSeq (·.setIfInBounds j u)) } :=
    I.lstUpd hp ho (mapSeq_set its n j u) (r.set rv j) (by rw [List.length_set]; exact hz) s.toks
  by_cases h0 : 0 ≤ k
  · have hk : k.toNat = j := by
      rw [seqIndex_of h0 h4] at h1
      exact Option.some.inj h1
    exact PySem.W.ki_setAt ho h0 (by omega) (by rw [List.size_toArray, ← hl]; exact h4) (by rw [hk]; exact ⟨_, I', q⟩)
  · have hk : (k + (its.toArray.size : Int)).toNat = j := by
      rw [seqIndex_neg (by omega) h3] at h1
      rw [List.size_toArray, ← hl]
      exact Option.some.inj h1
    exact PySem.W.ki_setBack ho (by omega) (by rw [List.size_toArray, ← hl]; exact h3) (by omega) (by rw [hk]; exact ⟨_, I', q⟩)
theorem slice_bounds (lo hi : Option Int) (n : Nat) : (sliceBounds lo hi none n).1 = ((HT.sIx n 0 lo : Nat) : Int) ∧ (sliceBounds lo hi none n).2.1 = ((HT.sIx n n hi : Nat) : Int) ∧ (sliceBounds lo hi none n).2.2 = 1 := by
  refine ⟨?_, ?_, rfl⟩
  · cases lo with
    | none => simp [sliceBounds, HT.sIx]
    | some i =>
      simp only [sliceBounds, HT.sIx, Option.getD_none, show (1 : Int) > 0 by decide, if_true]
      by_cases h : i < 0
      · simp only [h, if_true] <;> omega
      · simp only [h, if_false] <;> omega
  · cases hi with
    | none => simp [sliceBounds, HT.sIx]
    | some i =>
      simp only [sliceBounds, HT.sIx, Option.getD_none, show (1 : Int) > 0 by decide, if_true]
      by_cases h : i < 0
      · simp only [h, if_true] <;> omega
      · simp only [h, if_false] <;> omega
theorem slicePick_cut (its : List Value) (lo hi : Option Int) : slicePick its.toArray lo hi none = ((its.drop (HT.sIx its.length 0 lo)).take (HT.sIx its.length its.length hi - HT.sIx its.length 0 lo)).toArray := by
  obtain ⟨h1, h2, h3⟩ := slice_bounds lo hi its.toArray.size
  unfold slicePick
  rw [h1, h2, h3]
  simp only [sliceRange_one, pick_run, List.size_toArray] <;> rfl
def rSlL (K : PySem.W.Frag) : V → Option Int → Option Int → Hp → VK → Prop := fun x lo hi H Q => ∃ a xs, x = .ref a ∧ SqL K H a xs ∧ ∀ p, H p = none → Q (.ref p) (upd H p (.lst (cutV xs lo hi)))
theorem sl_list : SlR X (rSlL X.K) := by
  intro pins s σ H x v vl vu lo hi sl Q I rx hs pl pu h
  obtain ⟨a, xs, rfl, hx, q⟩ := h
  cases rx
  obtain ⟨its, r, ht, hz⟩ := I.list hx
  have hlen := r.length
  refine ⟨"list", _, slot_list_getitem.lookup, ht.isList.typeIs, ?_⟩
  refine wpAny_getItem_list_slice ht.isList hs pl pu .none (by simp) ?_ (by rw [List.size_toArray] <;> omega)
  rw [slicePick_cut, ← hlen]
  refine ⟨.ref s.heap.objs.size, _, I.laid (t' := s.toks) (o := .lst (cutV xs lo hi)) (fun b ob q => Heap.get?_push_of_some _ q) (Nat.le_refl _) ?_, rfl, q _ (I.hok.fresh (Nat.le_refl _))⟩
  exact ⟨Nat.le_trans (cutV_length xs lo hi) hz, _, 0, (r.drop (HT.sIx xs.length 0 lo)).take (HT.sIx xs.length xs.length hi - HT.sIx xs.length 0 lo), Heap.get?_push_size _ rfl⟩
def flatV : V → Bool
  | .non => true
  | .bl _ => true
  | .int _ => true
  | .str _ => true
  | _ => false
def eqV : V → V → Bool
  | .non, .non => true
  | .bl a, .bl b => a == b
  | .bl a, .int b => (if a then 1 else 0) == b
  | .int a, .bl b => a == (if b then 1 else 0)
  | .int a, .int b => a == b
  | .str a, .str b => a == b
  | _, _ => false
theorem eqAt_V {A : Around} {s : Shared} {y x : V} {u v : Value} (ry : RelV y u) (rx : RelV x v) (fy : flatV y = true) (fx : flatV x = true) : SeqAt.EqAt A s u v (eqV y x) := by
  cases y with
  | non =>
    cases ry
    cases x with
    | non => cases rx; exact SeqAt.EqAt.same _
    | bl b => cases rx; exact SeqAt.EqAt.none_bool b
    | int b => obtain ⟨t, rfl⟩ := rx; exact SeqAt.EqAt.none_int b t
    | str b => obtain ⟨t, rfl⟩ := rx; exact SeqAt.EqAt.none_str b t
    | _ => exact absurd (show false = true from fx) Bool.false_ne_true
  | bl a =>
    cases ry
    cases x with
    | non => cases rx; exact SeqAt.EqAt.bool_none a
    | bl b => cases rx; exact SeqAt.EqAt.bool_bool a b
    | int b => obtain ⟨t, rfl⟩ := rx; exact SeqAt.EqAt.bool_int a b t
    | str b => obtain ⟨t, rfl⟩ := rx; exact SeqAt.EqAt.bool_str a b t
    | _ => exact absurd (show false = true from fx) Bool.false_ne_true
  | int a =>
    obtain ⟨t', rfl⟩ := ry
    cases x with
    | non => cases rx; exact SeqAt.EqAt.int_none a t'
    | bl b => cases rx; exact SeqAt.EqAt.int_bool a t' b
    | int b => obtain ⟨t, rfl⟩ := rx; exact SeqAt.EqAt.int_int a t' b t
    | str b => obtain ⟨t, rfl⟩ := rx; exact SeqAt.EqAt.int_str a t' b t
    | _ => exact absurd (show false = true from fx) Bool.false_ne_true
  | str a =>
    obtain ⟨t', rfl⟩ := ry
    cases x with
    | non => cases rx; exact SeqAt.EqAt.str_none a t'
    | bl b => cases rx; exact SeqAt.EqAt.str_bool a t' b
    | int b => obtain ⟨t, rfl⟩ := rx; exact SeqAt.EqAt.str_int a t' b t
    | str b => obtain ⟨t, rfl⟩ := rx; exact SeqAt.EqAt.str_str a t' b t
    | _ => exact absurd (show false = true from fx) Bool.false_ne_true
  | _ => exact absurd (show false = true from fy) Bool.false_ne_true
def eqU (x : V) (u : Value) : Bool := match u with
  | .none => eqV .non x
  | .bool b => eqV (.bl b) x
  | .int i _ => eqV (.int i) x
  | .str z _ => eqV (.str z) x
  | _ => false
theorem eqU_of {x y : V} {u : Value} (r : RelV y u) (f : flatV y = true) : eqU x u = eqV y x := by
  cases y with
  | non => cases r; rfl
  | bl b => cases r; rfl
  | int i => obtain ⟨t, rfl⟩ := r; rfl
  | str z => obtain ⟨t, rfl⟩ := r; rfl
  | _ => exact absurd (show false = true from f) Bool.false_ne_true
theorem any_eqU {x : V} : ∀ {xs : List V} {us : List Value}, Vals xs us → xs.all flatV = true → us.any (eqU x) = xs.any fun y => eqV y x
  | _, _, .nil, _ => rfl
  | y :: xs, u :: us, .cons r t, f => by
    rw [List.all_cons, Bool.and_eq_true] at f
    rw [List.any_cons, List.any_cons, eqU_of r f.1, any_eqU t f.2]
theorem mem_eqAt {A : Around} {s : Shared} {x : V} {v : Value} (rx : RelV x v) (fx : flatV x = true) : ∀ {xs : List V} {us : List Value}, Vals xs us → xs.all flatV = true → ∀ u ∈ us, SeqAt.EqAt A s u v (eqU x u)
  | _, _, .nil, _ => fun u hu => by cases hu
  | y :: xs, u :: us, .cons r t, f => fun u' hu => by
    rw [List.all_cons, Bool.and_eq_true] at f
    rcases List.mem_cons.mp hu with rfl | hu
    · rw [eqU_of r f.1]; exact eqAt_V r rx f.1 fx
    · exact mem_eqAt rx fx t f.2 u' hu
def inV (x : V) (xs : List V) : Bool := xs.any fun y => eqV y x
def rIn (K : PySem.W.Frag) (neg : Bool) : R2 := fun x y H Q => ∃ p xs, y = .ref p ∧ (SqL K H p xs ∨ SqT K H p xs) ∧ flatV x = true ∧ xs.all flatV = true ∧ Q (.bl (if neg then !inV x xs else inV x xs)) H
theorem op_in_seq : OpR X (compareOp .In) (rIn X.K false) := by
  intro pins s σ H x y v u Q I rx ry h
  obtain ⟨p, xs, rfl, hq, fx, fs, q⟩ := h
  cases ry
  rcases hq with hq | hq
  · obtain ⟨its, r, pl, hz⟩ := I.list hq
    refine SeqAt.in_listAt (eqU x) pl.isList (fun w hw => mem_eqAt rx fx r fs w (by simpa using hw)) ⟨.bl _, H, I, rfl, ?_⟩
    rw [show its.toArray.any (eqU x) = its.any (eqU x) by simp, any_eqU r fs]
    exact q
  · obtain ⟨its, r, pl, hz⟩ := I.tuple hq
    refine SeqAt.in_tupleAt (eqU x) pl (fun w hw => mem_eqAt rx fx r fs w (by simpa using hw)) ⟨.bl _, H, I, rfl, ?_⟩
    rw [show its.toArray.any (eqU x) = its.any (eqU x) by simp, any_eqU r fs]
    exact q
theorem call_len_seq : CallR X (.builtin "len") (fun xs H Q => ∃ p ys, xs = [.ref p] ∧ (SqL X.K H p ys ∨ SqT X.K H p ys) ∧ Q (.int ys.length) H) := by
  intro pins s σ H xs us Q I r h
  obtain ⟨p, ys, rfl, hq, q⟩ := h
  obtain ⟨u, rfl, rx⟩ := vals1 r
  cases rx
  have hn := line63
  rcases hq with hq | hq
  · obtain ⟨its, r', pl, hz⟩ := I.list hq
    have hlen := r'.length
    exact Calls.call_len_list pl.isList (by simp only [List.size_toArray] <;> omega) ⟨.int ys.length, H, I.tok _, ⟨s.toks + 1, by rw [List.size_toArray, hlen]⟩, q⟩
  · obtain ⟨its, r', pl, hz⟩ := I.tuple hq
    have hlen := r'.length
    exact len_tuple pl (by simp only [List.size_toArray] <;> omega) ⟨.int ys.length, H, I.tok _, ⟨s.toks + 1, by rw [List.size_toArray, hlen]⟩, q⟩
theorem call_len_str : CallR X (.builtin "len") (fun xs H Q => ∃ z, xs = [.str z] ∧ z.length ≤ sizeLine ∧ Q (.int z.length) H) := by
  intro pins s σ H xs us Q I r h
  obtain ⟨z, rfl, hz, q⟩ := h
  obtain ⟨u, rfl, t, rfl⟩ := vals1 r
  have hn := line63
  exact len_str (by omega) ⟨.int z.length, H, I.tok _, ⟨_, rfl⟩, q⟩
theorem call_list_of : CallR X (.type "list") (fun xs H Q => ∃ p ys, xs = [.ref p] ∧ (SqL X.K H p ys ∨ SqT X.K H p ys) ∧ ∀ l, H l = none → Q (.ref l) (upd H l (.lst ys))) := by
  intro pins s σ H xs us Q I r h
  obtain ⟨p, ys, rfl, hq, q⟩ := h
  obtain ⟨u, rfl, rx⟩ := vals1 r
  cases rx
  have fin : ∀ (its : List Value), Vals ys its → ys.length ≤ sizeLine → ∀ (h' : Heap) (c' : Nat), (∀ b o', s.heap.get? b = some o' → h'.get? b = some o') →
      h'.get? s.heap.objs.size = some { cls := .type "list", dict := none, data := .seq its.toArray c', slots := #[] } → EP X pins σ Q (.ref s.heap.objs.size) { s with heap := h' } := fun its r' hz h' c' kp e =>
    ⟨.ref s.heap.objs.size, _, I.laid (t' := s.toks) kp (Nat.le_refl _) (show ObjOk X.prog X.w _ h' _ (.lst ys) from ⟨hz, its, c', r', e⟩), rfl, q _ (I.hok.fresh (Nat.le_refl _))⟩
  rcases hq with hq | hq
  · obtain ⟨its, r', pl, hz⟩ := I.list hq
    have hlen := r'.length
    obtain ⟨o, ho, hc, n, hd⟩ := pl.isList
    exact call_list_seq p (.inl rfl) ho hc hd (fun h' c' kp e => fin its r' hz h' c' kp e) (by simp only [List.size_toArray] <;> omega)
  · obtain ⟨its, r', pl, hz⟩ := I.tuple hq
    have hlen := r'.length
    obtain ⟨o, ho, hc, n, hd⟩ := pl
    exact call_list_seq p (.inr rfl) ho hc hd (fun h' c' kp e => fin its r' hz h' c' kp e) (by simp only [List.size_toArray] <;> omega)
theorem call_tuple_of : CallR X (.type "tuple") (fun xs H Q => ∃ p ys, xs = [.ref p] ∧ ((SqL X.K H p ys ∧ ∀ l, H l = none → Q (.ref l) (upd H l (.tup ys))) ∨ (SqT X.K H p ys ∧ Q (.ref p) H))) := by
  intro pins s σ H xs us Q I r h
  obtain ⟨p, ys, rfl, h⟩ := h
  obtain ⟨u, rfl, rx⟩ := vals1 r
  cases rx
  rcases h with ⟨hq, q⟩ | ⟨hq, q⟩
  · obtain ⟨its, r', pl, hz⟩ := I.list hq
    have hlen := r'.length
    refine call_tuple_list pl.isList (fun h' kp => ?_) (by simp only [List.size_toArray] <;> omega)
    have I1 : Inv X pins σ H { s with heap := h' } := I.kept (t' := s.toks) kp
    have I2 : Inv X pins σ (upd H h'.objs.size (.tup ys)) { s with heap := h'.push { cls := .type "tuple", data := .seq its.toArray } } :=
      I1.laid (t' := s.toks) (fun b o e => Heap.get?_push_of_some _ e) (Nat.le_refl _) (show ObjOk X.prog X.w _ _ _ (.tup ys) from ⟨hz, its, r', IsTup.new _ _⟩)
    exact ⟨.ref h'.objs.size, _, I2, rfl, q _ (I1.hok.fresh (Nat.le_refl _))⟩
  · obtain ⟨its, r', pl, hz⟩ := I.tuple hq
    exact call_tuple_same pl ⟨.ref p, H, I, rfl, q⟩
def tyV (K : PySem.W.Frag) (T : String) (x : V) (H : Hp) : Prop := match x with
  | .str _ => T = "str"
  | .int _ => T = "int"
  | .ref p => (T = "list" ∧ ∃ xs, SqL K H p xs) ∨ (T = "tuple" ∧ ∃ o, K.lookup p = some o ∧ o.cls = .type "tuple" ∧ o.dict = none) ∨
      (T = "dict" ∧ ((∃ kvs, H p = some (.dK kvs)) ∨ ∃ kvs, H p = some (.dT kvs))) ∨ (T = "set" ∧ ∃ S n, H p = some (.set S n))
  | _ => False
theorem tyV_is {pins : List (Addr × Obj)} {σ : St} {H : Hp} {s : Shared} {T : String} {x : V} {v : Value} (I : Inv X pins σ H s) (r : RelV x v) (ty : tyV X.K T x H) :
    s.TypeIs v T ∧ ∀ a, v = .ref a → ∃ ob, s.heap.get? a = some ob ∧ ob.dict = none := by
  cases x with
  | str z =>
    obtain ⟨t, rfl⟩ := r
    cases (show T = "str" from ty)
    exact ⟨typeIs_str s z t, fun _ e => nomatch e⟩
  | int i =>
    obtain ⟨t, rfl⟩ := r
    cases (show T = "int" from ty)
    exact ⟨typeIs_int s i t, fun _ e => nomatch e⟩
  | ref p =>
    cases r
    rcases ty with ⟨rfl, xs, hq⟩ | ⟨rfl, o, hk, hc, hd⟩ | ⟨rfl, hk⟩ | ⟨rfl, S, n, hk⟩
    · obtain ⟨its, _, pl, _⟩ := I.list hq
      refine ⟨pl.isList.typeIs, fun a e => ?_⟩
      cases e
      obtain ⟨o, n, e, c, hd, _⟩ := pl
      exact ⟨o, e, hd⟩
    · refine ⟨⟨o, I.kIn p o hk, hc⟩, fun a e => ?_⟩
      cases e
      exact ⟨o, I.kIn _ o hk, hd⟩
    · have z : ∃ o, s.heap.get? p = some o ∧ o.ExactDict := by
        rcases hk with ⟨kvs, hk⟩ | ⟨kvs, hk⟩
        · obtain ⟨_, _, _, _, o, _, _, e, ex, _⟩ := I.hok p _ hk
          exact ⟨o, e, ex⟩
        · obtain ⟨_, _, _, _, o, _, _, e, ex, _⟩ := I.hok p _ hk
          exact ⟨o, e, ex⟩
      obtain ⟨o, e, ex⟩ := z
      refine ⟨⟨o, e, ex.1⟩, fun a e2 => ?_⟩
      cases e2
      exact ⟨o, e, ex.2.1⟩
    · obtain ⟨o, _, _, _, e, ex, _⟩ := I.hok p _ hk
      refine ⟨⟨o, e, ex.1⟩, fun a e2 => ?_⟩
      cases e2
      exact ⟨o, e, ex.2.1⟩
  | _ => exact False.elim ty
def tBM0 (K : PySem.W.Frag) (T : String) (r : V → List V → Hp → VK → Prop) (to : TE) : TE := fun σ H Q => to σ H fun x H1 => tyV K T x H1 ∧ r x [] H1 Q
def tBM (K : PySem.W.Frag) (T : String) (r : V → List V → Hp → VK → Prop) (to : TE) (t : TA) : TE := fun σ H Q => to σ H fun x H1 => tyV K T x H1 ∧ t σ H1 fun xs H2 => r x xs H2 Q
variable {o e : Expr} {es : List Expr} {to : TE} {t : TA} {name : Str} {apos cpos : Pos} {T id : String} {r : V → List V → Hp → VK → Prop}
theorem pe_bm (pa : PlainAttrs T) (slot : Slot T name id) (hty : typeOf (.builtin id) = pure (.type "method_descriptor")) (hm : MtR X id r) (ho : PE X o to) (ha : PA X (e :: es) t)
    (hbase : attributeBase o name X.env (eval o X.env) = eval o X.env := by rfl)
    (hfew : ((backTo cpos (starEach (e :: es) X.env)).all (fun x => !x.1) && (backToKw cpos (keywordEach [] X.env)).all (fun x => x.1.isSome)
      && decide ((e :: es).length + ([] : List Keyword).length + (if ([] : List Keyword).isEmpty then 0 else 1) < 30)) = true := by rfl)
    (hline : (apos.endLine == cpos.line) = true := by rfl) (hs : starEach (e :: es) X.env = (false, eval e X.env) :: starEach es X.env := by rfl) (hplain : (backTo cpos (starEach es X.env)).any (·.1) = false := by rfl) :
    PE X (.Call (.Attribute o name apos) (e :: es) [] cpos) (tBM X.K T r to t) := by
  intro pins s σ H Q I h
  refine wpAny_Call_method_late hbase hfew hline rfl (thn (ho pins s σ H _ I h) fun v s1 ⟨x, H1, I1, r1, ty, q1⟩ => ?_)
  obtain ⟨h1, h2⟩ := tyV_is I1 r1 ty
  refine ⟨T, id, pa, slot, hty, h1, h2, ?_⟩
  have hA := ha cpos pins s1 σ H1 _ I1 q1
  rw [hs] at hA ⊢
  refine Calls.callWith_builtin (by show (false || (backTo cpos (starEach es X.env)).any (·.1)) = false; rw [hplain] <;> rfl) (Calls.evalArgs_plain ?_)
  exact thn hA fun us s2 ⟨vs, H2, I2, r2, q2⟩ => hm pins s2 σ H2 x vs v us Q I2 r1 r2 q2
/- xs.append(e), list.index on a module's tuple .. are MtR facts of 06m -/
end
end L2
namespace L2
open PySem PySem.Spec PyProof.Rows
def MtM (X : Cx) (id : String) (r : V → List V → Hp → VK → Prop) : Prop :=
  ∀ (pins : List (Addr × Obj)) (s : Shared) (σ : St) (H : Hp) (x : V) (xs : List V) (v : Value) (us : List Value) (Q : VK), Inv X pins σ H s → RelV x v → Vals xs us → r x xs H Q →
    wpAny (model X.prog X.w) X.A (call (.builtin id) (v :: us)) (EP X pins σ Q) X.xe s
theorem Vals.one : ∀ {x : V} {us : List Value}, Vals [x] us → ∃ u, us = [u] ∧ RelV x u
  | _, _, .cons r .nil => ⟨_, rfl, r⟩
theorem Vals.rep {xs : List V} {us : List Value} (h : Vals xs us) : ∀ k : Nat, Vals (List.replicate k xs).flatten (List.replicate k us).flatten
  | 0 => .nil
  | k + 1 => by
    rw [List.replicate_succ, List.replicate_succ, List.flatten_cons, List.flatten_cons]
    exact Vals.append h (Vals.rep h k)
theorem foldl_rep (its : List Value) : ∀ (k : Nat) (acc : List Value),
    List.foldl (fun x1 x2 => x1 ++ x2) acc.toArray (List.replicate k its.toArray) = (acc ++ (List.replicate k its).flatten).toArray
  | 0, acc => by simp
  | k + 1, acc => by
    have e : acc.toArray ++ its.toArray = (acc ++ its).toArray := by simp
    have e2 : (acc ++ its) ++ (List.replicate k its).flatten = acc ++ (List.replicate (k + 1) its).flatten := by
      rw [List.replicate_succ, List.flatten_cons, List.append_assoc]
    rw [← e2, ← foldl_rep its k (acc ++ its), ← e, List.replicate_succ, List.foldl_cons]
section
variable {X : Cx} {pins : List (Addr × Obj)} {σ : St} {H : Hp} {s : Shared} {l b : Addr} {xs ys zs : List V}
theorem Inv.lset {its its' : List Value} {n : Nat} {f : Array Value → Array Value} {t' : Nat} (I : Inv X pins σ H s) (hH : H l = some (.lst xs))
    (e : s.heap.get? l = some { cls := .type "list", data := .seq its.toArray n }) (hf : f its.toArray = its'.toArray) (hv : Vals ys its') (hz : ys.length ≤ sizeLine) :
    Inv X pins σ (upd H l (.lst ys)) { s with heap := s.heap.update l (Obj.mapSeq f), toks := t' } := by
  have q := PySem.IsL.update e f
  rw [hf] at q
  refine I.write (x := l) (e := l) (by rw [hH]; exact trivial) (.inl rfl) (fun b' u hb hu => (Heap.get?_update_other s.heap (Obj.mapSeq f) (Ne.symm hb)).trans hu) ⟨_, q⟩ ?_
  exact ⟨hz, its', _, hv, q⟩
theorem Inv.lnew {its : List Value} {t' : Nat} (I : Inv X pins σ H s) (hv : Vals ys its) (hz : ys.length ≤ sizeLine) :
    Inv X pins σ (upd H s.heap.objs.size (.lst ys)) { s with heap := s.heap.push { cls := .type "list", data := .seq its.toArray }, toks := t' } :=
  I.laid (fun _ _ q => Heap.get?_push_of_some _ q) (Nat.le_refl _) ⟨hz, its, 0, hv, Heap.get?_push_size _ rfl⟩
theorem Inv.fresh (I : Inv X pins σ H s) : H s.heap.objs.size = none := I.hok.fresh (Nat.le_refl _)
theorem Inv.lstM (I : Inv X pins σ H s) (hH : H l = some (.lst xs)) : xs.length ≤ sizeLine ∧ ∃ (its : List Value) (n : Nat), Vals xs its ∧ xs.length = its.length ∧ s.heap.get? l = some { cls := .type "list", data := .seq its.toArray n } := by
  obtain ⟨z, its, n, r, e⟩ := I.hok l _ hH
  exact ⟨z, its, n, r, r.length, e⟩
theorem notLongL {n : Nat} (h : n ≤ sizeLine) : Builtin.List.listTooLong n = false := by
  unfold Builtin.List.listTooLong
  exact decide_eq_false (by omega)
end
section
variable {X : Cx}
def rAppend : V → List V → Hp → VK → Prop := fun x vs H Q => ∃ l xs y, x = .ref l ∧ vs = [y] ∧ H l = some (.lst xs) ∧ xs.length < sizeLine ∧ Q .non (upd H l (.lst (xs ++ [y])))
theorem mt_append : MtM X "list.append" rAppend := by
  intro pins s σ H x vs v us Q I rx rv h
  obtain ⟨l, xs, y, rfl, rfl, hH, hz, q⟩ := h
  cases rx
  obtain ⟨u, rfl, ru⟩ := rv.one
  obtain ⟨z, its, n, r, hl, e⟩ := I.lstM hH
  refine call_meets F.slot_list_append ⟨_, e, rfl⟩ F.entry_list_append (F.args_list_append_2 _ _) (PySem.list_append l its.toArray n u (by rw [List.size_toArray]; omega)) ⟨e, ?_⟩
  refine ⟨.non, _, I.lset (its' := its ++ [u]) hH e (by simp) (r.append (.cons ru .nil)) ?_, rfl, q⟩
  rw [List.length_append, List.length_singleton]
  omega
def rCat : R2 := fun x y H Q => ∃ l b xs zs, x = .ref l ∧ y = .ref b ∧ H l = some (.lst xs) ∧ H b = some (.lst zs) ∧ xs.length + zs.length ≤ sizeLine ∧ ∀ p, H p = none → Q (.ref p) (upd H p (.lst (xs ++ zs)))
theorem op_cat : OpR X (binaryOp .Add) rCat := by
  intro pins s σ H x y v u Q I rx ry h
  obtain ⟨l, b, xs, zs, rfl, rfl, hH, hB, hz, q⟩ := h
  cases rx
  cases ry
  obtain ⟨z, its, n, r, hl, e⟩ := I.lstM hH
  obtain ⟨z2, its2, n2, r2, hl2, e2⟩ := I.lstM hB
  refine PySem.P.add_list e e2 ?_ (by rw [List.size_toArray, List.size_toArray]; omega)
  have ea : its.toArray ++ its2.toArray = (its ++ its2).toArray := by simp
  rw [ea]
  exact ⟨.ref _, _, I.lnew (t' := s.toks) (r.append r2) (by rw [List.length_append]; omega), rfl, q _ I.fresh⟩
def rRep : R2 := fun x y H Q => ∃ l k xs, x = .ref l ∧ y = .int k ∧ H l = some (.lst xs) ∧ -(2 ^ 63) ≤ k ∧ k < 2 ^ 63 ∧ xs.length * k.toNat ≤ sizeLine ∧
  ∀ p, H p = none → Q (.ref p) (upd H p (.lst (List.replicate k.toNat xs).flatten))
theorem len_rep {α : Type} (xs : List α) (k : Nat) : (List.replicate k xs).flatten.length = k * xs.length := by
  induction k with
  | zero => simp
  | succ k ih => rw [List.replicate_succ, List.flatten_cons, List.length_append, ih, Nat.succ_mul, Nat.add_comm]
theorem op_rep : OpR X (binaryOp .Mult) rRep := by
  intro pins s σ H x y v u Q I rx ry h
  obtain ⟨l, k, xs, rfl, rfl, hH, h1, h2, hz, q⟩ := h
  cases rx
  obtain ⟨t, rfl⟩ := ry
  obtain ⟨z, its, n, r, hl, e⟩ := I.lstM hH
  have hlen : its.toArray.size * k.toNat ≤ sizeLine := by rw [List.size_toArray, ← hl]; exact hz
  have hcap : ¬ its.toArray.size * k.toNat > (2 ^ 63 - 1) / 8 := by
    have : (sizeLine : Nat) ≤ (2 ^ 63 - 1) / 8 := by decide
    omega
  have hfit : ¬ (!Builtin.List.listFitsIndex k) = true := by
    rw [fitsIndex_both h1 h2]
    exact Bool.false_ne_true
  have hlong : ¬ Builtin.List.listTooLong (its.toArray.size * k.toNat) = true := by
    rw [notLongL hlen]
    exact Bool.false_ne_true
  have hnew : List.foldl (fun x1 x2 => x1 ++ x2) #[] (List.replicate (if its.toArray.isEmpty = true then 0 else k.toNat) its.toArray) = (List.replicate k.toNat its).flatten.toArray := by
    have f0 : ∀ m : Nat, List.foldl (fun x1 x2 => x1 ++ x2) #[] (List.replicate m its.toArray) = (List.replicate m its).flatten.toArray := fun m => by
      have := foldl_rep its m []
      rw [List.nil_append] at this
      exact this
    rw [f0]
    cases its with
    | nil => simp
    | cons a r' => rw [if_neg (by simp)]
  refine wpAny_binaryOp_repeat_ref (T := "list") (U := "int") (by decide) ⟨_, e, rfl⟩ (fun s' => typeIs_int s' k t) noFill_list_mul F.fills_int_mul F.slot_int_rmul repeat_list F.slot_int_index.lookup
    (call_meets F.slot_int_rmul (typeIs_int s k t) F.entry_int_rmul (F.args_int_rmul_2 _ _) (int___rmul___int_list k t l its.toArray n)
      ⟨e, rfl, ⟨_, e, rfl⟩, call_meets F.slot_list_mul ⟨_, e, rfl⟩ F.entry_list_mul (F.args_list_mul_2 _ _) (AutoListH.list___mul___list_int_3 l its.toArray n k t hfit hcap hlong) ⟨e, ?_⟩⟩)
  rw [hnew]
  exact ⟨.ref _, _, I.lnew (t' := s.toks) (r.rep k.toNat) (by rw [len_rep, Nat.mul_comm]; exact hz), rfl, q _ I.fresh⟩
end
section
variable {prog : Program} {w : World} {A : Around} {E : Value → Shared → Prop} {s : Shared}
set_option maxRecDepth 100000 in
end
section
variable {X : Cx}
end
end L2
namespace L2
open PySem PySem.Spec PyProof.Rows
section
variable {κ : Type} [DecidableEq κ]
def valV (kvs : List (κ × V)) (k : κ) : Option V := (kvs.find? fun kv => decide (kv.1 = k)).map (·.2)
def putK (kvs : List (κ × V)) (k : κ) (v : V) : List (κ × V) :=
  if (kvs.any fun kv => decide (kv.1 = k)) = true then kvs.map (fun kv => if kv.1 = k then (kv.1, v) else kv) else kvs ++ [(k, v)]
def dropK (kvs : List (κ × V)) (k : κ) : List (κ × V) := kvs.filter fun kv => decide (kv.1 ≠ k)
theorem valV_pos {p : κ × V} {r : List (κ × V)} {k : κ} (e : p.1 = k) : valV (p :: r) k = some p.2 := by simp [valV, List.find?_cons, e]
theorem valV_neg {p : κ × V} {r : List (κ × V)} {k : κ} (e : ¬ p.1 = k) : valV (p :: r) k = valV r k := by simp [valV, List.find?_cons, e]
theorem valV_any (k : κ) : ∀ kvs : List (κ × V), (kvs.any fun kv => decide (kv.1 = k)) = (valV kvs k).isSome
  | [] => rfl
  | p :: r => by
    rw [List.any_cons]
    by_cases e : p.1 = k
    · simp only [valV_pos e, decide_eq_true e, Bool.true_or, Option.isSome_some]
    · rw [valV_neg e, decide_eq_false e, Bool.false_or]; exact valV_any k r
theorem length_putK (kvs : List (κ × V)) (k : κ) (v : V) : (putK kvs k v).length ≤ kvs.length + 1 := by
  unfold putK
  split
  · rw [List.length_map]; omega
  · rw [List.length_append, List.length_cons, List.length_nil]; omega
theorem RelO.isSome_eq {o : Option V} {u : Option Value} (r : RelO o u) : o.isSome = u.isSome := by
  cases o with
  | none => cases u with
    | none => rfl
    | some _ => exact (show False from r).elim
  | some _ => cases u with
    | none => exact (show False from r).elim
    | some _ => rfl
theorem KV.val {kvs : List (κ × V)} {vs : List (κ × Value)} (r : KV kvs vs) (k : κ) : RelO (valV kvs k) (valueAt vs k) := by
  unfold KV at r
  induction r with
  | nil => exact True.intro
  | @cons p q ps qs h t ih =>
    obtain ⟨h1, h2⟩ := h
    by_cases e : p.1 = k
    · have e' : q.1 = k := h1.symm.trans e
      have b : valueAt (q :: qs) k = some q.2 := by simp [valueAt, List.find?_cons, e']
      rw [valV_pos e, b]; exact h2
    · have e' : ¬ q.1 = k := fun z => e (h1.trans z)
      have b : valueAt (q :: qs) k = valueAt qs k := by simp [valueAt, List.find?_cons, e']
      rw [valV_neg e, b]; exact ih
theorem KV.any {kvs : List (κ × V)} {vs : List (κ × Value)} (r : KV kvs vs) (k : κ) : (kvs.any fun kv => decide (kv.1 = k)) = vs.any fun kv => decide (kv.1 = k) := by
  unfold KV at r
  induction r with
  | nil => rfl
  | cons h t ih => rw [List.any_cons, List.any_cons, ih, h.1]
theorem KV.repl {kvs : List (κ × V)} {vs : List (κ × Value)} (r : KV kvs vs) (k : κ) {y : V} {u : Value} (ry : RelV y u) :
    KV (kvs.map fun kv => if kv.1 = k then (kv.1, y) else kv) (vs.map fun kv => if kv.1 = k then (kv.1, u) else kv) := by
  unfold KV at r ⊢
  induction r with
  | nil => exact .nil
  | @cons p q ps qs h t ih =>
    rw [List.map_cons, List.map_cons]
    refine .cons ?_ ih
    obtain ⟨h1, h2⟩ := h
    by_cases e : p.1 = k
    · rw [if_pos e, if_pos (h1.symm.trans e)]; exact ⟨h1, ry⟩
    · rw [if_neg e, if_neg (fun z => e (h1.trans z))]; exact ⟨h1, h2⟩
theorem KV.put {kvs : List (κ × V)} {vs : List (κ × Value)} (r : KV kvs vs) (k : κ) {y : V} {u : Value} (ry : RelV y u) : KV (putK kvs k y) (stored vs k u) := by
  unfold putK stored
  rw [r.any k]
  by_cases e : (vs.any fun kv => decide (kv.1 = k)) = true
  · rw [if_pos e, if_pos e]; exact r.repl k ry
  · rw [if_neg e, if_neg e]; exact Paired.snoc r ⟨rfl, ry⟩
theorem KV.length {kvs : List (κ × V)} {vs : List (κ × Value)} (r : KV kvs vs) : kvs.length = vs.length := Paired.length r
end
theorem kV_is {P : Program} {w : World} {k : Key} {u : Value} (r : RelV (kV k) u) : (mixKind P w).is k u = true := by
  cases k with
  | inl i => obtain ⟨t, e⟩ := (show ∃ t, u = Value.int i t from r); subst e; exact mixKind_int P w i t
  | inr x => obtain ⟨t, e⟩ := (show ∃ t, u = Value.str x t from r); subst e; exact mixKind_str P w x t
theorem items_are {P : Program} {w : World} : ∀ {ks : List Key} {us : List Value}, Vals (ks.map kV) us → ItemsAre (mixKind P w) ks us
  | [], _, r => by rw [List.map_nil] at r; cases r; exact .nil
  | k :: ks, _, r => by
    rw [List.map_cons] at r
    cases r with
    | cons h t => exact .cons (kV_is h) (items_are t)
abbrev KT (H : Hp) : List (List Key × V) → List (List Key × Addr × Value) → Prop := Paired fun p q => p.1 = q.1 ∧ H q.2.1 = some (.tup (p.1.map kV)) ∧ RelV p.2 q.2.2
theorem KT.val {H : Hp} {kvs : List (List Key × V)} {xs : List (List Key × Addr × Value)} (r : KT H kvs xs) (k : List Key) : RelO (valV kvs k) ((atKey xs k).map (·.2)) := by
  induction r with
  | nil => exact True.intro
  | @cons p q ps qs h t ih =>
    obtain ⟨h1, _, h2⟩ := h
    by_cases e : p.1 = k
    · have e' : q.1 = k := h1.symm.trans e
      have b : atKey (q :: qs) k = some q.2 := by simp [atKey, List.find?_cons, e']
      rw [valV_pos e, b]; exact h2
    · have e' : ¬ q.1 = k := fun z => e (h1.trans z)
      have b : atKey (q :: qs) k = atKey qs k := by simp [atKey, List.find?_cons, e']
      rw [valV_neg e, b]; exact ih
theorem KT.repl {H : Hp} {kvs : List (List Key × V)} {xs : List (List Key × Addr × Value)} (r : KT H kvs xs) (k : List Key) {y : V} {u : Value} (ry : RelV y u) :
    KT H (kvs.map fun kv => if kv.1 = k then (kv.1, y) else kv) (xs.map (putAt k u)) := by
  induction r with
  | nil => exact .nil
  | @cons p q ps qs h t ih =>
    rw [List.map_cons, List.map_cons]
    refine .cons ?_ ih
    obtain ⟨h1, h2, h3⟩ := h
    unfold putAt
    by_cases e : p.1 = k
    · rw [if_pos e, if_pos (h1.symm.trans e)]; exact ⟨h1, h2, ry⟩
    · rw [if_neg e, if_neg (fun z => e (h1.trans z))]; exact ⟨h1, h2, h3⟩
theorem KT.put {H : Hp} {kvs : List (List Key × V)} {xs : List (List Key × Addr × Value)} (r : KT H kvs xs) (k : List Key) {b : Addr} {y : V} {u : Value} (hb : H b = some (.tup (k.map kV))) (ry : RelV y u) :
    KT H (putK kvs k y) (storedH xs k b u) := by
  have e : (kvs.any fun kv => decide (kv.1 = k)) = (atKey xs k).isSome := by
    rw [valV_any, (r.val k).isSome_eq, Option.isSome_map]
  unfold putK storedH
  rw [e]
  by_cases q : (atKey xs k).isSome = true
  · rw [if_pos q, if_pos q]; exact r.repl k ry
  · rw [if_neg q, if_neg q]; exact Paired.snoc r ⟨rfl, hb, ry⟩
theorem KT.keeps {H H' : Hp} {kvs : List (List Key × V)} {xs : List (List Key × Addr × Value)} (r : KT H kvs xs) (ht : ∀ b ys, H b = some (.tup ys) → H' b = some (.tup ys)) : KT H' kvs xs :=
  Paired.mapP r fun _ _ z => ⟨z.1, ht _ _ z.2.1, z.2.2⟩
section
variable {P : Program} {w : World} {H : Hp} {h : Heap} {a : Addr}
theorem rd_of {u : HO} (ok : HOk P w H h) (e : Rd H a u) : ObjOk P w H h a u := e.ok ok
theorem dk_rd {kvs : List (Key × V)} (ok : HOk P w H h) (e : Rd H a (.dK kvs)) : kvs.length ≤ sizeLine ∧ (a == sysModules) = false ∧ ∃ vs, KV kvs vs ∧ h.DictOf (mixKind P w) a vs :=
  show ObjOk P w H h a (.dK kvs) from rd_of ok e
theorem dk_of {kvs : List (Key × V)} (ok : HOk P w H h) (e : H a = some (.dK kvs)) : kvs.length ≤ sizeLine ∧ (a == sysModules) = false ∧ ∃ vs, KV kvs vs ∧ h.DictOf (mixKind P w) a vs := dk_rd ok (.inl e)
theorem key_of {ks : List Key} (ok : HOk P w H h) (e : H a = some (.tup (ks.map kV))) : (tupleKind (mixKind P w)).is h ks a := by
  obtain ⟨_, its, r, o, h1, h2, n, h3⟩ := (show ObjOk P w H h a (.tup (ks.map kV)) from ok a _ e)
  exact ⟨o, its.toArray, n, h1, h2, h3, by simpa using items_are r⟩
theorem dt_rd {kvs : List (List Key × V)} (ok : HOk P w H h) (e : Rd H a (.dT kvs)) : kvs.length ≤ sizeLine ∧ (a == sysModules) = false ∧
    ∃ xs, KT H kvs xs ∧ h.DictOfH (tupleKind (mixKind P w)) a xs := by
  obtain ⟨z, y, xs, r, o, es, ep, h1, h2, h3, h4, h5⟩ := (show ObjOk P w H h a (.dT kvs) from rd_of ok e)
  refine ⟨z, y, xs, r, o, es, ep, h1, h2, h3, h4, fun x hx => ?_, h5⟩
  have all : ∀ {l : List (List Key × V)} {m : List (List Key × Addr × Value)}, KT H l m → ∀ x ∈ m, (tupleKind (mixKind P w)).is h x.1 x.2.1 := by
    intro l m q
    induction q with
    | nil => intro x hx; exact nomatch hx
    | @cons p q ps qs hq t ih =>
      intro x hx
      rcases List.mem_cons.mp hx with e | hx
      · subst e
        exact key_of ok (by rw [← hq.1]; exact hq.2.1)
      · exact ih x hx
  exact all r x hx
theorem dt_of {kvs : List (List Key × V)} (ok : HOk P w H h) (e : H a = some (.dT kvs)) : kvs.length ≤ sizeLine ∧ (a == sysModules) = false ∧
    ∃ xs, KT H kvs xs ∧ h.DictOfH (tupleKind (mixKind P w)) a xs := dt_rd ok (.inl e)
end
def DGet (H : Hp) (a : Addr) (y : V) (r : Option V) : Prop :=
  (∃ kvs k, Rd H a (.dK kvs) ∧ y = kV k ∧ r = valV kvs k) ∨ ∃ kvs k b, Rd H a (.dT kvs) ∧ y = .ref b ∧ H b = some (.tup (k.map kV)) ∧ r = valV kvs k
def DPut (H : Hp) (a : Addr) (y v : V) (H' : Hp) : Prop :=
  (∃ kvs k, H a = some (.dK kvs) ∧ y = kV k ∧ kvs.length < sizeLine ∧ H' = upd H a (.dK (putK kvs k v))) ∨
  ∃ kvs k b, H a = some (.dT kvs) ∧ y = .ref b ∧ H b = some (.tup (k.map kV)) ∧ kvs.length < sizeLine ∧ H' = upd H a (.dT (putK kvs k v))
section
variable {X : Cx} {pins : List (Addr × Obj)} {σ : St} {H : Hp} {s : Shared} {a : Addr} {y v : V} {u r : Value} {o : Option V} {A : Around} {E : Value → Shared → Prop}
theorem Inv.big (I : Inv X pins σ H s) : sysModules < s.heap.objs.size := by
  have h : mainGlobals < s.heap.objs.size := (I.mod.glob.keeps I.bk).lt
  exact Nat.lt_trans (by decide) h
theorem d_getItem {Q : Value → Shared → Prop} (hu : A.units + 1 < cLine) (I : Inv X pins σ H s) (g : DGet H a y (some v)) (ry : RelV y u) (h : ∀ w' s', Inv X pins σ H s' → RelV v w' → Q w' s') :
    wpAny (model X.prog X.w) A (getItem (.ref a) u) Q E s := by
  rcases g with ⟨kvs, k, e, ey, l⟩ | ⟨kvs, k, b, e, ey, eb, l⟩
  · subst ey
    obtain ⟨z, hd, vs, rel, dd⟩ := dk_rd I.hok e
    obtain ⟨w', hw, rw'⟩ := RelO.some_of (v := v) (o := valueAt vs k) (by rw [l]; exact rel.val k)
    exact wpAny_getItem_of (kV_is ry) dd.mapOf hw (h w' _ (I.tok _) rw')
  · subst ey
    cases (show u = Value.ref b from ry)
    obtain ⟨z, hd, xs, rel, dd⟩ := dt_rd I.hok e
    obtain ⟨w', hw, rw'⟩ := RelO.some_of (v := v) (o := (atKey xs k).map (·.2)) (by rw [l]; exact rel.val k)
    obtain ⟨p, hp, hp2⟩ := Option.map_eq_some_iff.mp hw
    refine wpAny_getItem_heap (tupleKind_room_in1 hu) (key_of I.hok eb) dd hp ?_
    rw [hp2]
    exact h w' _ (I.tok _) rw'
theorem d_in {Q : Value → Shared → Prop} (hu : A.units + 1 < cLine) (I : Inv X pins σ H s) (g : DGet H a y o) (ry : RelV y u) (h : ∀ s', Inv X pins σ H s' → Q (.bool o.isSome) s') :
    wpAny (model X.prog X.w) A (compareOp .In u (.ref a)) Q E s := by
  rcases g with ⟨kvs, k, e, ey, l⟩ | ⟨kvs, k, b, e, ey, eb, l⟩
  · subst ey
    obtain ⟨z, hd, vs, rel, dd⟩ := dk_rd I.hok e
    refine wpAny_in_of (kV_is ry) hd dd.mapOf ?_
    rw [← (rel.val k).isSome_eq, ← l]
    exact h _ (I.tok _)
  · subst ey
    cases (show u = Value.ref b from ry)
    obtain ⟨z, hd, xs, rel, dd⟩ := dt_rd I.hok e
    refine wpAny_in_heap (tupleKind_room_in1 hu) (key_of I.hok eb) hd dd ?_
    have q := (rel.val k).isSome_eq
    rw [Option.isSome_map] at q
    rw [← q, ← l]
    exact h _ (I.tok _)
theorem d_write {h' : Heap} {t' : Nat} {ob : HO} (I : Inv X pins σ H s) (mu : Mut (H a)) (hs : Heap.SameBut a s.heap h') (he : ∃ q, h'.get? a = some q) (new : ObjOk X.prog X.w (upd H a ob) h' a ob) :
    Inv X pins σ (upd H a ob) { s with heap := h', toks := t' } :=
  I.write (x := a) (e := a) mu (.inl rfl) (fun b q hb z => (hs.2 b hb).trans z) he new
theorem dk_new {P : Program} {w : World} {H' : Hp} {h' : Heap} {kvs : List (Key × V)} {vs : List (Key × Value)} (z : kvs.length ≤ sizeLine) (hd : (a == sysModules) = false) (rel : KV kvs vs) (dd : h'.DictOf (mixKind P w) a vs) :
    ObjOk P w H' h' a (.dK kvs) := ⟨z, hd, vs, rel, dd⟩
theorem d_setItem {H' : Hp} {Q : Unit → Shared → Prop} (hu : A.units + 1 < cLine) (I : Inv X pins σ H s) (g : DPut H a y v H') (ry : RelV y u) (rv : RelV v r) (h : ∀ s', Inv X pins σ H' s' → Q () s') :
    wpAny (model X.prog X.w) A (setItem (.ref a) u r) Q E s := by
  rcases g with ⟨kvs, k, e, ey, l, eH⟩ | ⟨kvs, k, b, e, ey, eb, l, eH⟩
  · subst ey eH
    obtain ⟨z, hd, vs, rel, dd⟩ := dk_of I.hok e
    have hz : vs.length ≤ sizeLine := by rw [← rel.length]; exact z
    have hl : (putK kvs k v).length ≤ sizeLine := by have := length_putK kvs k v; omega
    refine wpAny_setItem_pairs (hsz := hz) (kV_is ry) dd fun h' dd' hs => h _ ?_
    have he : ∃ q, h'.get? a = some q := let ⟨q, _, _, hq, _⟩ := dd'; ⟨q, hq⟩
    exact d_write I (by rw [e]; exact True.intro) hs he (dk_new hl hd (rel.put k rv) dd')
  · subst ey eH
    cases (show u = Value.ref b from ry)
    obtain ⟨z, hd, xs, rel, dd⟩ := dt_of I.hok e
    have hz : xs.length ≤ sizeLine := by rw [← Paired.length rel]; exact z
    have hl : (putK kvs k v).length ≤ sizeLine := by have := length_putK kvs k v; omega
    refine wpAny_setItem_heap (hsz := hz) (tupleKind_room_in1 hu) (key_of I.hok eb) dd fun h' dd' hs => h _ ?_
    obtain ⟨q, es, ep, hq, h2, h3, h4, _, h5⟩ := dd'
    refine d_write I (by rw [e]; exact True.intro) hs ⟨q, hq⟩ ⟨hl, hd, _, (rel.put k eb rv).keeps fun c ys ec => ?_, q, es, ep, hq, h2, h3, h4, h5⟩
    rw [upd_ne (ne_of ec e (fun z => nomatch z))]
    exact ec
end
section
variable {X : Cx} {pins : List (Addr × Obj)} {σ : St} {H : Hp} {s : Shared} {a : Addr} {kvs : List (Key × V)} {k : Key} {u : Value} {A : Around} {E : Value → Shared → Prop}
theorem d_len {Q : Value → Shared → Prop} (I : Inv X pins σ H s) (e : Rd H a (.dK kvs)) (h : ∀ t s', Inv X pins σ H s' → Q (.int kvs.length t) s') : wpAny (model X.prog X.w) A (call (.builtin "len") [.ref a]) Q E s := by
  obtain ⟨z, hd, vs, rel, dd⟩ := dk_rd I.hok e
  refine call_len_dict hd dd (by rw [← rel.length]; rw [sizeLine_eq] at z; omega) ?_
  rw [← rel.length]
  exact h _ _ (I.tok _)
end
theorem dict_typeIs {X : Cx} {pins : List (Addr × Obj)} {σ : St} {H : Hp} {s : Shared} {a : Addr} {y : V} {o : Option V} (I : Inv X pins σ H s) (g : DGet H a y o) : s.TypeIs (.ref a) "dict" := by
  rcases g with ⟨kvs, k, e, _, _⟩ | ⟨kvs, k, b, e, _, _, _⟩
  · obtain ⟨_, _, vs, _, dd⟩ := dk_rd I.hok e
    exact dd.typeIs
  · obtain ⟨_, _, xs, _, dd⟩ := dt_rd I.hok e
    exact dd.typeIs
section
variable {X : Cx} {o i e value : Expr} {pos pos' tpos : Pos} {td ty tv : TE}
end
theorem dk_empty {P : Program} {w : World} {H : Hp} (h : Heap) (hb : sysModules < h.objs.size) : ObjOk P w H (h.push { cls := .type "dict", data := .dict #[] }) h.objs.size (.dK []) :=
  ⟨Nat.zero_le _, beq_eq_false_iff_ne.mpr (Ne.symm (Nat.ne_of_lt hb)), [], .nil, Heap.DictOf.new h⟩
def tDNewK : TE := fun _ H Q => ∀ p, H p = none → Q (.ref p) (upd H p (.dK []))
section
variable {X : Cx} {pos : Pos}
theorem pe_dnewK : PE X (.Dict [] [] pos) tDNewK := fun pins s σ H Q I h =>
  wpAny_Dict_empty ⟨.ref s.heap.objs.size, _, I.laid (a := s.heap.objs.size) (o := .dK []) (t' := s.toks) (fun _ _ q => Heap.get?_push_of_some _ q) (Nat.le_refl _) (dk_empty s.heap I.big), rfl, h _ (I.hok.fresh (Nat.le_refl _))⟩
end
structure M1 (X : Cx) (o : Expr) (m : Str) (apos : Pos) (e : Expr) (cpos : Pos) : Prop where
  base : attributeBase o m X.env (eval o X.env) = eval o X.env
  few : ((backTo cpos (starEach [e] X.env)).all (fun x => !x.1) && (backToKw cpos (keywordEach [] X.env)).all (fun x => x.1.isSome)
    && decide (([e] : List Expr).length + ([] : List Keyword).length + (if ([] : List Keyword).isEmpty then 0 else 1) < 30)) = true
  line : (apos.endLine == cpos.line) = true
  trees : backTo cpos (starEach [e] X.env) = [(false, eval e X.env)]
structure M2 (X : Cx) (o : Expr) (m : Str) (apos : Pos) (e f : Expr) (cpos : Pos) : Prop where
  base : attributeBase o m X.env (eval o X.env) = eval o X.env
  few : ((backTo cpos (starEach [e, f] X.env)).all (fun x => !x.1) && (backToKw cpos (keywordEach [] X.env)).all (fun x => x.1.isSome)
    && decide (([e, f] : List Expr).length + ([] : List Keyword).length + (if ([] : List Keyword).isEmpty then 0 else 1) < 30)) = true
  line : (apos.endLine == cpos.line) = true
  trees : backTo cpos (starEach [e, f] X.env) = [(false, eval e X.env), (false, eval f X.env)]
def IsD (H : Hp) (a : Addr) : Prop := (∃ kvs, Rd H a (.dK kvs)) ∨ ∃ kvs, Rd H a (.dT kvs)
section
variable {X : Cx} {pins : List (Addr × Obj)} {σ : St} {H : Hp} {s : Shared} {a : Addr} {y d : V} {u r : Value} {o : Option V} {A : Around} {E : Value → Shared → Prop}
end
def tDGet2 (td ty tx : TE) : TE := fun σ H Q => td σ H fun x H1 => ∃ a, x = .ref a ∧ IsD H1 a ∧ ty σ H1 fun y H2 => tx σ H2 fun z H3 => ∃ o, DGet H3 a y o ∧ Q (o.getD z) H3
section
variable {X : Cx} {o e f : Expr} {apos cpos : Pos} {td ty tx : TE}
end
section
variable {X : Cx} {pins : List (Addr × Obj)} {σ : St} {H : Hp} {s : Shared} {a : Addr} {kvs : List (Key × V)} {A : Around} {E : Value → Shared → Prop}
end
section
variable {X : Cx} {pins : List (Addr × Obj)} {σ : St} {H : Hp} {s : Shared} {a : Addr} {y : V} {u : Value} {A : Around} {E : Value → Shared → Prop}
end
end L2
namespace Att
open PySem PySem.W PySem.Calls PyProof.Rows
theorem ints_of_wellAll {P : Params} {h : Heap} : ∀ (ns : List Int) (vs : List Value), WellAll P h vs (ns.map WData.int) → IntsAre vs ns := by
  intro ns
  induction ns with
  | nil =>
    intro vs w
    rw [List.map_nil] at w
    cases w
    exact .nil
  | cons n ns ih =>
    intro vs w
    rw [List.map_cons] at w
    cases w with
    | cons a b =>
      cases a
      exact .cons _ _ (ih _ b)
theorem script_of {l : OpenLaw} {n : Nat} (hn : l.most = some n) {P : Params} {h : Heap} {args : List WData} {vals : List Value}
    (hpre : l.row.toRowW.claim.pre args = true) (hwl : WellAll P h vals args) :
    ∃ a vs ns, vals = [Value.ref a] ∧ args = [WData.list (ns.map WData.int)] ∧ h.get? a = some { cls := .type "list", data := .seq vs.toArray } ∧ IntsAre vs ns ∧ ns.length ≤ n := by
  have hsh : WShape.hasAll [] args [.list .int] = true := (pre_splitW hpre).1
  have hc : l.pre.holds [] { args := args } = true := (pre_splitW hpre).2
  obtain ⟨d, r, rfl, h1, h2⟩ := hasAllW_cons hsh
  obtain rfl := hasAllW_nil h2
  obtain ⟨xs, rfl, h3⟩ := hasW_list h1
  obtain ⟨ns, rfl⟩ := items_int h3
  have hlen : ns.length ≤ n := by
    unfold OpenLaw.pre at hc
    have h4 : (WTm.not (.lt (.lit (.int (n : Int))) (.len (.arg 0)))).holds [] { args := [.list (ns.map .int)] } = true := by
      have h4 := (holds_andW hc).1
      rw [hn] at h4
      exact h4
    have h5 := condW_of h4 (w_not (w_lt w_lit (w_len_list (w_arg rfl))))
    rw [List.length_map] at h5
    refine Nat.le_of_not_lt fun q => ?_
    have q' : (n : Int) < ((ns.length : Nat) : Int) := by omega
    first
      | (rw [decide_eq_true q'] at h5; exact absurd h5 (by decide))
      | (simp at h5; omega)
  cases hwl with
  | cons w1 w2 =>
    cases w2
    cases w1 with
    | list ho hall => exact ⟨_, _, ns, rfl, rfl, ho, ints_of_wellAll ns _ hall, hlen⟩
theorem post_true (l : OpenLaw) (args : List WData) : l.row.toRowW.claim.post args (.bool true) args = true :=
  postW_of (r := l.row.toRowW) (X := (true == true))
    (show WShape.has [] (.bool true) .bool = true by first | rfl | decide | simp [WShape.has, WShape.arms, WShape.armsAll])
    (show (WTm.eq .res (.lit (.bool true))).value [] { args := args, res := some (.bool true), after := args } = some (.bool (true == true)) from w_eq_bool (w_res rfl) w_lit) rfl
theorem attach_call {l : OpenLaw} {n : Nat} {q : Program} {loose : List Str} {XP : (Str → Option Value) → Heap → Prop} {YP : World → Heap → Prop} {d : DefRec}
    (hn : l.most = some n) (hdf : d.params.defaults = [])
    (call : ∀ (w : World) (s₀ s₁ : Shared) (mg mb : Str → Option Value) (fa : Addr) (o : Obj) (pm cd doc : Value) (a : Addr) (vs : List Value) (ns : List Int),
      Ground q loose [] XP w s₀ mg mb s₁.heap → YP w s₁.heap →
      s₁.heap.get? fa = some o → o.data = .func (docDef d.name d.params d.body d.scope pm cd doc) → s₁.heap.CodeRec cd d.name → mg d.name = some (.ref fa) →
      s₁.heap.get? a = some { cls := .type "list", data := .seq vs.toArray } → IntsAre vs ns → ns.length ≤ n → s₁.gens = #[] →
      codeAny (model l.prog w) callerA (.call (.ref fa) ⟨[.ref a], []⟩) (fun r s' => r = .ok (.ret (.bool true)) ∧ OldK s₁.heap s'.heap ∧ s'.os = s₁.os ∧ AllBare s'.gens) s₁) :
    WalkO q loose XP YP l.row.toRowW d [] (fun f vs => PySem.call f vs) := by
  intro w s₀ s₁ mg mb G Y fa o pm cd doc dV kV ho hd hcd hD hmg hg args vals as hpre hlay hrd hwl hlo
  obtain rfl : dV = .none := Dflts.none hD hdf
  obtain rfl : kV = .none := Dflts.noKw hD
  obtain ⟨a, vs, ns, rfl, rfl, hobj, hints, hlen⟩ := script_of hn hpre hwl
  refine enter_call (codeAny_mono (call w s₀ s₁ mg mb fa o pm cd doc a vs ns G Y ho (fd_plain hd) hcd hmg hobj hints hlen hg) fun r s' hq => ?_)
  obtain ⟨rfl, h2, h3, h4⟩ := hq
  exact ⟨.inl ⟨.bool true, .bool true, [], rfl, fun _ => rfl, .bool true, post_true l _, fun _ => ⟨List.Pairwise.nil, fun _ hm => (nomatch hm)⟩⟩, h2, h3, h4⟩
section
variable {prog : Program} {w : World} {A : Around} {E : Value → Shared → Prop} {s : Shared} {K : Frag}
def ledger (h : Heap) (L d : Addr) : List (Addr × Obj) := (List.range h.objs.size).filterMap fun a => if a = L ∨ a = d then none else (h.get? a).map fun o => (a, o)
end
end Att
namespace L2
open PySem PySem.Spec PyProof.Rows
theorem vals_ints : ∀ {vs : List Value} {ns : List Int}, IntsAre vs ns → Vals (ns.map V.int) vs
  | _, _, .nil => .nil
  | _, _, .cons n t h => .cons ⟨t, rfl⟩ (vals_ints h)
def Only (H : Hp) : Prop := ∀ b, H b = none ∨ ∃ o xs, H b = some (.frz o (.lst xs))
theorem law_call {P : Program} {w : World} {K : PySem.W.Frag} {mg mb : Str → Option Value} {CX : CXT} {k : Nat} {fa a : Addr} {fd : FuncData} {x : Str} {sp : Sp} {s₁ : Shared} {vs : List Value} {ns : List Int}
    (KX : K.In s₁.heap) (hns : s₁.heap.Ns mainGlobals mg) (hb : s₁.heap.Ns builtinsNs mb) (hbb : ∀ x : Str, x ≠ "__name__" → mb x = bootBuiltins x) (hlim : s₁.heap.NoLimit) (hg : s₁.gens = #[])
    (ha : s₁.heap.get? a = some { cls := .type "list", data := .seq vs.toArray }) (hi : IntsAre vs ns) (hl : ns.length ≤ sizeLine) (hr : Room k callerA)
    (F : ∀ base : Heap, K.In base → base.Ns mainGlobals mg → FnOk P w K mg base CX k fa fd [x] sp) (hbind : ∀ (s : Shared) (u : Value), BindsTo s fd ⟨[u], []⟩ [(x, u)])
    (hsp : ∀ H : Hp, Only H → SqL K H a (ns.map V.int) → sp [.ref a] H (fun v _ => v = .bl true) fun _ _ _ => False)
    (hCX : ∀ H e s', CX [] H s₁ (fun _ _ _ => False) e s' → False) :
    codeAny (model P w) callerA (.call (.ref fa) ⟨[.ref a], []⟩) (fun r s' => r = .ok (.ret (.bool true)) ∧ OldK s₁.heap s'.heap ∧ s'.os = s₁.os ∧ AllBare s'.gens) s₁ := by
  have rv := vals_ints hi
  have lenV := hi.length
  have core : ∀ H : Hp, Only H → SqL K H a (ns.map V.int) → HOk P w H s₁.heap → (∀ b, H b ≠ none → b = a) → (H a ≠ none → K.lookup a = none) →
      codeAny (model P w) callerA (.call (.ref fa) ⟨[.ref a], []⟩) (fun r s' => r = .ok (.ret (.bool true)) ∧ OldK s₁.heap s'.heap ∧ s'.os = s₁.os ∧ AllBare s'.gens) s₁ := by
    intro H hO hS hok hA hK
    have base_of : ∀ {b : Addr} {o : Obj}, s₁.heap.get? b = some o → H b = none → (hidT s₁.heap H).get? b = some o := fun e n => hidT_get e n
    have noA : ∀ {b : Addr} {o : Obj} {es : Array DictEntry} {ep : Nat}, s₁.heap.get? b = some o → o.data = .dict es ep → H b = none := fun {b o es ep} e d => by
      cases q : H b with
      | none => rfl
      | some u =>
        have e' : b = a := hA b (by rw [q]; simp)
        subst e'
        rw [ha] at e; cases e
        have d' : Data.seq vs.toArray _ = Data.dict es ep := d
        cases d'
    have nsK : ∀ {b : Addr} {m : Str → Option Value}, s₁.heap.Ns b m → (hidT s₁.heap H).Ns b m := fun {b m} ⟨o, es, ep, e, d, r⟩ => ⟨o, es, ep, base_of e (noA e d), d, r⟩
    have hKb : K.In (hidT s₁.heap H) := fun b o e => base_of (KX b o e) (by
      cases q : H b with
      | none => rfl
      | some u =>
        have e' : b = a := hA b (by rw [q]; simp)
        subst e'
        rw [hK (by rw [q]; simp)] at e; cases e)
    have hM : Mod K mg (hidT s₁.heap H) := ⟨hKb, nsK hns, ⟨mb, nsK hb, hbb⟩, let ⟨mc, h1, h2⟩ := hlim; ⟨mc, nsK h1, h2⟩⟩
    have e0 : Env0 P w K mg (hidT s₁.heap H) callerA [] s₁ H := ⟨rfl, hM, fun b o e => of_hidT e, Nat.le_of_eq (hidT_size _ _), trivial, fun b hb => absurd (show b ∈ ([] : List Addr) from hb) (by simp), hok, .of_eq hg⟩
    refine codeAny_mono ((F _ hKb (nsK hns)).run callerA [] s₁ H ⟨[.ref a], []⟩ [.ref a] [.ref a] _ _ hr e0 (hbind s₁ (.ref a)) (.cons rfl .nil) (hsp H hO hS)) fun r s' h => ?_
    cases r with
    | error e => exact (hCX H e s' h).elim
    | ok fl =>
      cases fl with
      | next => exact False.elim h
      | brk => exact False.elim h
      | cont => exact False.elim h
      | ret u =>
        obtain ⟨v, H', os, bare, un, hok', r', q⟩ := h
        have q' : v = .bl true := q
        subst q'
        obtain rfl : u = Value.bool true := r'
        refine ⟨rfl, OldK.of_keep fun b o e => ?_, os, bare⟩
        cases q : H b with
        | none => exact un.keep b o e q (by intro z; exact absurd (show b ∈ ([] : List Addr) from z) (by simp)) (by simp)
        | some u =>
          rcases hO b with z | ⟨ob, xs, z⟩
          · rw [q] at z; cases z
          · have z2 := un.frzs b ob _ z
            obtain ⟨e1, _⟩ := hok b _ z
            obtain ⟨e2, _⟩ := hok' b _ z2
            rw [e] at e1; cases e1
            exact e2
  cases hk : K.lookup a with
  | some o =>
    have e := KX a o hk
    rw [ha] at e
    cases e
    refine core (fun _ => none) (fun _ => .inl rfl) (.inr ⟨_, vs.toArray, _, hk, rfl, rfl, rfl, by rw [List.size_toArray, lenV]; exact hl, by simpa using rv⟩) (fun b u z => by have z' : (none : Option HO) = some u := z; cases z') (fun b z => absurd rfl z) fun z => absurd rfl z
  | none =>
    refine core (fun b => if b = a then some (.frz { cls := .type "list", data := .seq vs.toArray } (.lst (ns.map V.int))) else none) (fun b => ?_) (.inl (.inr ⟨{ cls := .type "list", data := .seq vs.toArray }, if_pos rfl⟩)) (fun b u z => ?_) (fun b z => ?_) fun _ => hk
    · by_cases hb : b = a
      · exact .inr ⟨_, _, if_pos hb⟩
      · exact .inl (if_neg hb)
    · by_cases hb : b = a
      · have z' := (if_pos hb).symm.trans z
        cases z'
        subst hb
        exact ⟨ha, by rw [List.length_map]; exact hl, vs, _, rv, ha⟩
      · have z' := (if_neg hb).symm.trans z
        cases z'
    · by_cases hb : b = a
      · exact hb
      · exact absurd (if_neg hb) z
end L2
namespace L2
open PySem PySem.Spec PyProof.Rows
abbrev KOf {K : PySem.W.Frag} {h : Heap} (_ : K.In h) : PySem.W.Frag := K
theorem walk_of {l : PySem.W.OpenLaw} {n k : Nat} {q : Program} {loose : List Str} {XP : (Str → Option Value) → Heap → Prop} {YP : World → Heap → Prop} {d : DefRec} {K : Params → PySem.W.Frag} {CX : World → CXT} {sp : World → Sp} {x : Str}
    (hn : l.most = some n) (hn2 : n ≤ sizeLine) (hdf : d.params.defaults = []) (hr : Room k callerA)
    (hY : ∀ (w : World) (h : Heap), YP w h → (K w.params).In h)
    (F : ∀ (w : World) (mg : Str → Option Value) (fa : Addr) (h : Heap), (K w.params).In h → h.Ns mainGlobals mg → mg d.name = some (.ref fa) →
      ∃ fd : FuncData, (∀ (s : Shared) (u : Value), BindsTo s fd ⟨[u], []⟩ [(x, u)]) ∧
        ∀ base : Heap, (K w.params).In base → base.Ns mainGlobals mg → FnOk l.prog w (K w.params) mg base (CX w) k fa fd [x] (sp w))
    (hsp : ∀ (w : World) (H : Hp) (a : Addr) (ns : List Int), ns.length ≤ n → Only H → SqL (K w.params) H a (ns.map V.int) → sp w [.ref a] H (fun v _ => v = .bl true) fun _ _ _ => False)
    (hCX : ∀ (w : World) (H : Hp) (s : Shared) (e : Value) (s' : Shared), CX w [] H s (fun _ _ _ => False) e s' → False) :
    PySem.W.WalkO q loose XP YP l.row.toRowW d [] (fun f vs => PySem.call f vs) := by
  refine Att.attach_call hn hdf fun w s₀ s₁ mg mb fa o pm cd doc a vs ns G Y ho hd hcd hmg hobj hints hlen hg => ?_
  have KX := hY w _ Y
  obtain ⟨fd, hb, hF⟩ := F w mg fa _ KX G.T.g hmg
  exact law_call KX G.T.g G.T.b G.T.builtins G.T.nolimit hg hobj hints (Nat.le_trans hlen hn2) hr hF hb (fun H hO hS => hsp w H a ns hlen hO hS) fun H e s' => hCX w H s₁ e s'
end L2
/- THE LAST THEOREM (shape; LID, My.* are yours):
   My.Adr: a structure of the addresses that your layer names (classes, functions); My.Txt K t: a structure (Prop) of the equations over K;
   My.txt_mk : {K} {implicit addresses ..} (e1 : nsIn K mainGlobals "law" = some (some (.ref f))) (e2 : K.lookup f = some ⟨oc, od, .func (fnOf "law" "law" params body scope dV kV doc pm an cdv ct), sl⟩) (e3 : codeIn K cdv "law" = true) .. : ∃ t, My.Txt K t
set_option maxRecDepth 100000 in
set_option maxHeartbeats 0 in
theorem PySem.Challenge.cw_LID_holds : PySem.Challenge.rw_LID.Holds := by
  w_on; o_law; k_head; (case hw => w_witness2)
  k_fill
  refine L2.walk_of (l := PySem.Challenge.rw_LID) (n := 63) (k := 40) (x := "script") (CX := fun w => ..) (sp := fun _ => My.sp_law) rfl (by decide) rfl ⟨rfl, by decide, by decide⟩ (fun w h Y => PySem.W.kIn_of Y) ?F ?S ?C
  case F =>
    intro w mg fa h KX G hmg
    have T : ∃ t, My.Txt (L2.KOf KX) t := by
      dsimp only [L2.KOf]                          -- K must stand as «<heap const> w.params» for k_is
      refine' My.txt_mk ?e1 ?e2 ?e3 ..
      (case e1 => PySem.W.k_is)                    -- in the order: a name -> its address -> its object -> its parts
      (case e2 => PySem.W.k_is)
      ..
    obtain ⟨t, T⟩ := T
    have e0 := hmg.symm.trans (PySem.W.mg_of KX G T.law)
    cases e0                                       -- fa is the law's own address
    exact ⟨_, fun s u => .of_eq rfl, fun base kb nb => My.law_fn T kb nb⟩     -- if «.of_eq rfl» comes too early: refine' ⟨_, ?b, fun base kb nb => My.law_fn T kb nb⟩; exact fun s u => .of_eq rfl
  case S => exact fun w H a ns hl hO hS => ..
  case C => exact ..
(the tactic k_is has no namespace: write k_is) -/
namespace L2
open PySem PySem.Spec PyProof.Rows
def inClass (s : Stmt) (j : Nat) : Stmt := match s with
  | .ClassDef _ _ _ body _ _ _ _ _ _ _ => body.getD j (.Pass ⟨0, 0, 0, 0⟩)
  | _ => .Pass ⟨0, 0, 0, 0⟩
def defArgs (s : Stmt) : Arguments := match s with
  | .FunctionDef _ a _ _ _ _ _ _ _ _ => a
  | _ => { posonlyargs := [], args := [], vararg := none, kwonlyargs := [], kw_defaults := [], kwarg := none, defaults := [] }
def defBody (s : Stmt) : List Stmt := match s with
  | .FunctionDef _ _ b _ _ _ _ _ _ _ => b
  | _ => []
def defScope (s : Stmt) : Scope := match s with
  | .FunctionDef _ _ _ _ _ _ sc _ _ _ => sc
  | _ => { kind := .function, names := [], isGenerator := false, isCoroutine := false }
abbrev CX0 : CXT := fun _ _ _ _ _ _ => False
abbrev E0 : XK := fun _ _ _ => False
theorem pass0 {X : Cx} : Passes CX0 X E0 := fun _ _ _ _ _ _ _ h => h.elim
structure Fun (K : PySem.W.Frag) (x qual : Str) (st : Stmt) (f : Addr) (fd : FuncData) : Prop where
  ex : ∃ (oc : Value) (od : Option Addr) (kV doc pm : Value) (an : Option Addr) (cdv ct : Value) (osl : Array (Option Value)),
    fd = PySem.W.fnOf x qual (defArgs st) (defBody st) (defScope st) .none kV doc pm an cdv ct ∧ K.lookup f = some ⟨oc, od, .func fd, osl⟩ ∧ PySem.W.codeIn K cdv qual = true
  kp : PySem.W.keepIn K (.ref f) = true
section
variable {P : Program} {w : World} {K : PySem.W.Frag} {mg : Str → Option Value} {base : Heap}
theorem Fun.ok {x qual : Str} {st : Stmt} {f : Addr} {fd : FuncData} {N ps : List Str} {k : Nat} {sp : Sp} (F : Fun K x qual st f fd) (S : FnScope N ps (defScope st)) (len : ∀ vs H Q E, sp vs H Q E → vs.length = ps.length)
    (hbody : ∀ (cdv : Value) (A : Around) (outer : List Env) (s : Shared) (H : Hp) (vs : List V) (Q : VK) (E : XK), Room k (A.deeper (envOfC qual (defScope st) s.heap.objs.size f cdv)) → sp vs H Q E →
      ∃ t, PSs (cxOf CX0 P w K mg base N qual (defScope st) f cdv A outer s H E).nox (defBody st) t ∧ t { nx := fun _ H' => Q .non H', rt := Q } (start N vs) H) : FnOk P w K mg base CX0 (k + 1) f fd ps sp := by
  obtain ⟨oc, od, kV, doc, pm, an, cdv, ct, osl, rfl, lk, hcd⟩ := F.ex
  refine fn_of lk hcd S len fun A outer s H vs Q E hr hsp => ?_
  obtain ⟨t, h, q⟩ := hbody cdv A outer s H vs Q E hr hsp
  exact ⟨t, h.nox, q⟩
theorem Fun.binds {x qual : Str} {st : Stmt} {f : Addr} {fd : FuncData} {ps : List Str} (F : Fun K x qual st f fd)
    (h : ∀ (kV doc pm : Value) (an : Option Addr) (cdv ct : Value) (us : List Value), us.length = ps.length → bindArgs (PySem.W.fnOf x qual (defArgs st) (defBody st) (defScope st) .none kV doc pm an cdv ct) ⟨us, []⟩ = pure (ps.zip us)) : Binds K fd ps [] := by
  obtain ⟨oc, od, kV, doc, pm, an, cdv, ct, osl, rfl, lk, hcd⟩ := F.ex
  exact .all (h kV doc pm an cdv ct)
theorem fun_mk {x qual : Str} {st : Stmt} {f : Addr} {oc : Value} {od an : Option Addr} {osl : Array (Option Value)} {kV doc pm cdv ct : Value} (l : K.lookup f = some ⟨oc, od, .func (PySem.W.fnOf x qual (defArgs st) (defBody st) (defScope st) .none kV doc pm an cdv ct), osl⟩)
    (c : PySem.W.codeIn K cdv qual = true) (k : PySem.W.keepIn K (.ref f) = true) : Fun K x qual st f (PySem.W.fnOf x qual (defArgs st) (defBody st) (defScope st) .none kV doc pm an cdv ct) := ⟨⟨oc, od, kV, doc, pm, an, cdv, ct, osl, rfl, l, c⟩, k⟩
end
theorem small1000 {n : Nat} (h : n ≤ 1000) : n < sizeLine := Nat.lt_of_le_of_lt h (by decide)
section
variable {X : Cx}
theorem pv (i : Nat) {x : Str} {pos : Pos} (hN : X.N[i]? = some x := by rfl) (hv : Vis X.env.scope x := by first | exact Or.inl rfl | exact Or.inr (Or.inl rfl) | exact Or.inr (Or.inr rfl)) (hd : (x == ("__debug__" : Str)) = false := by decide)
    (hcd : (x == ("__classdict__" : Str)) = false := by decide) : PE X (.Name x pos) (tVar i) := pe_var hN hv hd hcd
theorem call_lenD : CallR X (.builtin "len") (fun xs H Q => ∃ a kvs, xs = [V.ref a] ∧ H a = some (.dK kvs) ∧ Q (.int kvs.length) H) := by
  intro pins s σ H xs us Q I r h
  obtain ⟨a, kvs, rfl, ha, q⟩ := h
  obtain ⟨u, rfl, ru⟩ := vals1 r
  cases ru
  exact d_len I (.inl ha) fun t s' I' => ⟨.int kvs.length, H, I', ⟨t, rfl⟩, q⟩
end
theorem iteT {A B : Prop} (h : A) : if true = true then A else B := by
  rw [if_pos rfl]
  exact h
theorem ite2 {c A B : Prop} [Decidable c] (h1 : c → A) (h2 : ¬ c → B) : if c then A else B := by
  by_cases h : c
  · rw [if_pos h]
    exact h1 h
  · rw [if_neg h]
    exact h2 h
def Same (H H' : Hp) : Prop := ∀ b o, H b = some o → H' b = some o
theorem Same.refl (H : Hp) : Same H H := fun _ _ h => h
theorem Same.trans {H H1 H2 : Hp} (a : Same H H1) (b : Same H1 H2) : Same H H2 := fun c o h => b c o (a c o h)
theorem Same.free {H H' : Hp} (e : Same H H') {l : Addr} (h : H' l = Option.none) : H l = Option.none := by
  cases q : H l with
  | none => rfl
  | some o =>
    rw [e l o q] at h
    cases h
theorem Same.seq {K : PySem.W.Frag} {H H' : Hp} {a : Addr} {xs : List V} (e : Same H H') (h : SqL K H a xs) : SqL K H' a xs := by
  rcases h with (h | ⟨o, h⟩) | h
  · exact .inl (.inl (e _ _ h))
  · exact .inl (.inr ⟨o, e _ _ h⟩)
  · exact .inr h
section
variable {κ : Type} [DecidableEq κ]
end
end L2
set_option maxHeartbeats 4000000
namespace L2
open PySem PySem.Spec PyProof.Rows
section
variable {prog : Program} {w : World} {A : Around} {R : Result → Shared → Prop} {s : Shared}
theorem compLoop_own {elt target iter : Expr} {ifs : List Expr} {scope : Scope} {pos : Pos} {it acc : Value} {env : Env} (I : Nat → Shared → Prop)
    (turn : ∀ n s, I n s → wpAny (model prog w) A (pyNext it) (fun r s1 => match r with
      | none => R (.ok .next) s1
      | some v => wpAny (model prog w) A (letOwnedTupleGo target it v) (fun _ s1' => wpAny (model prog w) A (assign target env v) (fun _ s2 =>
          wpAny (model prog w) A (forIn ifs true fun c r => if r = true then do let ok ← isTrue c env (eval c env); pure (ForInStep.yield ok) else pure (ForInStep.yield r)) (fun ok s3 =>
            if ok = true then wpAny (model prog w) A (eval elt env) (fun x s4 =>
              wpAny (model prog w) A (call (.builtin "list.append") [acc, x]) (fun _ s5 => ∃ m, m < n ∧ I m s5) (fun _ _ => False) s4) (fun _ _ => False) s3
            else ∃ m, m < n ∧ I m s3) (fun _ _ => False) s2) (fun _ _ => False) s1') (fun _ _ => False) s1) (fun _ _ => False) s)
    (n : Nat) (h : I n s) :
    codeAny (model prog w) A (.compLoop (.ListComp elt [⟨target, iter, ifs, 0⟩] scope pos) 0 it acc env) R s := by
  refine codeAny_loop rfl I (fun n s hI => ?_) n h
  show wpAny _ A ((compTurn (.ListComp elt [⟨target, iter, ifs, 0⟩] scope pos) 0 it acc env).onRaise (fun x => do noteFrame x env; theTreesLotGoes x)) _ _ s
  refine wpAny_noted ?_
  rw [compTurn_list]
  refine wpAny_bind (wpAny_standAt (wpAny_bind (wpAny_mono (turn n s hI) (fun r s1 h1 => ?_) fun _ _ h' => h'.elim)))
  cases r with
  | none => exact wpAny_pure h1
  | some v =>
    refine wpAny_bind (wpAny_mono h1 (fun _ s1' h1' => ?_) fun _ _ h' => h'.elim)
    refine wpAny_bind (wpAny_mono h1' (fun _ s2 h2 => wpAny_bind (wpAny_mono h2 (fun ok s3 h3 => ?_) fun _ _ h' => h'.elim)) fun _ _ h' => h'.elim)
    cases ok with
    | false => exact wpAny_pure ⟨rfl, h3⟩
    | true =>
      exact wpAny_bind (wpAny_bind (wpAny_mono h3 (fun x s4 h4 => wpAny_bind (wpAny_mono h4 (fun _ s5 h5 => wpAny_pure (wpAny_pure ⟨rfl, h5⟩)) fun _ _ h' => h'.elim)) fun _ _ h' => h'.elim))
end
def compCells (env : Env) : List (Str × NameKind) → List (Str × Addr) → List (Str × Addr)
  | [], acc => acc
  | (n, k) :: r, acc => compCells env r (if (k == .free) = true then (n, (env.cells.lookup n).getD 0) :: acc else acc)
theorem compCells_mem {env : Env} : ∀ {names : List (Str × NameKind)} {acc : List (Str × Addr)} {x : Str} {c : Addr}, (compCells env names acc).lookup x = some c →
    ((x, NameKind.free) ∈ names ∧ c = (env.cells.lookup x).getD 0) ∨ acc.lookup x = some c
  | [], _, _, _, h => .inr h
  | (n, k) :: r, acc, x, c, h => by
    unfold compCells at h
    rcases compCells_mem h with ⟨h1, h2⟩ | h1
    · exact .inl ⟨List.mem_cons_of_mem _ h1, h2⟩
    · by_cases hk : (k == NameKind.free) = true
      · rw [if_pos hk, List.lookup_cons] at h1
        cases hx : x == n with
        | true =>
          rw [hx] at h1
          have e : x = n := beq_iff_eq.mp hx
          have e2 : k = .free := beq_iff_eq.mp hk
          subst e e2
          exact .inl ⟨List.mem_cons_self, (Option.some.inj h1).symm⟩
        | false =>
          rw [hx] at h1
          exact .inr h1
      · rw [if_neg hk] at h1
        exact .inr h1
theorem compCells_acc {env : Env} : ∀ {names : List (Str × NameKind)} {acc : List (Str × Addr)} {x : Str}, (∃ c, acc.lookup x = some c) → ∃ c, (compCells env names acc).lookup x = some c
  | [], _, _, h => h
  | (n, k) :: r, acc, x, h => by
    unfold compCells
    apply compCells_acc
    by_cases hk : (k == NameKind.free) = true
    · rw [if_pos hk, List.lookup_cons]
      cases hx : x == n with
      | true => exact ⟨_, rfl⟩
      | false => exact h
    · rw [if_neg hk]
      exact h
theorem compCells_has {env : Env} : ∀ {names : List (Str × NameKind)} {acc : List (Str × Addr)} {x : Str}, (x, NameKind.free) ∈ names → ∃ c, (compCells env names acc).lookup x = some c
  | [], _, _, h => by cases h
  | (n, k) :: r, acc, x, h => by
    unfold compCells
    rcases List.mem_cons.mp h with e | e
    · cases e
      apply compCells_acc
      rw [show (NameKind.free == NameKind.free) = true from rfl, if_pos rfl, List.lookup_cons, beq_self_eq_true]
      exact ⟨_, rfl⟩
    · exact compCells_has e
theorem closureFor_eq {scope : Scope} {env : Env} (h : ∀ n, (n, NameKind.free) ∈ scope.names → ∃ c, env.cells.lookup n = some c) : closureFor scope env = pure (compCells env scope.names []) := by
  have key : ∀ (names : List (Str × NameKind)) (acc : List (Str × Addr)), (∀ n, (n, NameKind.free) ∈ names → ∃ c, env.cells.lookup n = some c) →
      (forIn names acc (fun (x : Str × NameKind) (r : List (Str × Addr)) => (if (x.2 == NameKind.free) = true then (cellOf env x.1 >>= fun c => pure (ForInStep.yield ((x.1, c) :: r))) else pure (ForInStep.yield r) : Sem (ForInStep (List (Str × Addr)))))) = (pure (compCells env names acc) : Sem (List (Str × Addr))) := by
    intro names
    induction names with
    | nil => intro acc _; rfl
    | cons x r ih =>
      intro acc hn
      obtain ⟨n, k⟩ := x
      rw [List.forIn_cons]
      unfold compCells
      by_cases hk : (k == NameKind.free) = true
      · have e2 : k = .free := beq_iff_eq.mp hk
        subst e2
        obtain ⟨c, hc⟩ := hn n List.mem_cons_self
        have e3 : cellOf env n = pure c := by unfold cellOf; rw [hc]
        simp only [hk, if_true, e3, hc, Option.getD_some]
        exact ih _ fun m hm => hn m (List.mem_cons_of_mem _ hm)
      · simp only [hk, if_false]
        exact ih _ fun m hm => hn m (List.mem_cons_of_mem _ hm)
  have e := key scope.names [] h
  unfold closureFor
  exact Eq.trans (congrArg (fun m => m >>= pure) e) rfl
@[reducible] def Cx.comp (X : Cx) (N : List Str) (scope : Scope) (C : Addr) (s0 : Shared) (H0 : Hp) (ex : List Addr) : Cx where
  prog := X.prog
  w := X.w
  K := X.K
  mg := X.mg
  base := X.base
  A := X.A
  N := N
  s₀ := s0
  H₀ := H0
  env := compEnvC scope (compCells X.env scope.names []) C X.env
  outer := X.stack
  stack := X.stack
  ex := ex
  fn := fun _ => false
  calm := X.calm
  pn := []
  xe := fun _ _ => False
structure CompOk (sc scope : Scope) : Prop where
  kind : scope.kind = .function
  nocell : ∀ y ∈ scope.names, y.2 ≠ .cell
  loc : ∀ y ∈ scope.names, y.2 = .local → scope.names.lookup y.1 = some .local
  free : ∀ y ∈ scope.names, y.2 = .free → sc.names.lookup y.1 = some .cell ∨ sc.names.lookup y.1 = some .free
  once : ∀ y ∈ scope.names, y.2 = .free → scope.names.lookup y.1 = some .free
def compB (sc scope : Scope) : Bool := decide (scope.kind = .function) && scope.names.all fun y => match y.2 with
  | .local => scope.names.lookup y.1 == some .local
  | .free => (sc.names.lookup y.1 == some .cell || sc.names.lookup y.1 == some .free) && scope.names.lookup y.1 == some .free
  | .cell => false
  | _ => true
theorem compB_ok {sc scope : Scope} (h : compB sc scope = true) : CompOk sc scope := by
  unfold compB at h
  rw [Bool.and_eq_true] at h
  have ha := List.all_eq_true.mp h.2
  refine ⟨of_decide_eq_true h.1, fun y hy e => ?_, fun y hy e => ?_, fun y hy e => ?_, fun y hy e => ?_⟩
  · have := ha y hy
    rw [e] at this
    cases this
  · have := ha y hy
    rw [e] at this
    exact beq_iff_eq.mp this
  · have := ha y hy
    rw [e, Bool.and_eq_true, Bool.or_eq_true] at this
    exact this.1.imp beq_iff_eq.mp beq_iff_eq.mp
  · have := ha y hy
    rw [e, Bool.and_eq_true] at this
    exact beq_iff_eq.mp this.2
def capB (nl : Nat) (ixs : List Nat) (N XN : List Str) (names : List (Str × NameKind)) : Bool := (List.range ixs.length).all fun k => match ixs[k]?, N[nl + k]? with
  | some j, some x => XN[j]? == some x && names.any fun y => y.1 == x && y.2 == .free
  | _, _ => true
theorem capB_ok {nl : Nat} {ixs : List Nat} {N XN : List Str} {names : List (Str × NameKind)} (h : capB nl ixs N XN names = true) (k j : Nat) (x : Str) (h1 : ixs[k]? = some j) (h2 : N[nl + k]? = some x) : XN[j]? = some x ∧ (x, NameKind.free) ∈ names := by
  have hk : k < ixs.length := (List.getElem?_eq_some_iff.mp h1).1
  have := List.all_eq_true.mp h k (List.mem_range.mpr hk)
  rw [h1, h2] at this
  simp only [Bool.and_eq_true] at this
  refine ⟨beq_iff_eq.mp this.1, ?_⟩
  obtain ⟨⟨n, kd⟩, hy, e⟩ := List.any_eq_true.mp this.2
  rw [Bool.and_eq_true] at e
  have e1 : n = x := beq_iff_eq.mp e.1
  have e2 : kd = .free := beq_iff_eq.mp e.2
  subst e1 e2
  exact hy
def capS (nl : Nat) (ixs : List Nat) (σ : St) : St := List.replicate nl none ++ ixs.map fun j => (σ[j]?).getD none
theorem capS_len (nl : Nat) (ixs : List Nat) (σ : St) : (capS nl ixs σ).length = nl + ixs.length := by
  unfold capS; rw [List.length_append, List.length_replicate, List.length_map]
theorem capS_get {nl : Nat} {ixs : List Nat} {σ : St} {i : Nat} {v : V} (h : (capS nl ixs σ)[i]? = some (some v)) : nl ≤ i ∧ ∃ j, ixs[i - nl]? = some j ∧ σ[j]? = some (some v) := by
  unfold capS at h
  by_cases hi : i < nl
  · rw [List.getElem?_append_left (by rw [List.length_replicate]; exact hi), List.getElem?_replicate] at h
    split at h <;> cases h
  · rw [List.getElem?_append_right (by rw [List.length_replicate]; omega), List.length_replicate, List.getElem?_map] at h
    refine ⟨by omega, ?_⟩
    cases e : ixs[i - nl]? with
    | none => rw [e] at h; cases h
    | some j =>
      rw [e] at h
      have h' : (σ[j]?).getD none = some v := Option.some.inj h
      cases q : σ[j]? with
      | none => rw [q] at h'; cases h'
      | some u =>
        rw [q] at h'
        exact ⟨j, rfl, by rw [q]; exact congrArg some h'⟩
def relF (env : Env) (y : Str × NameKind) : Str × NameKind := if (y.2 == NameKind.free && env.scope.kind == .function && env.kindOf y.1 == some .cell) = true then (y.1, NameKind.cell) else (y.1, y.2)
theorem relF_fst (env : Env) (y : Str × NameKind) : (relF env y).1 = y.1 := by unfold relF; split <;> rfl
theorem relF_snd (env : Env) (y : Str × NameKind) : (relF env y).2 = y.2 ∨ ((relF env y).2 = .cell ∧ y.2 = .free) := by
  unfold relF
  split
  · rename_i h
    rw [Bool.and_eq_true, Bool.and_eq_true] at h
    exact .inr ⟨rfl, beq_iff_eq.mp h.1.1⟩
  · exact .inl rfl
theorem relabel_find {env : Env} : ∀ {names : List (Str × NameKind)} {x : Str} {k : NameKind}, (names.map (relF env)).lookup x = some k → ∃ k0, names.lookup x = some k0 ∧ (x, k0) ∈ names ∧ (k = k0 ∨ (k = .cell ∧ k0 = .free))
  | [], _, _, h => by cases h
  | (n, k1) :: r, x, k, h => by
    rw [List.map_cons, show relF env (n, k1) = ((relF env (n, k1)).1, (relF env (n, k1)).2) from rfl, List.lookup_cons, relF_fst] at h
    rw [List.lookup_cons]
    cases hx : x == n with
    | true =>
      have e : x = n := beq_iff_eq.mp hx
      subst e
      have hx' : (x == (x, k1).1) = true := hx
      rw [hx'] at h
      have h' := Option.some.inj h
      refine ⟨k1, rfl, List.mem_cons_self, ?_⟩
      rcases relF_snd env (x, k1) with z | ⟨z1, z2⟩
      · exact .inl (h'.symm.trans z)
      · exact .inr ⟨h'.symm.trans z1, z2⟩
    | false =>
      have hx' : (x == (n, k1).1) = false := hx
      rw [hx'] at h
      obtain ⟨k0, e1, e2, e3⟩ := relabel_find h
      exact ⟨k0, e1, List.mem_cons_of_mem _ e2, e3⟩
section
variable {X : Cx} {pins : List (Addr × Obj)} {σ : St} {H : Hp} {s : Shared}
theorem comp_free_of {scope : Scope} {x : Str} (O : CompOk X.env.scope scope) {C : Addr} {cl : List (Str × Addr)} (h : (compEnvC scope cl C X.env).kindOf x = some .cell ∨ (compEnvC scope cl C X.env).kindOf x = some .free) : (x, NameKind.free) ∈ scope.names := by
  rcases h with h | h
  · obtain ⟨k0, _, hm, e | ⟨_, e⟩⟩ := relabel_find (env := X.env) (names := scope.names) h
    · exact absurd e.symm (O.nocell _ hm)
    · rw [e] at hm
      exact hm
  · obtain ⟨k0, _, hm, e | ⟨e, _⟩⟩ := relabel_find (env := X.env) (names := scope.names) h
    · rw [← e] at hm
      exact hm
    · cases e
theorem Inv.comp {N : List Str} {scope : Scope} {nl : Nat} {ixs : List Nat} {C D : Addr} {fp : List Addr} {ob : Obj} {h1 : Heap} {tk : Nat} (I : Inv X pins σ H s) (O : CompOk X.env.scope scope)
    (hN : N.length = nl + ixs.length) (hcap : ∀ (k j : Nat) (x : Str), ixs[k]? = some j → N[nl + k]? = some x → X.N[j]? = some x ∧ (x, NameKind.free) ∈ scope.names)
    (hf : ∀ b ∈ fp, FpOk X pins H b) (hfl : ∀ b ∈ fp, b < s.heap.objs.size) (hC : s.heap.objs.size ≤ C) (hD : s.heap.objs.size ≤ D) (hDC : D ≠ C) (hns : h1.Ns C fun _ => none) (k : ∀ b o, s.heap.get? b = some o → h1.get? b = some o)
    (hob : h1.get? D = some ob) (hcl : ∀ v, ob.data ≠ .cell v) : Inv (X.comp N scope C s H fp) [(D, ob)] (capS nl ixs σ) H { s with heap := h1, toks := tk } := by
  have cells : ∀ x c, (compCells X.env scope.names []).lookup x = some c → X.env.cells.lookup x = some c ∧ (x, NameKind.free) ∈ scope.names := fun x c h => by
    rcases compCells_mem h with ⟨h1, h2⟩ | h1
    · obtain ⟨c', hc'⟩ := I.ok.has x (by
        rcases O.free _ h1 rfl with z | z
        · exact .inl z
        · exact .inr z)
      rw [hc'] at h2
      exact ⟨by rw [hc', h2]; rfl, h1⟩
    · cases h1
  refine ⟨⟨I.ok.mod, O.kind, I.ok.glob, I.ok.blt, hC, fun x y c h1 h2 => I.ok.inj x y c (cells x c h1).1 (cells y c h2).1, fun x hx => compCells_has (comp_free_of O hx), fun x c z _ => (by cases z), I.ok.hd, I.ok.frames, .inl rfl,
      fun b hb => ⟨Nat.ne_of_lt (Nat.lt_of_lt_of_le (hfl b hb) hC), fun x c e => (hf b hb).2.2.2.2.1 x c (cells x c e).1⟩, I.bs, Nat.le_trans I.ok.bsz I.sz, fun b o e hb => ?_, fun b hb z => ?_, I.stack, I.stkFree⟩,
    rfl, I.bare, Un.kept k, ⟨_, hns, fun i x v e1 e2 e3 => ?_⟩, fun x c e => ?_, I.hok.fresh hC, fun x c e => I.freeC x c (cells x c e).1, fun p hp => ?_, I.hok.kept k, ?_⟩
  · rcases (hf b hb).2.2.2.1 with z | z
    · exact I.ok.noex b o e z
    · have := (I.ok.bs b o e).1
      exact absurd (Nat.lt_of_lt_of_le (Heap.lt_size this) z) (Nat.lt_irrefl _)
  · rcases List.mem_cons.mp (I.stkSub b z) with e | e
    · exact (hf b hb).2.1 e
    · exact (hf b hb).2.2.1 e
  · obtain ⟨hi, j, hj, hv⟩ := capS_get e2
    obtain ⟨hx, hfr⟩ := hcap (i - nl) j x hj (by rw [Nat.add_sub_cancel' hi]; exact e1)
    obtain ⟨m, hn, hl⟩ := I.loc
    have hk := O.free _ hfr rfl
    obtain ⟨u, ru, lk⟩ := hl j x v hx hv (by
      rcases hk with z | z
      · exact .inr (.inl z)
      · exact .inr (.inr z))
    refine ⟨u, ru, ?_⟩
    rcases lk with ⟨hk2, _⟩ | ⟨_, c, hc, hcell⟩
    · have hk2' : X.env.scope.names.lookup x = some .local := hk2
      rcases hk with z | z <;> · rw [z] at hk2'; cases hk2'
    · obtain ⟨c', hc'⟩ := compCells_has (env := X.env) (acc := []) hfr
      have e : c' = c := by
        have := (cells x c' hc').1
        rw [hc] at this
        exact (Option.some.inj this).symm
      subst e
      refine .inr ⟨?_, c', hc', ?_⟩
      · rcases e3 with z | z | z
        · obtain ⟨k0, z3, _, e | ⟨e, _⟩⟩ := relabel_find (env := X.env) (names := scope.names) z
          · rw [O.once _ hfr rfl] at z3
            cases z3
            cases e
          · cases e
        · exact .inl z
        · exact .inr z
      · obtain ⟨o, ho, hd⟩ := hcell
        exact ⟨o, k _ _ ho, hd⟩
  · obtain ⟨v, o, ho, hd⟩ := I.cell x c (cells x c e).1
    exact ⟨v, o, k _ _ ho, hd⟩
  · have e : p = (D, ob) := by simpa using hp
    subst e
    refine ⟨hob, I.hok.fresh hD, hDC, fun z => ?_, hcl⟩
    rcases List.mem_cons.mp (I.stkSub D z) with e | e
    · exact absurd (show X.env.locals < D from Nat.lt_of_lt_of_le I.lt hD) (by rw [e]; exact Nat.lt_irrefl _)
    · exact I.nofs hD e
  · show (capS nl ixs σ).length = N.length
    rw [capS_len, hN]
theorem Inv.compBack {N : List Str} {scope : Scope} {C D : Addr} {fp : List Addr} {its : List Value} {n : Nat} {s' : Shared} {H' : Hp} {σ' : St} {ys : List V} (I : Inv X pins σ H s) (hf : ∀ b ∈ fp, FpOk X pins H b) (hC : s.heap.objs.size ≤ C) (hD : s.heap.objs.size ≤ D)
    (J : Inv (X.comp N scope C s H fp) [(D, { cls := .type "list", data := .seq its.toArray n })] σ' H' s') (hv : Vals ys its) (hz : ys.length ≤ sizeLine) : Inv X pins σ (upd H' D (.lst ys)) s' := by
  obtain ⟨pD, nD, neD, _, _⟩ := J.pin (D, { cls := .type "list", data := .seq its.toArray n }) (List.mem_append_right _ (List.mem_singleton.mpr rfl))
  have ltD : ∀ b o, s.heap.get? b = some o → b ≠ D := fun b o e => Nat.ne_of_lt (Nat.lt_of_lt_of_le (Heap.lt_size e) hD)
  have J0 := J.base
  refine I.call' (ch := fp) J.os ⟨J0.keep, J0.slot, fun b o e n hx => ?_, J0.there, fun b xs e => ?_, fun b o u e => ?_, fun b ps e => ?_⟩ (fun b u e => ?_) J.bare fun b hb => ⟨(hf b hb).2.2.2.1, (hf b hb).2.1, (hf b hb).2.2.2.2.1, (hf b hb).2.2.2.2.2⟩
  · rw [upd_ne (ltD b o e)]
    exact J0.free b o e n hx
  · have q := J0.tups b xs e
    rw [upd_ne (ne_of_none q nD)]
    exact q
  · have q := J0.frzs b o u e
    rw [upd_ne (ne_of_none q nD)]
    exact q
  · obtain ⟨more, q⟩ := J0.tbls b ps e
    exact ⟨more, by rw [upd_ne (ne_of_none q nD)]; exact q⟩
  · by_cases hb : b = D
    · subst hb
      rw [upd_same] at e
      cases e
      exact ⟨hz, its, n, hv, pD⟩
    · rw [upd_ne hb] at e
      exact (J.hok b u e).stay (fun c v _ q => q) (fun c q => by rw [upd_ne (ne_of_none q nD)]; exact q) fun c xs q => by rw [upd_ne (ne_of_none q nD)]; exact q
end
def tYes : TT := fun _ H Q => Q true H
def tComp (wi : TI) (g : TG) (tc : TT) (te : TE) (nl : Nat) (ixs : List Nat) : TE := fun σ H Q => wi σ H fun J H1 =>
  ∃ W : Nat → Nat → List V → Hp → Prop, (∃ m, W 0 m [] H1) ∧ ∀ i m ys H, W i m ys H →
    (J.stop i H ∧ ys.length ≤ sizeLine ∧ ∀ p, H p = none → Q (.ref p) (upd H p (.lst ys))) ∨
    (J.go i H ∧ ∃ M : List V → Hp → Prop, (∀ ys' H', M ys' H' → ∃ m', m' < m ∧ W (i + 1) m' ys' H') ∧ ∀ x H', J.yld i H x H' → g x (capS nl ixs σ) H' fun σ2 H2 => tc σ2 H2 fun b H3 =>
      if b = true then te σ2 H3 fun v H4 => ys.length < sizeLine ∧ M (ys ++ [v]) H4 else M ys H3)
def GKeep (nl : Nat) (g : TG) : Prop := ∀ x σ H Q, g x σ H Q → g x σ H fun σ2 H2 => Q σ2 H2 ∧ σ2.length = σ.length ∧ ∀ i, nl ≤ i → σ2[i]? = σ[i]?
theorem gk_name {nl i : Nat} (h : i < nl := by decide) : GKeep nl (gName i) := fun x σ H Q q => ⟨q, List.length_set .., fun j hj => List.getElem?_set_ne (by omega)⟩
def PIfs (X : Cx) (ifs : List Expr) (tc : TT) : Prop :=
  ∀ (pins : List (Addr × Obj)) (s : Shared) (σ : St) (H : Hp) (Q : Bool → Hp → Prop), Inv X pins σ H s → tc σ H Q →
    wpAny (model X.prog X.w) X.A (forIn ifs true fun c r => if r = true then do let ok ← isTrue c X.env (eval c X.env); pure (ForInStep.yield ok) else pure (ForInStep.yield r)) (TP X pins σ Q) X.xe s
theorem pifs_nil {X : Cx} : PIfs X [] tYes := fun pins s σ H Q I h => wpAny_tests_nil ⟨H, I, h⟩
theorem pifs_one {X : Cx} {c : Expr} {tc : TT} (h : PT X c tc) : PIfs X [c] tc := fun pins s σ H Q I q => wpAny_tests_one (h pins s σ H Q I q)
section
variable {X : Cx} {pins : List (Addr × Obj)} {σ : St} {H : Hp} {s : Shared}
theorem comp_block {N : List Str} {scope : Scope} {nl : Nat} {ixs : List Nat} {fp : List Addr} {it : Addr} {tn : Nat → Heap → Prop} {J : It} {tg elt iter : Expr} {ifs : List Expr} {pos : Pos} {g : TG} {tc : TT} {te : TE} {Q : V → Hp → Prop} {E : Value → Shared → Prop}
    {RR : Value → Addr → Result → Shared → Prop} (I : Inv X pins σ H s) (hc : X.calm = true) (O : CompOk X.env.scope scope)
    (hN : N.length = nl + ixs.length) (hcap : ∀ (k j : Nat) (x : Str), ixs[k]? = some j → N[nl + k]? = some x → X.N[j]? = some x ∧ (x, NameKind.free) ∈ scope.names)
    (T : Turn X.prog X.w X.K tg J fp it tn) (st : tn 0 s.heap) (hf : ∀ b ∈ fp, FpOk X pins H b)
    (hg : ∀ C s0 H0 ex, PG (X.comp N scope C s0 H0 ex) tg g) (gk : GKeep nl g) (hi : ∀ C s0 H0 ex, PIfs (X.comp N scope C s0 H0 ex) ifs tc) (he : ∀ C s0 H0 ex, PE (X.comp N scope C s0 H0 ex) elt te)
    (h : ∃ W : Nat → Nat → List V → Hp → Prop, (∃ m, W 0 m [] H) ∧ ∀ i m ys H, W i m ys H →
      (J.stop i H ∧ ys.length ≤ sizeLine ∧ ∀ p, H p = none → Q (.ref p) (upd H p (.lst ys))) ∨
      (J.go i H ∧ ∃ M : List V → Hp → Prop, (∀ ys' H', M ys' H' → ∃ m', m' < m ∧ W (i + 1) m' ys' H') ∧ ∀ x H', J.yld i H x H' → g x (capS nl ixs σ) H' fun σ2 H2 => tc σ2 H2 fun b H3 =>
        if b = true then te σ2 H3 fun v H4 => ys.length < sizeLine ∧ M (ys ++ [v]) H4 else M ys H3))
    (hRR : ∀ (D C : Addr) (s' : Shared) (H' : Hp) (σ' : St) (ys : List V) (its : List Value) (n : Nat), s.heap.objs.size ≤ C → s.heap.objs.size ≤ D → Inv (X.comp N scope C s H fp) [(D, { cls := .type "list", data := .seq its.toArray n })] σ' H' s' → Vals ys its → ys.length ≤ sizeLine →
      (∀ p, H' p = none → Q (.ref p) (upd H' p (.lst ys))) → RR (.ref D) C (.ok .next) s') :
    wpAny (model X.prog X.w) X.A (newList []) (fun acc s3 => wpAny (model X.prog X.w) X.A (newFunctionEnv scope X.env.globals (compCells X.env scope.names []) [] X.env.qual none .none (some X.env)) (fun cenv s4 =>
      codeAny (model X.prog X.w) X.A (.compStart (.ListComp elt [⟨tg, iter, ifs, 0⟩] scope pos) 0 (.ref it) acc { cenv with scope := relabel scope X.env }) (RR acc cenv.locals) s4) E s3) E s := by
  obtain ⟨W, ⟨m0, w0⟩, turn⟩ := h
  refine wpAny_newObj_type (wpAny_newFunctionEnv O.nocell (by intro y hy; simp at hy) (fun h1 hns1 hsb1 => ?_) O.kind)
  dsimp only at hns1 hsb1 ⊢
  generalize hH2 : s.heap.push { cls := .type "list", dict := none, data := .seq ([] : List Value).toArray } = H2 at hns1 hsb1 ⊢
  have hC : H2.objs.size = s.heap.objs.size + 1 := by rw [← hH2, Heap.size_push]
  have hDC : s.heap.objs.size ≠ H2.objs.size := by rw [hC]; exact Nat.ne_of_lt (Nat.lt_succ_self _)
  have hCle : s.heap.objs.size ≤ H2.objs.size := by rw [hC]; exact Nat.le_succ _
  have below : ∀ b, b < s.heap.objs.size → b ≠ H2.objs.size ∧ b ≠ s.heap.objs.size := fun b hb => ⟨by rw [hC]; exact Nat.ne_of_lt (Nat.lt_succ_of_lt hb), Nat.ne_of_lt hb⟩
  have old : ∀ b o, s.heap.get? b = some o → h1.get? b = some o := fun b o e => hsb1.extBut b o (below b (Heap.lt_size e)).1 (Heap.get?_push_of_some _ (hH2 ▸ Heap.get?_push_of_some _ e))
  have hacc : h1.get? s.heap.objs.size = some { cls := .type "list", data := .seq ([] : List Value).toArray } := hsb1.extBut _ _ hDC (Heap.get?_push_of_some _ (hH2 ▸ Heap.get?_push_size _ rfl))
  have hfl : ∀ b ∈ fp, b < s.heap.objs.size := fun b hb => by
    obtain ⟨o, ho, _⟩ := T.obj 0 _ st b hb
    exact Heap.lt_size ho
  have loop : ∀ s3 : Shared, s3 = { s with heap := h1, toks := s.toks + ([] : List (Str × Value)).length } →
      codeAny (model X.prog X.w) X.A (.compLoop (.ListComp elt [⟨tg, iter, ifs, 0⟩] scope pos) 0 (.ref it) (.ref s.heap.objs.size) (compEnvC scope (compCells X.env scope.names []) H2.objs.size X.env)) (RR (.ref s.heap.objs.size) H2.objs.size) s3 := by
    rintro s3 rfl
    have I0 := I.comp (N := N) (C := H2.objs.size) (D := s.heap.objs.size) (h1 := h1) (tk := s.toks + ([] : List (Str × Value)).length) O hN hcap hf hfl hCle (Nat.le_refl _) hDC hns1 old hacc (fun v z => by cases z)
    have stat : ∀ {H' : Hp} {σ' : St} {s' : Shared} {pl : List (Addr × Obj)}, Inv (X.comp N scope H2.objs.size s H fp) pl σ' H' s' → (∀ p ∈ pl, p.1 = s.heap.objs.size) → (∀ b ∈ fp, H' b = none) → ∀ b ∈ fp, FpOk (X.comp N scope H2.objs.size s H fp) pl H' b := fun {H' σ' s' pl} J hpl hn b hb =>
      ⟨hn b hb, (below b (hfl b hb)).1, fun z => (by
          rcases List.mem_cons.mp (I.stkSub b z) with e | e
          · exact (hf b hb).2.1 e
          · exact (hf b hb).2.2.1 e), .inl hb, J.ok.exf b hb |>.2, fun p hp z => by
        have e := hpl p (by simpa using hp)
        rw [e] at z
        exact (below b (hfl b hb)).2 z.symm⟩
    refine compLoop_own (fun k s' => ∃ i H' ys its n, Inv (X.comp N scope H2.objs.size s H fp) [(s.heap.objs.size, { cls := .type "list", data := .seq its.toArray n })] (capS nl ixs σ) H' s' ∧ tn i s'.heap ∧ (∀ b ∈ fp, H' b = none) ∧ Vals ys its ∧ W i k ys H') ?_ m0
      ⟨0, H, [], [], 0, I0, T.keep _ _ _ st fun b _ o e => old b o e, fun b hb => (hf b hb).1, .nil, w0⟩
    rintro k s' ⟨i, H', ys, its, n, J1, st1, fr1, v1, w1⟩
    have one : ∀ p ∈ [((s.heap.objs.size, { cls := .type "list", data := .seq its.toArray n }) : Addr × Obj)], p.1 = s.heap.objs.size := fun p hp => by
      have e : p = _ := List.mem_singleton.mp hp
      rw [e]
    rcases turn i k ys H' w1 with ⟨stop, hz, q⟩ | ⟨go, M, hM, step⟩
    · refine thn (T.done (X.comp N scope H2.objs.size s H fp) rfl rfl rfl hc i _ s' _ H' _ J1 (stat J1 one fr1) st1 stop) fun r s4 ⟨hr, J4⟩ => ?_
      subst hr
      exact hRR _ _ s4 H' _ ys its n hCle (Nat.le_refl _) J4 v1 hz q
    · refine thn (T.item (X.comp N scope H2.objs.size s H fp) rfl rfl rfl hc i _ s' _ H' _ J1 (stat J1 one fr1) st1 go) fun r s4 ⟨u, hr, h4⟩ => ?_
      subst hr
      refine thn h4 fun _ s5 ⟨x, H5, J5, r5, y5, st5, fr5⟩ => ?_
      have J5' := J5.pinned (stat J5 one fr5) (T.obj _ _ st5)
      refine thn (hg _ _ _ _ _ s5 _ H5 x u _ J5' r5 (gk _ _ _ _ (step x H5 y5))) fun _ s6 ⟨σ6, H6, J6, q6, l6, k6⟩ => ?_
      refine thn (hi _ _ _ _ _ s6 σ6 H6 _ J6 q6) fun ok s7 ⟨H7, J7, q7⟩ => ?_
      have again : ∀ {s8 : Shared} {H8 : Hp} {ys' : List V} {k' : Nat}, Inv (X.comp N scope H2.objs.size s H fp) ([((s.heap.objs.size, { cls := .type "list", data := .seq its.toArray n }) : Addr × Obj)] ++ pinsAt fp s5.heap) σ6 H8 s8 →
          (∀ b o, b ≠ s.heap.objs.size → s8.heap.get? b = some o → s8.heap.get? b = some o) → tn (i + 1) s8.heap ∧ ∀ b ∈ fp, H8 b = none := fun {s8 H8 ys' k'} J8 _ => by
        refine ⟨T.keep _ _ _ st5 fun b hb o e => (J8.pin (b, o) (List.mem_append_right _ (List.mem_append_right _ (mem_pinsAt hb e)))).1, fun b hb => ?_⟩
        obtain ⟨o, e, d⟩ := T.obj _ _ st5 b hb
        exact (J8.pin (b, o) (List.mem_append_right _ (List.mem_append_right _ (mem_pinsAt hb e)))).2.1
      have wk : ∀ (j : Nat) v, (capS nl ixs σ)[j]? = some (some v) → σ6[j]? = some (some v) := fun j v e => by
        obtain ⟨hj, _⟩ := capS_get e
        rw [k6 j hj]
        exact e
      cases ok with
      | false =>
        rw [if_neg Bool.false_ne_true] at q7 ⊢
        obtain ⟨m', hm, w7⟩ := hM _ _ q7
        obtain ⟨st7, fr7⟩ := again (ys' := ys) (k' := 0) J7 (fun _ _ _ e => e)
        exact ⟨m', hm, i + 1, H7, ys, its, n, J7.unpinned.weak l6.symm wk, st7, fr7, v1, w7⟩
      | true =>
        rw [if_pos rfl] at q7 ⊢
        refine thn (he _ _ _ _ _ s7 σ6 H7 _ J7 q7) fun y s8 ⟨v, H8, J8, r8, hlt, mq⟩ => ?_
        obtain ⟨m', hm, w8⟩ := hM _ _ mq
        obtain ⟨st8, fr8⟩ := again (ys' := ys) (k' := 0) J8 (fun _ _ _ e => e)
        have J9 := J8.unpinned
        obtain ⟨pD, nD, neD, nfD, _⟩ := J9.pin (s.heap.objs.size, { cls := .type "list", data := .seq its.toArray n }) (List.mem_append_right _ (List.mem_singleton.mpr rfl))
        refine wpAny_list_append_plain (hsz := by rw [List.size_toArray, ← v1.length]; omega) ⟨n, pD⟩ fun h9 hl9 hs9 => ?_
        obtain ⟨n9, hl9⟩ := hl9
        have e9 : (its.toArray.push y) = (its ++ [y]).toArray := by simp
        rw [e9] at hl9
        have Ja : Inv (X.comp N scope H2.objs.size s H fp) [] (capS nl ixs σ) H8 { s8 with heap := h9, toks := s8.toks } :=
          ((J9.pins_of (pins' := []) fun p hp => absurd hp (by simp)).turned (it := s.heap.objs.size) (h' := h9) (t' := s8.toks) (fun b o hb e => (hs9.2 b hb).trans e) nD neD (.inr (Nat.le_refl _))
            (fun x c e z => by
              obtain ⟨c0, o0, h0, _⟩ := I0.cell x c e
              have := compCells_mem e
              rcases this with ⟨hfr, hcc⟩ | hcc
              · obtain ⟨c', hc'⟩ := I.ok.has x (by
                  rcases O.free _ hfr rfl with q | q
                  · exact .inl q
                  · exact .inr q)
                rw [hc'] at hcc
                have hcc' : c = c' := hcc
                obtain ⟨_, q⟩ := I.cell x c' hc'
                rw [← hcc', z] at q
                exact absurd q.lt (Nat.lt_irrefl _)
              · cases hcc) (fun p hp => absurd hp (by simp))).weak l6.symm wk
        refine ⟨m', hm, i + 1, H8, ys ++ [v], its ++ [y], n9, Ja.pins_of fun p hp => ?_, ?_, fr8, v1.append (.cons r8 .nil), w8⟩
        · have e : p = _ := List.mem_singleton.mp hp
          subst e
          exact ⟨hl9, nD, neD, nfD, fun v z => by cases z⟩
        · exact T.keep _ _ _ st8 fun b hb o e => (hs9.2 b (below b (hfl b hb)).2).trans e
  exact codeAny_compStart_list (loop _ rfl) (T.self _ 0 _ _ _ (T.keep _ _ _ st fun b _ o e => old b o e) (loop _ rfl))
end
section
variable {X : Cx} {tg elt iter : Expr} {ifs : List Expr} {scope : Scope} {pos : Pos} {N : List Str} {nl : Nat} {ixs : List Nat} {wi : TI} {g : TG} {tc : TT} {te : TE}
theorem pe_comp {sc : Scope} {XN : List Str} (N : List Str) (nl : Nat) (ixs : List Nat) (hsc : X.env.scope = sc) (hXN : X.N = XN) (hc : X.calm = true) (O' : compB sc scope = true) (hN : N.length = nl + ixs.length) (hcap' : capB nl ixs N XN scope.names = true)
    (hi : PI X tg iter wi) (hg : ∀ C s0 H0 ex, PG (X.comp N scope C s0 H0 ex) tg g) (gk : GKeep nl g) (ht : ∀ C s0 H0 ex, PIfs (X.comp N scope C s0 H0 ex) ifs tc) (he : ∀ C s0 H0 ex, PE (X.comp N scope C s0 H0 ex) elt te)
    (hs : ∀ x, foldedSetIterable iter X.env x = pure x := by intro _; rfl) : PE X (.ListComp elt [⟨tg, iter, ifs, 0⟩] scope pos) (tComp wi g tc te nl ixs) := by
  intro pins s σ H Q I h
  subst hsc hXN
  have O := compB_ok O'
  have hcap := capB_ok hcap'
  rw [eval_ListComp]
  have hcl := closureFor_eq (scope := scope) (env := X.env) fun n hn => I.ok.has n (by
    rcases O.free _ hn rfl with z | z
    · exact .inl z
    · exact .inr z)
  refine wpAny_comprehension_free (use := none) rfl hs hcl O.kind O.loc (thn (hi pins s σ H _ I h) fun v s1 h1 => thn h1 fun itv s2 h2 => ?_)
  obtain ⟨it, fp, tn, J, H2, e, I2, T, st2, f2, hW⟩ := h2
  subst e
  refine comp_block (Q := Q) (RR := fun acc C => compPost (model X.prog X.w) X.A X.xe none (EP X pins σ Q) acc C) I2 hc O hN hcap T st2 f2 hg gk ht he hW ?_
  intro D C s' H' σ' ys its n hC hD J' hv hz q
  obtain ⟨m, hn, _⟩ := id J'.loc
  have B := I2.compBack f2 hC hD J' hv hz
  obtain ⟨_, nD, neD, _, _⟩ := J'.pin (D, { cls := .type "list", data := .seq its.toArray n }) (List.mem_append_right _ (List.mem_singleton.mpr rfl))
  refine ⟨m, hn, fun h' sb => ⟨.ref D, _, ?_, rfl, q D nD⟩⟩
  refine B.turned (it := C) (h' := h') (t' := s'.toks) (fun b o hb e => (sb.2 b hb).trans e) ((upd_ne (H := H') (a := D) (b := C) (o := .lst ys) (Ne.symm neD)).trans J'.free) (Nat.ne_of_gt (Nat.lt_of_lt_of_le I2.lt hC)) (.inr (Nat.le_trans I2.sz hC)) (fun x c e z => ?_) (fun p hp z => ?_)
  · obtain ⟨_, q⟩ := I2.cell x c e
    exact absurd (Nat.lt_of_lt_of_le q.lt (by rw [z]; exact hC)) (Nat.lt_irrefl _)
  · exact absurd (Nat.lt_of_lt_of_le (Heap.lt_size (I2.pin p hp).1) (by rw [z]; exact hC)) (Nat.lt_irrefl _)
theorem ps_setC {i : Nat} {y : Str} {py spos : Pos} {sc : Scope} {XN : List Str} (N : List Str) (nl : Nat) (ixs : List Nat) (hsc : X.env.scope = sc) (hXN' : X.N = XN) (hc : X.calm = true) (O' : compB sc scope = true) (hN : N.length = nl + ixs.length) (hcap' : capB nl ixs N XN scope.names = true)
    (hXN : X.N.Nodup) (hi' : X.N[i]? = some y) (hy : X.env.scope.names.lookup y = some .local)
    (hi : PI X tg iter wi) (hg : ∀ C s0 H0 ex, PG (X.comp N scope C s0 H0 ex) tg g) (gk : GKeep nl g) (ht : ∀ C s0 H0 ex, PIfs (X.comp N scope C s0 H0 ex) ifs tc) (he : ∀ C s0 H0 ex, PE (X.comp N scope C s0 H0 ex) elt te)
    (hsw : swapsWith (.ListComp elt [⟨tg, iter, ifs, 0⟩] scope pos) (some (.Name y py)) spos.line X.env = pure true := by rfl)
    (hs : ∀ x, foldedSetIterable iter X.env x = pure x := by intro _; rfl) : PS X (.Assign [.Name y py] (.ListComp elt [⟨tg, iter, ifs, 0⟩] scope pos) spos) (tAsg (tComp wi g tc te nl ixs) (gName i)) := by
  intro pins s σ H D0 I h
  subst hsc hXN'
  have O := compB_ok O'
  have hcap := capB_ok hcap'
  have hcl := closureFor_eq (scope := scope) (env := X.env) fun n hn => I.ok.has n (by
    rcases O.free _ hn rfl with z | z
    · exact .inl z
    · exact .inr z)
  rw [exec_Assign_Name_used _ _ _ _ hsw]
  refine wpAny_bind (wpAny_standAt (wpAny_bind ?_))
  show wpAny _ X.A (do let _ ← comprehension (.ListComp elt [⟨tg, iter, ifs, 0⟩] scope pos) scope X.env _ (newList []) false (eval iter X.env) (some (assign (.Name y py) X.env))) _ _ s
  refine wpAny_bind (wpAny_mono (wpAny_comprehension_free (use := some (assign (.Name y py) X.env)) (Q := fun _ s' => SP X pins D0 .next s') rfl hs hcl O.kind O.loc
    (thn (hi pins s σ H _ I h) fun v s1 h1 => thn h1 fun itv s2 h2 => ?_)) (fun _ s' hq => wpAny_pure (wpAny_pure hq)) fun _ _ e => e)
  obtain ⟨it, fp, tn, J, H2, e, I2, T, st2, f2, hW⟩ := h2
  subst e
  refine comp_block (Q := fun v H' => gName i v σ H' D0.nx) (RR := fun acc C => compPost (model X.prog X.w) X.A X.xe (some (assign (.Name y py) X.env)) (fun _ s' => SP X pins D0 .next s') acc C) I2 hc O hN hcap T st2 f2 hg gk ht he hW ?_
  intro D C s' H' σ' ys its n hC hD J' hv hz q
  obtain ⟨m, hn, _⟩ := id J'.loc
  have B := I2.compBack f2 hC hD J' hv hz
  obtain ⟨_, nD, neD, _, _⟩ := J'.pin (D, { cls := .type "list", data := .seq its.toArray n }) (List.mem_append_right _ (List.mem_singleton.mpr rfl))
  show wpAny _ X.A (assign (.Name y py) X.env (.ref D)) _ _ _
  refine wpAny_assign_Name (store_ok2 (i := i) (x := y) (v := .ref D) B hXN hi' (.inl hy) rfl (fun s'' B' hsb => ?_) (.inr hy))
  obtain ⟨a, sa, ha⟩ := hsb
  have hCa : C ≠ a := by
    rintro rfl
    rcases ha with z | z
    · exact absurd (show X.env.locals < C from Nat.lt_of_lt_of_le I2.lt hC) (by rw [z]; exact Nat.lt_irrefl _)
    · obtain ⟨_, q⟩ := I2.cell y C z
      exact absurd (Nat.lt_of_lt_of_le q.lt hC) (Nat.lt_irrefl _)
  refine ⟨m, hn.sameBut sa hCa, fun h' sb => ⟨_, _, ?_, q D nD⟩⟩
  refine B'.turned (it := C) (h' := h') (t' := s''.toks) (fun b o hb e => (sb.2 b hb).trans e) ((upd_ne (H := H') (a := D) (b := C) (o := .lst ys) (Ne.symm neD)).trans J'.free) (Nat.ne_of_gt (Nat.lt_of_lt_of_le I2.lt hC)) (.inr (Nat.le_trans I2.sz hC)) (fun x c e z => ?_) (fun p hp z => ?_)
  · obtain ⟨_, q⟩ := I2.cell x c e
    exact absurd (Nat.lt_of_lt_of_le q.lt (by rw [z]; exact hC)) (Nat.lt_irrefl _)
  · exact absurd (Nat.lt_of_lt_of_le (Heap.lt_size (I2.pin p hp).1) (by rw [z]; exact hC)) (Nat.lt_irrefl _)
end
end L2
namespace L2
open PySem PySem.Spec PyProof.Rows
def Its (x : Str) : It := ⟨fun i _ => i < x.cps.size, fun i H v H' => H' = H ∧ ∃ c, x.cps[i]? = some c ∧ v = .str ⟨#[c]⟩, fun i _ => i = x.cps.size⟩
theorem turn_str {P : Program} {w : World} {K : PySem.W.Frag} {tg : Expr} {it : Addr} {x : Str} {t : Tok} {T : String} (W : ∀ A : Around, A.handled = none → Walks P w A it [it] [it] x.cps.size (SignAt x) fun i h => h.IsStrIter it T x t i)
    (sf : ∀ (A : Around) (i : Nat) (s : Shared) (Q : Value → Shared → Prop) (E : Value → Shared → Prop), s.heap.IsStrIter it T x t i → Q (.ref it) s → wpAny (model P w) A (pyIter (.ref it)) Q E s)
    (htg : ∀ v, letOwnedTupleGo tg (.ref it) v = pure ()) : Turn P w K tg (Its x) [it] it (fun i h => h.IsStrIter it T x t i) where
  mem := by simp
  obj := fun i h st b hb => by
    have e : b = it := by simpa using hb
    subst e
    obtain ⟨o, e, c, d⟩ := st
    exact ⟨o, e, fun v z => by rw [d] at z; cases z⟩
  keep := fun i h h' st k => by
    obtain ⟨o, e, r⟩ := st
    exact ⟨o, k it (by simp) o e, r⟩
  item := by
    intro X hP hw hK hc i pins s σ H E I hf st hg
    subst hP hw hK
    obtain ⟨f0, f1, f2, f3, f4, f5⟩ := hf it (by simp)
    refine (W X.A (I.ok.hd hc)).item i s _ _ hg st fun v h' tk hv st' kk => ?_
    obtain ⟨c, u, hcx, rfl⟩ := hv
    have I1 : Inv X pins σ H { s with heap := h', toks := tk } := I.turned (fun b o hb e => kk b o (by simpa using hb) e) f0 f1 f3 f4 f5
    refine ⟨_, rfl, wpAny_of_eq (htg _) ⟨.str ⟨#[c]⟩, H, I1, ⟨u, rfl⟩, ⟨rfl, c, hcx, rfl⟩, st', fun b hb => (hf b hb).1⟩⟩
  done := by
    intro X hP hw hK hc i pins s σ H E I hf st hg
    subst hP hw hK
    obtain ⟨f0, f1, f2, f3, f4, f5⟩ := hf it (by simp)
    have e : i = x.cps.size := hg
    subst e
    exact (W X.A (I.ok.hd hc)).done s _ _ st fun h' tk kk => ⟨rfl, I.turned (fun b o hb e => kk b o (by simpa using hb) e) f0 f1 f3 f4 f5⟩
  self := sf
section
variable {X : Cx} {tg : Expr}
end
section
variable {K : PySem.W.Frag} {a : Addr} {xs : List V} {g : TG} {tc : TT} {te : TE} {σ' : St} {H1 : Hp} {Q : V → Hp → Prop}
def CompW (J : It) (g : TG) (tc : TT) (te : TE) (σ' : St) (H1 : Hp) (Q : V → Hp → Prop) : Prop :=
  ∃ W : Nat → Nat → List V → Hp → Prop, (∃ m, W 0 m [] H1) ∧ ∀ i m ys H, W i m ys H →
      (J.stop i H ∧ ys.length ≤ sizeLine ∧ ∀ p, H p = none → Q (.ref p) (upd H p (.lst ys))) ∨
      (J.go i H ∧ ∃ M : List V → Hp → Prop, (∀ ys' H', M ys' H' → ∃ m', m' < m ∧ W (i + 1) m' ys' H') ∧ ∀ x H', J.yld i H x H' → g x σ' H' fun σ2 H2 => tc σ2 H2 fun b H3 =>
        if b = true then te σ2 H3 fun v H4 => ys.length < sizeLine ∧ M (ys ++ [v]) H4 else M ys H3)
theorem comp_list (Pv : Nat → List V → Hp → Prop) (h0 : Pv 0 [] H1) (hl : ∀ i ys H, i ≤ xs.length → Pv i ys H → SqL K H a xs)
    (hs : ∀ i x ys H, xs[i]? = some x → Pv i ys H → g x σ' H fun σ2 H2 => tc σ2 H2 fun b H3 => if b = true then te σ2 H3 fun v H4 => ys.length < sizeLine ∧ Pv (i + 1) (ys ++ [v]) H4 else Pv (i + 1) ys H3)
    (hd : ∀ ys H, Pv xs.length ys H → ys.length ≤ sizeLine ∧ ∀ p, H p = none → Q (.ref p) (upd H p (.lst ys))) : CompW (Itl K a) g tc te σ' H1 Q := by
  refine ⟨fun i m ys H => m = xs.length - i ∧ i ≤ xs.length ∧ Pv i ys H, ⟨xs.length, by simp, Nat.zero_le _, h0⟩, ?_⟩
  rintro i m ys H ⟨rfl, hi, p⟩
  have q := hl i ys H hi p
  by_cases hlt : i < xs.length
  · refine .inr ⟨⟨xs, xs[i], q, by simp [hlt]⟩, Pv (i + 1), fun ys' H' p' => ⟨xs.length - (i + 1), by omega, rfl, hlt, p'⟩, fun x H' y => ?_⟩
    obtain ⟨e, y⟩ := y
    subst e
    exact hs i x ys _ (y xs q) p
  · have e : i = xs.length := by omega
    subst e
    exact .inl ⟨⟨xs, q, Nat.le_refl _⟩, hd ys H p⟩
theorem comp_range {lo : Int} {n : Nat} (Pv : Nat → List V → Hp → Prop) (h0 : Pv 0 [] H1)
    (hs : ∀ i ys H, i < n → Pv i ys H → g (.int (lo + i)) σ' H fun σ2 H2 => tc σ2 H2 fun b H3 => if b = true then te σ2 H3 fun v H4 => ys.length < sizeLine ∧ Pv (i + 1) (ys ++ [v]) H4 else Pv (i + 1) ys H3)
    (hd : ∀ ys H, Pv n ys H → ys.length ≤ sizeLine ∧ ∀ p, H p = none → Q (.ref p) (upd H p (.lst ys))) : CompW (Itr lo n) g tc te σ' H1 Q := by
  refine ⟨fun i m ys H => m = n - i ∧ i ≤ n ∧ Pv i ys H, ⟨n, by simp, Nat.zero_le _, h0⟩, ?_⟩
  rintro i m ys H ⟨rfl, hi, p⟩
  by_cases hlt : i < n
  · refine .inr ⟨hlt, Pv (i + 1), fun ys' H' p' => ⟨n - (i + 1), by omega, rfl, hlt, p'⟩, fun x H' y => ?_⟩
    obtain ⟨e, y⟩ := y
    subst e y
    exact hs i ys _ hlt p
  · have e : i = n := by omega
    subst e
    exact .inl ⟨Nat.le_refl _, hd ys H p⟩
theorem comp_str {x : Str} (Pv : Nat → List V → Hp → Prop) (h0 : Pv 0 [] H1)
    (hs : ∀ i c ys H, x.cps[i]? = some c → Pv i ys H → g (.str ⟨#[c]⟩) σ' H fun σ2 H2 => tc σ2 H2 fun b H3 => if b = true then te σ2 H3 fun v H4 => ys.length < sizeLine ∧ Pv (i + 1) (ys ++ [v]) H4 else Pv (i + 1) ys H3)
    (hd : ∀ ys H, Pv x.cps.size ys H → ys.length ≤ sizeLine ∧ ∀ p, H p = none → Q (.ref p) (upd H p (.lst ys))) : CompW (Its x) g tc te σ' H1 Q := by
  refine ⟨fun i m ys H => m = x.cps.size - i ∧ i ≤ x.cps.size ∧ Pv i ys H, ⟨x.cps.size, by simp, Nat.zero_le _, h0⟩, ?_⟩
  rintro i m ys H ⟨rfl, hi, p⟩
  by_cases hlt : i < x.cps.size
  · refine .inr ⟨hlt, Pv (i + 1), fun ys' H' p' => ⟨x.cps.size - (i + 1), by omega, rfl, hlt, p'⟩, fun v H' y => ?_⟩
    obtain ⟨e, c, hc, y⟩ := y
    subst e y
    exact hs i c ys _ hc p
  · have e : i = x.cps.size := by omega
    subst e
    exact .inl ⟨rfl, hd ys H p⟩
end
def clsVal : V → Option Value
  | .ty n => some (.type n)
  | .ref a => some (.ref a)
  | _ => none
theorem clsVal_rel {y : V} {c u : Value} (h : clsVal y = some c) (r : RelV y u) : u = c := by
  cases y with
  | ty n => cases h; exact r
  | ref a => cases h; exact r
  | _ => cases h
section
variable {X : Cx} {pins : List (Addr × Obj)} {σ : St} {H : Hp} {s : Shared}
theorem TyOf.kit {x : V} {u t : Value} (I : Inv X pins σ H s) (rx : RelV x u) (ty : TyOf X.K H x t) : ∃ P : Heap → Prop, PySem.W.KitX X.K u t P ∧ P s.heap ∧ u ≠ .builtin "__main__.__loader__#opaque" := by
  cases ty with
  | non => cases (show u = Value.none from rx); exact ⟨_, PySem.W.kitx_none, True.intro, (fun z => nomatch z)⟩
  | bl y => cases (show u = Value.bool y from rx); exact ⟨_, PySem.W.kitx_bool, True.intro, (fun z => nomatch z)⟩
  | int i => obtain ⟨t, q⟩ := (show ∃ t, u = Value.int i t from rx); cases q; exact ⟨_, PySem.W.kitx_int, True.intro, (fun z => nomatch z)⟩
  | str y => obtain ⟨t, q⟩ := (show ∃ t, u = Value.str y t from rx); cases q; exact ⟨_, PySem.W.kitx_str, True.intro, (fun z => nomatch z)⟩
  | flt y => obtain ⟨t, q⟩ := (show ∃ t, u = Value.float y t from rx); cases q; exact ⟨_, PySem.W.kitx_float, True.intro, (fun z => nomatch z)⟩
  | @lst a xs ea =>
    cases (show u = Value.ref a from rx)
    obtain ⟨_, _, n, _, h1⟩ := (show ObjOk X.prog X.w H s.heap a (.lst xs) from I.hok a _ ea)
    exact ⟨_, PySem.W.kitx_list, ⟨_, h1, rfl⟩, (fun z => nomatch z)⟩
  | @frz a ob xs ea =>
    cases (show u = Value.ref a from rx)
    obtain ⟨_, _, _, n, _, h1⟩ := (show ObjOk X.prog X.w H s.heap a (.frz ob (.lst xs)) from I.hok a _ ea)
    exact ⟨_, PySem.W.kitx_list, ⟨_, h1, rfl⟩, (fun z => nomatch z)⟩
  | @tup a xs ea =>
    cases (show u = Value.ref a from rx)
    obtain ⟨_, _, _, p⟩ := (show ObjOk X.prog X.w H s.heap a (.tup xs) from I.hok a _ ea)
    obtain ⟨o, h1, h2, _⟩ := p
    exact ⟨_, PySem.W.kitx_tuple, ⟨o, h1, h2⟩, (fun z => nomatch z)⟩
  | @dK a kvs ea =>
    cases (show u = Value.ref a from rx)
    obtain ⟨_, _, vs, _, p⟩ := (show ObjOk X.prog X.w H s.heap a (.dK kvs) from I.hok a _ ea)
    obtain ⟨o, es, ep, h1, h2, _⟩ := p
    exact ⟨_, PySem.W.kitx_dict, ⟨o, h1, h2.1⟩, (fun z => nomatch z)⟩
  | @dT a kvs ea =>
    cases (show u = Value.ref a from rx)
    obtain ⟨_, _, xs, _, o, es, ep, h1, h2, _⟩ := (show ObjOk X.prog X.w H s.heap a (.dT kvs) from I.hok a _ ea)
    exact ⟨_, PySem.W.kitx_dict, ⟨o, h1, h2.1⟩, (fun z => nomatch z)⟩
  | @ins a C dx fs ea cl ha hn htk hm =>
    cases (show u = Value.ref a from rx)
    obtain ⟨mA, O, _⟩ := ins_get I.hok ea
    obtain ⟨od, J, _⟩ := O.look
    exact ⟨_, PySem.W.kitx_own (cl.get _) cl.hd ha hn htk hm, J, (fun z => nomatch z)⟩
end
section
variable {X : Cx}
theorem bools_of : ∀ {bs : List Bool} {us : List Value}, Vals (bs.map V.bl) us → us = bs.map Value.bool
  | [], _, .nil => rfl
  | b :: bs, _, .cons r t => by
    have e := bools_of t
    rw [e]
    cases r
    rfl
def rAll (K : PySem.W.Frag) : List V → Hp → VK → Prop := fun xs H Q => ∃ (p : Addr) (bs : List Bool), xs = [.ref p] ∧ SqL K H p (bs.map V.bl) ∧ Q (.bl (bs.all id)) H
theorem call_all (hc : X.calm = true) : CallR X (.builtin "all") (rAll X.K) := by
  intro pins s σ H xs us Q I r h
  obtain ⟨p, bs, rfl, hp, q⟩ := h
  obtain ⟨u, rfl, ru⟩ := vals1 r
  cases ru
  obtain ⟨its, rv, pl, hz⟩ := I.list hp
  have e := bools_of rv
  subst e
  have hh : X.A.in1.handled = none := I.ok.hd hc
  refine call_all_walk (wpAny_pyIter_list pl.isList ?_)
  have hne : p ≠ s.heap.objs.size := by
    obtain ⟨o, ho, _⟩ := pl.isList
    exact Nat.ne_of_lt (Heap.lt_size ho)
  refine ⟨s.heap.objs.size, _, _, _, _, _, fun i => (bs[i]?).getD false, rfl, Walks.list hh s.heap.objs.size p hne (bs.map Value.bool).toArray, ⟨⟨_, Heap.get?_push_size _ rfl, rfl, rfl⟩, pl.isList.at fun o e => Heap.get?_push_of_some _ e⟩, fun i v s Q E hv hq => ?_, fun h' tk hk => ?_⟩
  · have hv' : (bs.map Value.bool)[i]? = some v := by simpa using hv
    rw [List.getElem?_map] at hv'
    cases e : bs[i]? with
    | none => rw [e] at hv'; cases hv'
    | some b =>
      rw [e] at hv'
      cases hv'
      have hq' : Q ((bs[i]?).getD false) s := hq
      rw [e] at hq'
      exact wpAny_pure hq'
  · have e : ((List.range (bs.map Value.bool).toArray.size).all fun i => (bs[i]?).getD false) = bs.all id := by
      rw [List.size_toArray, List.length_map]
      have key : ∀ bs : List Bool, ((List.range bs.length).all fun i => (bs[i]?).getD false) = bs.all id := by
        intro bs
        induction bs with
        | nil => rfl
        | cons b r ih =>
          rw [List.length_cons, List.range_succ_eq_map, List.all_cons, List.all_map, List.all_cons, ← ih]
          rfl
      exact key bs
    rw [e]
    refine ⟨.bl _, H, ?_, rfl, q⟩
    have I1 : Inv X pins σ H { s with heap := s.heap.push { cls := .type "list_iterator", data := .fields #[.ref p, .int 0 0] } } := I.kept (t' := s.toks) fun b o e => Heap.get?_push_of_some _ e
    have nf := I.fpOk (b := s.heap.objs.size) (Nat.le_refl _) (I.hok.fresh (Nat.le_refl _))
    exact I1.turned (it := s.heap.objs.size) (h' := h') (t' := tk) (fun b o hb e => hk b o (by simpa using hb) e) nf.1 nf.2.1 nf.2.2.2.1 nf.2.2.2.2.1 nf.2.2.2.2.2
theorem op_le_str : OpR X (compareOp .LtE) (fun x y H Q => ∃ i j, x = .str i ∧ y = .str j ∧ Q (.bl (!decide (j.cps.toList < i.cps.toList))) H) := by
  intro pins s σ H x y v u Q I rx ry h
  obtain ⟨i, j, rfl, rfl, q⟩ := h
  obtain ⟨t, rfl⟩ := rx
  obtain ⟨t', rfl⟩ := ry
  exact PySem.P.le_str (fin_bl I q (by rfl))
def rLeU : R2 := fun x y H Q => match x, y with
  | .int i, .int j => Q (.bl (decide (i ≤ j))) H
  | .str i, .str j => Q (.bl (!decide (j.cps.toList < i.cps.toList))) H
  | _, _ => False
theorem u_le : OpR X (compareOp .LtE) rLeU := by
  intro pins s σ H x y v u Q I rx ry h
  cases x with
  | int i => cases y with
    | int j => exact op_le pins s σ H _ _ v u Q I rx ry ⟨i, j, rfl, rfl, h⟩
    | _ => exact False.elim h
  | str i => cases y with
    | str j => exact op_le_str pins s σ H _ _ v u Q I rx ry ⟨i, j, rfl, rfl, h⟩
    | _ => exact False.elim h
  | _ => exact False.elim h
theorem op_is_bl : OpR X (compareOp .Is) (fun x y H Q => ∃ i j, x = .bl i ∧ y = .bl j ∧ Q (.bl (i == j)) H) := by
  intro pins s σ H x y v u Q I rx ry h
  obtain ⟨i, j, rfl, rfl, q⟩ := h
  cases rx
  cases ry
  exact wpAny_is_plain (by cases i <;> cases j <;> rfl) (fin_bl I q (by cases i <;> cases j <;> rfl))
def rIsU : R2 := fun x y H Q => match x, y with
  | .bl i, .bl j => Q (.bl (i == j)) H
  | x, .non => Q (.bl (decide (x = .non))) H
  | _, _ => False
theorem u_is : OpR X (compareOp .Is) rIsU := by
  intro pins s σ H x y v u Q I rx ry h
  cases y with
  | non => exact op_isN pins s σ H x _ v u Q I rx ry ⟨rfl, by cases x <;> exact h⟩
  | bl j => cases x with
    | bl i => exact op_is_bl pins s σ H _ _ v u Q I rx ry ⟨i, j, rfl, rfl, h⟩
    | _ => exact False.elim h
  | _ => cases x <;> exact False.elim h
theorem op_rep_str : OpR X (binaryOp .Mult) (fun x y H Q => ∃ z k, x = .str z ∧ y = .int k ∧ MulOk z k ∧ Q (.str (Txt.mul z k)) H) := by
  intro pins s σ H x y v u Q I rx ry h
  obtain ⟨z, k, rfl, rfl, hm, q⟩ := h
  obtain ⟨t, rfl⟩ := rx
  obtain ⟨t', rfl⟩ := ry
  exact SB.mul hm fun t' k' => ⟨.str _, H, I.tok _, ⟨_, rfl⟩, q⟩
def rMulU : R2 := fun x y H Q => match x, y with
  | .int i, .int j => CMul i j ∧ Q (.int (i * j)) H
  | .str z, .int k => MulOk z k ∧ Q (.str (Txt.mul z k)) H
  | .ref a, .int k => rRep (.ref a) (.int k) H Q
  | _, _ => False
theorem u_mul : OpR X (binaryOp .Mult) rMulU := by
  intro pins s σ H x y v u Q I rx ry h
  cases y with
  | int j => cases x with
    | int i => exact op_mul pins s σ H _ _ v u Q I rx ry ⟨i, j, rfl, rfl, h.1, h.2⟩
    | str i => exact op_rep_str pins s σ H _ _ v u Q I rx ry ⟨i, j, rfl, rfl, h.1, h.2⟩
    | ref a => exact op_rep pins s σ H _ _ v u Q I rx ry h
    | _ => exact False.elim h
  | _ => cases x <;> exact False.elim h
def rAddU (K : PySem.W.Frag) : R2 := fun x y H Q => match x, y with
  | .int i, .int j => Q (.int (i + j)) H
  | .str i, .str j => i.length + j.length ≤ sizeLine ∧ Q (.str (i ++ j)) H
  | .ref a, .ref b => rCat (.ref a) (.ref b) H Q ∨ rCatT K (.ref a) (.ref b) H Q
  | _, _ => False
theorem u_add : OpR X (binaryOp .Add) (rAddU X.K) := by
  intro pins s σ H x y v u Q I rx ry h
  cases x with
  | int i => cases y with
    | int j => exact op_add pins s σ H _ _ v u Q I rx ry ⟨i, j, rfl, rfl, h⟩
    | _ => exact False.elim h
  | str i => cases y with
    | str j => exact op_add_str pins s σ H _ _ v u Q I rx ry ⟨i, j, rfl, rfl, h.1, h.2⟩
    | _ => exact False.elim h
  | ref a => cases y with
    | ref b => exact h.elim (fun h => op_cat pins s σ H _ _ v u Q I rx ry h) fun h => op_catT pins s σ H _ _ v u Q I rx ry h
    | _ => exact False.elim h
  | _ => exact False.elim h
def rLenU (K : PySem.W.Frag) : List V → Hp → VK → Prop := fun xs H Q => match xs with
  | [.str z] => z.length ≤ sizeLine ∧ Q (.int z.length) H
  | [.ref p] => (∃ ys, (SqL K H p ys ∨ SqT K H p ys) ∧ Q (.int ys.length) H) ∨ ∃ kvs, H p = some (.dK kvs) ∧ Q (.int kvs.length) H
  | _ => False
theorem call_lenU : CallR X (.builtin "len") (rLenU X.K) := by
  intro pins s σ H xs us Q I r h
  match xs, h with
  | [.str z], h => exact call_len_str pins s σ H _ us Q I r ⟨z, rfl, h.1, h.2⟩
  | [.ref p], .inl ⟨ys, h, q⟩ => exact call_len_seq pins s σ H _ us Q I r ⟨p, ys, rfl, h, q⟩
  | [.ref p], .inr ⟨kvs, h, q⟩ => exact call_lenD pins s σ H _ us Q I r ⟨p, kvs, rfl, h, q⟩
theorem sl_str : SlR X (fun x lo hi H Q => ∃ z, x = .str z ∧ z.length ≤ sizeLine ∧ Q (.str (Txt.slice z lo hi)) H) := by
  intro pins s σ H x v vl vu lo hi sl Q I rx hs pl pu h
  obtain ⟨z, rfl, hz, q⟩ := h
  obtain ⟨t, rfl⟩ := rx
  refine ⟨"str", _, F.slot_str_getitem.lookup, typeIs_str _ _ _, ?_⟩
  cases pl with
  | none =>
    cases pu with
    | none => exact wpAny_getItem_str_slice (l := none) (u := none) (st := none) hs rfl (post_val_or_str ⟨Nat.le_trans (Txt.slice_le z _ _) hz, fun t' k => ⟨.str _, H, I.tok _, ⟨_, rfl⟩, q⟩⟩)
    | int j uj => exact wpAny_getItem_str_slice (l := none) (u := some (j, uj)) (st := none) hs rfl (post_val_or_str ⟨Nat.le_trans (Txt.slice_le z _ _) hz, fun t' k => ⟨.str _, H, I.tok _, ⟨_, rfl⟩, q⟩⟩)
  | int i ui =>
    cases pu with
    | none => exact wpAny_getItem_str_slice (l := some (i, ui)) (u := none) (st := none) hs rfl (post_val_or_str ⟨Nat.le_trans (Txt.slice_le z _ _) hz, fun t' k => ⟨.str _, H, I.tok _, ⟨_, rfl⟩, q⟩⟩)
    | int j uj => exact wpAny_getItem_str_slice (l := some (i, ui)) (u := some (j, uj)) (st := none) hs rfl (post_val_or_str ⟨Nat.le_trans (Txt.slice_le z _ _) hz, fun t' k => ⟨.str _, H, I.tok _, ⟨_, rfl⟩, q⟩⟩)
def rSlU (K : PySem.W.Frag) : V → Option Int → Option Int → Hp → VK → Prop := fun x lo hi H Q => match x with
  | .str z => z.length ≤ sizeLine ∧ Q (.str (Txt.slice z lo hi)) H
  | .ref a => rSlL K (.ref a) lo hi H Q ∨ rSlT K (.ref a) lo hi H Q
  | _ => False
theorem u_sl : SlR X (rSlU X.K) := by
  intro pins s σ H x v vl vu lo hi sl Q I rx hs pl pu h
  cases x with
  | str z => exact sl_str pins s σ H _ v vl vu lo hi sl Q I rx hs pl pu ⟨z, rfl, h.1, h.2⟩
  | ref a => exact h.elim (fun h => sl_list pins s σ H _ v vl vu lo hi sl Q I rx hs pl pu h) fun h => sl_tup pins s σ H _ v vl vu lo hi sl Q I rx hs pl pu h
  | _ => exact False.elim h
theorem strs_of : ∀ {ys : List Str} {us : List Value}, Vals (ys.map V.str) us → StrsAre us ys
  | [], _, .nil => .nil
  | y :: ys, _, .cons r t => by
    obtain ⟨tk, rfl⟩ := r
    exact .cons y tk (strs_of t)
def rJoin (K : PySem.W.Frag) : V → List V → Hp → VK → Prop := fun x vs H Q => ∃ (z : Str) (p : Addr) (ys : List Str), x = .str z ∧ vs = [.ref p] ∧ SqL K H p (ys.map V.str) ∧ (ys.map (·.length)).sum + ys.length * z.length ≤ 16777216 ∧ Q (.str (Txt.join z ys)) H
theorem mt_join : MtR X "str.join" (rJoin X.K) := by
  intro pins s σ H x vs v us Q I rx rv h
  obtain ⟨z, p, ys, rfl, rfl, hp, hz, q⟩ := h
  obtain ⟨t, rfl⟩ := rx
  obtain ⟨u, rfl, ru⟩ := rv.one
  cases ru
  obtain ⟨its, r, pl, _⟩ := I.list hp
  exact join_list pl.isList (by simpa using strs_of r) hz fun t' k => ⟨.str _, H, I.tok _, ⟨_, rfl⟩, q⟩
def iAny (K : PySem.W.Frag) (te : TE) : TI := fun σ H R => te σ H fun v H1 => match v with
  | .str x => R (Its x) H1
  | .ref a => ((∃ xs, SqL K H1 a xs) ∧ R (Itl K a) H1) ∨ ((∃ xs, SqT K H1 a xs) ∧ R (Itt K a) H1)
  | _ => False
theorem pi_any {tg e : Expr} {te : TE} (he : PE X e te) (htg : ∀ it v, letOwnedTupleGo tg it v = pure () := by intro _ _; rfl) : PI X tg e (iAny X.K te) := by
  intro pins s σ H R I h
  refine thn (he pins s σ H _ I h) fun v s1 ⟨y, H1, I1, r1, q1⟩ => ?_
  cases y with
  | str x =>
    obtain ⟨t, rfl⟩ := r1
    have fp : ∀ b ∈ [s1.heap.objs.size], FpOk X pins H1 b := fun b hb => by
      have e : b = s1.heap.objs.size := by simpa using hb
      subst e
      exact I1.fpOk (Nat.le_refl _) (I1.hok.fresh (Nat.le_refl _))
    cases ha : x.cps.all (· < 128)
    · exact wpAny_pyIter_wide ha ⟨s1.heap.objs.size, [s1.heap.objs.size], _, _, H1, rfl, I1.kept (t' := s1.toks) fun b o e => Heap.get?_push_of_some _ e,
        turn_str (T := "str_iterator") (fun A hA => Walks.strWide hA _ x t) (fun A i s Q E st h => wpAny_pyIter_striter_wide st h) (htg _), ⟨_, Heap.get?_push_size _ rfl, rfl, rfl⟩, fp, q1⟩
    · exact wpAny_pyIter_ascii ha ⟨s1.heap.objs.size, [s1.heap.objs.size], _, _, H1, rfl, I1.kept (t' := s1.toks) fun b o e => Heap.get?_push_of_some _ e,
        turn_str (T := "str_ascii_iterator") (fun A hA => Walks.strAscii hA _ x t) (fun A i s Q E st h => wpAny_pyIter_striter_ascii st h) (htg _), ⟨_, Heap.get?_push_size _ rfl, rfl, rfl⟩, fp, q1⟩
  | ref a =>
    cases r1
    have fp : ∀ b ∈ [s1.heap.objs.size], FpOk X pins H1 b := fun b hb => by
      have e : b = s1.heap.objs.size := by simpa using hb
      subst e
      exact I1.fpOk (Nat.le_refl _) (I1.hok.fresh (Nat.le_refl _))
    rcases q1 with ⟨⟨xs, hq⟩, q⟩ | ⟨⟨xs, hq⟩, q⟩
    · obtain ⟨its, rv, p, hz⟩ := I1.list hq
      exact wpAny_pyIter_list p.isList ⟨s1.heap.objs.size, [s1.heap.objs.size], _, _, H1, rfl, I1.kept (t' := s1.toks) fun b o e => Heap.get?_push_of_some _ e, turn_list a _, ⟨_, Heap.get?_push_size _ rfl, rfl, rfl⟩, fp, q⟩
    · obtain ⟨its, rv, p, hz⟩ := I1.tuple hq
      exact wpAny_pyIter_tuple (show s1.heap.IsTuple a its.toArray from p) ⟨s1.heap.objs.size, [s1.heap.objs.size], _, _, H1, rfl, I1.kept (t' := s1.toks) fun b o e => Heap.get?_push_of_some _ e, turn_tuple a _, ⟨_, Heap.get?_push_size _ rfl, rfl, rfl⟩, fp, q⟩
  | _ => exact False.elim q1
end
end L2
namespace L2
open PySem PySem.Spec PyProof.Rows
section
variable {D : Ends} {σ : St} {H : Hp} {Q : VK} {QT : Bool → Hp → Prop} {QA : List V → Hp → Prop} {t u : TS} {te ta tb tc : TE} {c c' : TT} {tr tas : TA} {r r' : R2} {K : PySem.W.Frag}
theorem vSeq (h : t { D with nx := u D } σ H) : tSeq t u D σ H := h
theorem vAsg {i : Nat} (h : te σ H fun x H1 => D.nx (σ.set i (some x)) H1) : tAsg te (gName i) D σ H := h
theorem vAsgS {to ti : TE} {s : TSet} (h : te σ H fun x H1 => to σ H1 fun o H2 => ti σ H2 fun i H3 => s o i x H3 fun H4 => D.nx σ H4) : tAsg te (gSub to ti s) D σ H := h
theorem vIfS (h : c σ H fun b H1 => if b = true then t D σ H1 else u D σ H1) : tIfS c t u D σ H := h
theorem vRet (h : te σ H D.rt) : tRet te D σ H := h
theorem vRetN (h : D.rt .non H) : tRetN D σ H := h
theorem vDrop (h : te σ H fun _ H1 => D.nx σ H1) : tDrop te D σ H := h
theorem vNext (h : D.nx σ H) : tNext D σ H := h
theorem vC {v : V} (h : Q v H) : tC v σ H Q := h
theorem vVar {i : Nat} {v : V} (e : σ[i]? = some (some v)) (h : Q v H) : tVar i σ H Q := ⟨v, e, h⟩
theorem vOp (h : ta σ H fun x H1 => tb σ H1 fun y H2 => r x y H2 Q) : tOp r ta tb σ H Q := h
theorem vUn {f : V → Hp → VK → Prop} (h : ta σ H fun x H1 => f x H1 Q) : tUn f ta σ H Q := h
theorem vChain (h : ta σ H fun x H1 => tb σ H1 fun y H2 => r x y H2 fun z H3 => ∃ k, z = .bl k ∧ if k = true then tc σ H3 fun z2 H4 => r' y z2 H4 Q else Q (.bl false) H3) : tChain r r' ta tb tc σ H Q := h
theorem vNil (h : QA [] H) : tNil σ H QA := h
theorem vCons (h : ta σ H fun x H1 => tr σ H1 fun xs H2 => QA (x :: xs) H2) : tCons ta tr σ H QA := h
theorem vCB {f : List V → Hp → VK → Prop} (h : tas σ H fun vs H1 => f vs H1 Q) : tCB f tas σ H Q := h
theorem vCall {sp : Sp} {E : XK} (h : tas σ H fun vs H1 => sp (vs ++ []) H1 Q E) : tCall sp [] E tas σ H Q := h
theorem vLst (h : tas σ H fun xs H1 => xs.length ≤ sizeLine ∧ ∀ p, H1 p = none → Q (.ref p) (upd H1 p (.lst xs))) : tLst tas σ H Q := h
theorem vTup (h : tas σ H fun xs H1 => xs.length ≤ sizeLine ∧ ∀ p, H1 p = none → Q (.ref p) (upd H1 p (.tup xs))) : tTup tas σ H Q := h
theorem vTest (h : te σ H fun x H' => ∃ k, x = .bl k ∧ QT k H') : tTest te σ H QT := h
theorem vB (h : te σ H fun x H' => ∃ k, x = .bl k ∧ QT k H') : tB te σ H QT := h
theorem vNot (h : c σ H fun b H1 => QT (!b) H1) : tNot c σ H QT := h
theorem vAnd (h : c σ H fun b H1 => if b = true then c' σ H1 QT else QT false H1) : tAnd c c' σ H QT := h
theorem vOr (h : c σ H fun b H1 => if b = true then QT true H1 else c' σ H1 QT) : tOr c c' σ H QT := h
theorem vAndV (h : ta σ H fun x H1 => ∃ k, x = .bl k ∧ if k = true then tb σ H1 Q else Q (.bl false) H1) : tAndV ta tb σ H Q := h
theorem vOrV (h : ta σ H fun x H1 => ∃ k, x = .bl k ∧ if k = true then Q (.bl true) H1 else tb σ H1 Q) : tOrV ta tb σ H Q := h
theorem vNotV (h : ta σ H fun x H1 => ∃ k, x = .bl k ∧ Q (.bl (!k)) H1) : tNotV ta σ H Q := h
theorem vIf (h : c σ H fun b H1 => if b = true then ta σ H1 Q else tb σ H1 Q) : tIf c ta tb σ H Q := h
theorem vYes (h : QT true H) : tYes σ H QT := h
theorem vI0 {g : Int → Int → V} {i j : Int} (h : Q (g i j) H) : rI0 g (.int i) (.int j) H Q := ⟨i, j, rfl, rfl, h⟩
theorem vI {C : Int → Int → Prop} {g : Int → Int → V} {i j : Int} (hc : C i j) (h : Q (g i j) H) : rI C g (.int i) (.int j) H Q := ⟨i, j, rfl, rfl, hc, h⟩
theorem vU {g : Int → V} {i : Int} (h : Q (g i) H) : rU g (.int i) H Q := ⟨i, rfl, h⟩
theorem vEqI {i j : Int} (h : Q (.bl (decide (i = j))) H) : rEq (.int i) (.int j) H Q := ⟨rfl, by
  have e : decide (V.int i = V.int j) = decide (i = j) := by
    by_cases h : i = j
    · subst h; simp
    · rw [decide_eq_false h, decide_eq_false (fun e => h (V.int.inj e))]
  rw [e]; exact h⟩
theorem vEqB {i j : Bool} (h : Q (.bl (i == j)) H) : rEq (.bl i) (.bl j) H Q := ⟨rfl, by rw [dec_bl]; exact h⟩
theorem vIxL {p : Addr} {xs : List V} {i : Int} {v : V} (hp : H p = some (.lst xs)) (ha : atI xs i = some v) (h : Q v H) : rIx K (.ref p) (.int i) H Q := .inl ⟨p, xs, i, v, rfl, rfl, SqL.of hp, ha, h⟩
theorem vIxLs {p : Addr} {xs : List V} {i : Int} {v : V} (hp : SqL K H p xs) (ha : atI xs i = some v) (h : Q v H) : rIx K (.ref p) (.int i) H Q := .inl ⟨p, xs, i, v, rfl, rfl, hp, ha, h⟩
theorem vIxT {p : Addr} {xs : List V} {i : Int} {v : V} (hp : H p = some (.tup xs)) (ha : atI xs i = some v) (h : Q v H) : rIx K (.ref p) (.int i) H Q := .inr (.inl ⟨p, xs, i, v, rfl, rfl, SqT.of hp, ha, h⟩)
theorem vIxS {z : Str} {i : Int} {ch : Nat} (hz : z.length ≤ sizeLine) (ha : atI z.cps.toList i = some ch) (h : Q (.str ⟨#[ch]⟩) H) : rIx K (.str z) (.int i) H Q := .inr (.inr ⟨z, i, ch, rfl, rfl, hz, ha, h⟩)
theorem vSetL {p : Addr} {xs : List V} {k : Int} {v : V} {j : Nat} {QH : Hp → Prop} (hp : H p = some (.lst xs)) (hj : ixN xs.length k = some j) (h : QH (upd H p (.lst (xs.set j v)))) : rSetL (.ref p) (.int k) v H QH := ⟨p, xs, k, j, rfl, rfl, hp, hj, h⟩
theorem vEx {k : Bool} {P : Bool → Prop} (h : P k) : ∃ k', V.bl k = .bl k' ∧ P k' := ⟨k, rfl, h⟩
theorem vLeI {i j : Int} (h : Q (.bl (decide (i ≤ j))) H) : rLeU (.int i) (.int j) H Q := h
theorem vLeS {i j : Str} (h : Q (.bl (!decide (j.cps.toList < i.cps.toList))) H) : rLeU (.str i) (.str j) H Q := h
theorem vIsB {i j : Bool} (h : Q (.bl (i == j)) H) : rIsU (.bl i) (.bl j) H Q := h
theorem vAddI {i j : Int} (h : Q (.int (i + j)) H) : rAddU K (.int i) (.int j) H Q := h
theorem vAddS {i j : Str} (hz : i.length + j.length ≤ sizeLine) (h : Q (.str (i ++ j)) H) : rAddU K (.str i) (.str j) H Q := ⟨hz, h⟩
theorem vMulI {i j : Int} (hc : CMul i j) (h : Q (.int (i * j)) H) : rMulU (.int i) (.int j) H Q := ⟨hc, h⟩
theorem vLenS {z : Str} (hz : z.length ≤ sizeLine) (h : Q (.int z.length) H) : rLenU K [.str z] H Q := ⟨hz, h⟩
theorem vLenL {p : Addr} {ys : List V} (hp : H p = some (.lst ys)) (h : Q (.int ys.length) H) : rLenU K [.ref p] H Q := .inl ⟨ys, .inl (SqL.of hp), h⟩
theorem vLenLs {p : Addr} {ys : List V} (hp : SqL K H p ys) (h : Q (.int ys.length) H) : rLenU K [.ref p] H Q := .inl ⟨ys, .inl hp, h⟩
theorem vLenT {p : Addr} {ys : List V} (hp : H p = some (.tup ys)) (h : Q (.int ys.length) H) : rLenU K [.ref p] H Q := .inl ⟨ys, .inr (SqT.of hp), h⟩
theorem vSlS {z : Str} {lo hi : Option Int} (hz : z.length ≤ sizeLine) (h : Q (.str (Txt.slice z lo hi)) H) : rSlU K (.str z) lo hi H Q := ⟨hz, h⟩
theorem vSl {f : V → Option Int → Option Int → Hp → VK → Prop} {tl th : TO} (h : te σ H fun x H1 => tl σ H1 fun l H2 => th σ H2 fun u H3 => f x l u H3 Q) : tSl f te tl th σ H Q := h
theorem vNoPart {QO : Option Int → Hp → Prop} (h : QO none H) : tNoPart σ H QO := h
theorem vPart {QO : Option Int → Hp → Prop} (h : te σ H fun x H1 => ∃ i, x = .int i ∧ QO (some i) H1) : tPart te σ H QO := h
theorem vExI {i : Int} {P : Int → Prop} (h : P i) : ∃ j, V.int i = .int j ∧ P j := ⟨i, rfl, h⟩
theorem vBM {T : String} {f : V → List V → Hp → VK → Prop} (h : te σ H fun x H1 => tyV K T x H1 ∧ tas σ H1 fun xs H2 => f x xs H2 Q) : tBM K T f te tas σ H Q := h
theorem vBM0 {T : String} {f : V → List V → Hp → VK → Prop} (h : te σ H fun x H1 => tyV K T x H1 ∧ f x [] H1 Q) : tBM0 K T f te σ H Q := h
theorem vComp {wi : TI} {g : TG} {nl : Nat} {ixs : List Nat} (h : wi σ H fun J H1 => CompW J g c te (capS nl ixs σ) H1 Q) : tComp wi g c te nl ixs σ H Q := h
theorem vFor {wi : TI} {g : TG} (h : wi σ H fun J H1 => ∃ W : Nat → Nat → St → Hp → Prop, (∃ m, W 0 m σ H1) ∧ ∀ i m σ H, W i m σ H →
  (J.stop i H ∧ D.nx σ H) ∨ (J.go i H ∧ ∃ N : St → Hp → Prop, (∀ σ' H', N σ' H' → ∃ m', m' < m ∧ W (i + 1) m' σ' H') ∧ ∀ x H', J.yld i H x H' → g x σ H' fun σ2 H2 => t { D with nx := N, ct := N, bk := D.nx } σ2 H2)) : tFor wi g t D σ H := h
theorem vRng1 {R : It → Hp → Prop} (h : tas σ H fun vs H1 => ∃ j : Int, vs = [.int j] ∧ -(2 ^ 62) ≤ j ∧ j < 2 ^ 62 ∧ R (Itr 0 j.toNat) H1) : iRng1 tas σ H R := h
theorem vAny {R : It → Hp → Prop} (h : te σ H fun v H1 => match v with
  | .str x => R (Its x) H1
  | .ref a => ((∃ xs, SqL K H1 a xs) ∧ R (Itl K a) H1) ∨ ((∃ xs, SqT K H1 a xs) ∧ R (Itt K a) H1)
  | _ => False) : iAny K te σ H R := h
theorem vGN {i : Nat} {v : V} {QS : St → Hp → Prop} (h : QS (σ.set i (some v)) H) : gName i v σ H QS := h
theorem atI_lt {α : Type} {xs : List α} {i : Int} (h0 : 0 ≤ i) (h1 : i < xs.length) : ∃ v, atI xs i = some v ∧ xs[i.toNat]? = some v := by
  obtain ⟨n, rfl⟩ := Int.eq_ofNat_of_zero_le h0
  have hn : n < xs.length := by omega
  exact ⟨xs[n], atI_nat (by simp [hn]), by simp [hn]⟩
end
section
variable {X : Cx} {K : PySem.W.Frag} {o e : Expr} {es : List Expr} {to ta : TE} {t : TA} {name f : Str} {apos cpos pos : Pos} {T id : String} {r : V → List V → Hp → VK → Prop} {tg : Expr}
theorem k_len (hK : X.K = K) : CallR X (.builtin "len") (rLenU K) := by subst hK; exact call_lenU
theorem k_all (hK : X.K = K) (hc : X.calm = true) : CallR X (.builtin "all") (rAll K) := by subst hK; exact call_all hc
theorem k_sl (hK : X.K = K) : SlR X (rSlU K) := by subst hK; exact u_sl
theorem k_add (hK : X.K = K) : OpR X (binaryOp .Add) (rAddU K) := by subst hK; exact u_add
theorem ki_any (hK : X.K = K) (he : PE X e ta) (htg : ∀ it v, letOwnedTupleGo tg it v = pure () := by intro _ _; rfl) : PI X tg e (iAny K ta) := by subst hK; exact pi_any he htg
theorem k_bm (hK : X.K = K) (pa : PlainAttrs T) (slot : Slot T name id) (hty : typeOf (.builtin id) = pure (.type "method_descriptor")) (hm : MtR X id r) (ho : PE X o to) (ha : PA X (e :: es) t)
    (hbase : attributeBase o name X.env (eval o X.env) = eval o X.env := by rfl)
    (hfew : ((backTo cpos (starEach (e :: es) X.env)).all (fun x => !x.1) && (backToKw cpos (keywordEach [] X.env)).all (fun x => x.1.isSome)
      && decide ((e :: es).length + ([] : List Keyword).length + (if ([] : List Keyword).isEmpty then 0 else 1) < 30)) = true := by rfl)
    (hline : (apos.endLine == cpos.line) = true := by rfl) (hs : starEach (e :: es) X.env = (false, eval e X.env) :: starEach es X.env := by rfl) (hplain : (backTo cpos (starEach es X.env)).any (·.1) = false := by rfl) :
    PE X (.Call (.Attribute o name apos) (e :: es) [] cpos) (tBM K T r to t) := by
  subst hK
  exact pe_bm pa slot hty hm ho ha hbase hfew hline hs hplain
end
structure DefOk (P : Program) (w : World) (K : PySem.W.Frag) (mg : Str → Option Value) (base : Heap) (CX : CXT) (k : Nat) (x : Str) (ps : List Str) (sp : Sp) : Prop where
  ex : ∃ f fd, FnOk P w K mg base CX k f fd ps sp ∧ mg x = some (.ref f) ∧ PySem.W.keepIn K (.ref f) = true ∧ Binds K fd ps []
section
variable {X : Cx} {CX : CXT} {k : Nat} {ps : List Str} {sp : Sp} {E : XK} {x : Str} {p pos : Pos} {e : Expr} {es : List Expr} {t : TA}
theorem pe_def (D : DefOk X.prog X.w X.K X.mg X.base CX k x ps sp) (hr : Room k X.A) (hx : Passes CX X E) (ha : PA X (e :: es) t) (hg : Gl X x := by rfl) (hdb : (x == ("__debug__" : Str)) = false := by decide)
    (he : starEach (e :: es) X.env = (false, eval e X.env) :: starEach es X.env := by rfl) (hpl : (backTo pos (starEach es X.env)).any (·.1) = false := by rfl) : PE X (.Call (.Name x p) (e :: es) [] pos) (tCall sp [] E t) := by
  obtain ⟨f, fd, F, hm, hk, hb⟩ := D.ex
  exact pe_call F hr hg hm hk hb .nil hx ha hdb he hpl
theorem pe_globI {i : Int} (hg : Gl X x) (hm : ∃ tk, X.mg x = some (.int i tk)) (hd : (x == ("__debug__" : Str)) = false := by decide) : PE X (.Name x pos) (tC (.int i)) := by
  obtain ⟨tk, hm⟩ := hm
  exact pe_glob hg hm ⟨tk, rfl⟩ hd
end
def isaT (t c : String) : Bool := t == c || (t == "bool" && c == "int")
theorem kit_tab (K : PySem.W.Frag) : ∀ t ∈ ["NoneType", "bool", "int", "str", "list", "tuple", "dict"], ∀ c ∈ ["bool", "int", "str", "list", "tuple", "dict"], PySem.W.kitOne K (.type t) (.type c) = some (isaT t c) := by
  intro t ht c hc
  simp only [List.mem_cons, List.not_mem_nil, or_false] at ht hc
  rcases ht with rfl | rfl | rfl | rfl | rfl | rfl | rfl <;> rcases hc with rfl | rfl | rfl | rfl | rfl | rfl <;> rfl
end L2
namespace L2
open PySem PySem.Spec PyProof.Rows
def xMro : List Value → Bool
  | [.type a, .type b, .type c, .type d] => a == "ValueError" && b == "Exception" && c == "BaseException" && d == "object"
  | .ref _ :: r => xMro r
  | _ => false
def xcIn (K : PySem.W.Frag) (C : Addr) : Bool := match K.lookup C with
  | some ⟨.type "type", _, .cls cd, sl⟩ => (match cd.mro, sl.toList with
    | .ref D :: bm, [_, _, _, _, some (.builtin n), _] => D == C && !cd.hasDel && xMro bm && n == "ValueError.__new__"
    | _, _ => false)
  | _ => false
theorem xc_cls {K : PySem.W.Frag} {h : Heap} {C : Addr} (X : K.In h) (q : xcIn K C = true) : ∃ nm qn N bs bm hdct sn sub ab col dd k0 k1 k2 k3 k5,
    h.get? C = some (excClassObj nm qn C N bs bm hdct sn sub ab col dd k0 k1 k2 k3 k5 "ValueError.__new__") ∧ xMro bm = true := by
  unfold xcIn at q
  split at q
  · rename_i dd cd sl ho
    split at q
    · rename_i D bm k0 k1 k2 k3 n k5 hm hs
      simp only [Bool.and_eq_true, beq_iff_eq, Bool.not_eq_true'] at q
      obtain ⟨⟨⟨e1, e2⟩, e3⟩, e4⟩ := q
      subst e1 e4
      obtain ⟨nm, bs, mro, ns, qn, hd, sn, sub, ab, col, del⟩ := cd
      dsimp only at hm e2
      subst hm e2
      obtain ⟨l⟩ := sl
      dsimp only at hs
      subst hs
      exact ⟨nm, qn, ns, bs, bm, hd, sn, sub, ab, col, dd, k0, k1, k2, k3, k5, X _ _ ho, e3⟩
    · cases q
  · cases q
structure XAt (K : PySem.W.Frag) (C : Addr) : Prop where
  ga : PySem.W.findIn K (.ref C) "__getattribute__" = some (some (.builtin "BaseException.__getattribute__"))
  gn : PySem.W.findIn K (.ref C) "__getattr__" = some none
  bx : PySem.W.mroIn K C (.type "BaseException") = some true
  ob : PySem.W.mroIn K C (.type "object") = some true
  hd : PySem.W.hasDictIn K C = true
  cl : PySem.W.findIn K (.ref C) "__class__" = some (some (.builtin "object.__class__"))
  cg : PySem.W.specialIn K (.builtin "object.__class__") "__get__" = some (some (.builtin "getset_descriptor.__get__"))
  ct : PySem.W.takesIn K (.builtin "object.__class__") = some true
  sa : PySem.W.findIn K (.ref C) "__setattr__" = some (some (.builtin "object.__setattr__"))
  mr : (PySem.W.clsIn K C).any (fun cd => xMro cd.mro) = true
  xc : xcIn K C = true
theorem bexc_ga_slot : Slot "ValueError" "__getattribute__" "BaseException.__getattribute__" := PySem.F.attr_ValueError.ga
section
variable {prog : Program} {w : World} {A : Around} {E : Value → Shared → Prop} {s : Shared} {K : PySem.W.Frag} {x C : Addr} {ox : Obj} {od : Option Obj} {name : Str} {v : Value}
theorem xga_value {tk : Tok} {Q : Fin → Shared → Prop} (X : K.In s.heap) (I : PySem.W.InstAt s.heap x ox C od) (hf : PySem.W.findObj K C od name = some (.value v)) (h : Q (.done (.ret v)) s) :
    wpAny (model prog w) A (Builtin.«object.__getattribute__» ⟨[.ref x, .str name tk], []⟩) Q E s := by
  have F := PySem.W.looks_find (M := model prog w) X I hf
  refine wpAny_bind (wpAny_pure (wpAny_bind (wpAny_pure (wpAny_bind (I.type.here (wpAny_bind (F.here ?_)))))))
  exact wpAny_pure h
theorem xga_call {tk : Tok} {R : Result → Shared → Prop} (X : K.In s.heap) (I : PySem.W.InstAt s.heap x ox C od) (hb : PySem.W.mroIn K C (.type "BaseException") = some true)
    (h : wpAny (model prog w) A.in1 (Builtin.«object.__getattribute__» ⟨[.ref x, .str name tk], []⟩) (fun fin s' => match fin with | .done f => R (.ok f) s' | .again c' => c'.quiet = true ∧ codeAny (model prog w) A c' R s') (fun e s' => R (.error e) s') s) :
    codeAny (model prog w) A (.call (.builtin "BaseException.__getattribute__") ⟨[.ref x, .str name tk], []⟩) R s := by
  refine codeAny_call_builtin bexc_ga_slot.plain PySem.F.entry_bexc_ga ?_
  exact @PySem.W.check_slot (model prog w) _ _ s "BaseException.__getattribute__" "BaseException" "__getattribute__" (.ref x) [.str name tk] [] _ (by decide +kernel) (by decide +kernel) (I.type.andThen (PySem.W.looks_mroIn X hb)) (PySem.F.args_bexc_ga _ _) h
theorem xget_by {fill expr : Bool} {tk : Tok} {Q : Value → Shared → Prop} (X : K.In s.heap) (I : PySem.W.InstAt s.heap x ox C od) (c : XAt K C)
    (h : wpAny (model prog w) A.in1 (Builtin.«object.__getattribute__» ⟨[.ref x, .str name tk], []⟩) (fun fin s' => match fin with | .done (.ret v) => wpAny (model prog w) A (handedOut v) Q E s' | _ => False) (fun _ _ => False) s) :
    wpAny (model prog w) A (getAttrBy (.ref x) (.str name tk) fill expr) Q E s := by
  unfold getAttrBy
  refine wpAny_holding (wpAny_bind (I.type.here (wpAny_bind ((PySem.W.looks_findIn X c.ga).here ?_))))
  have e1 : (onTheHeap (Value.ref C) && Value.builtin "BaseException.__getattribute__" == Value.builtin "object.__getattribute__") = false := by
    rw [show (Value.builtin "BaseException.__getattribute__" == Value.builtin "object.__getattribute__") = false by decide +kernel]
    rfl
  dsimp only
  rw [e1, if_neg (by decide)]
  unfold getAttrByItsOwn hookBefore
  rw [if_pos (show onTheHeap (Value.ref C) = true from rfl)]
  refine wpAny_bind ((PySem.W.looks_findIn X c.gn).here (wpAny_bind (wpAny_attempt (wpAny_holding ?_))))
  have e2 : (expr && onTheHeap (Value.builtin "BaseException.__getattribute__")) = false := by cases expr <;> rfl
  unfold callGetattribute
  rw [e2, if_neg (by decide)]
  unfold boundAndCalled
  rw [bexc_ga_slot.bind]
  refine wpAny_bind (wpAny_pure ?_)
  show wpAny _ _ (call (.builtin "BaseException.__getattribute__") [.ref x, .str name tk]) _ _ _
  refine wpAny_call (xga_call X I c.bx (wpAny_mono h (fun fin s' z => ?_) fun _ _ z => z.elim))
  rcases fin with (_ | _ | _ | _) | _ <;> first | exact z | exact z.elim
theorem xget {expr : Bool} {Q : Value → Shared → Prop} (X : K.In s.heap) (I : PySem.W.InstAt s.heap x ox C od) (c : XAt K C) (hf : PySem.W.findObj K C od name = some (.value v)) (hh : PySem.W.handedIn v = true)
    (h : Q v { s with toks := s.toks + 1 }) : wpAny (model prog w) A (getAttr (.ref x) name expr) Q E s := by
  unfold getAttr
  refine wpAny_bind (wpAny_mkText (xget_by (s := { s with toks := s.toks + 1 }) X I c (xga_value (s := { s with toks := s.toks + 1 }) X I hf ?_)))
  show wpAny _ _ (handedOut v) _ _ _
  rw [PySem.W.handedOut_of hh]
  exact wpAny_pure h
theorem xclass {Q : Option Value → Shared → Prop} (X : K.In s.heap) (I : PySem.W.InstAt s.heap x ox C od) (c : XAt K C) (hf : PySem.W.findObj K C od "__class__" = some (.bind (.builtin "getset_descriptor.__get__") (.builtin "object.__class__")))
    (h : Q (some (.ref C)) { s with toks := s.toks + 1 }) : wpAny (model prog w) A (getAttr? (.ref x) "__class__") Q E s := by
  unfold getAttr? getAttrBy?
  refine wpAny_bind (wpAny_mkText (wpAny_bind (wpAny_attempt (xget_by (s := { s with toks := s.toks + 1 }) X I c ?_))))
  have F := PySem.W.looks_find (M := model prog w) X I hf
  refine wpAny_bind (wpAny_pure (wpAny_bind (wpAny_pure (wpAny_bind (I.type.here (s := { s with toks := s.toks + 1 }) (wpAny_bind (F.here (s := { s with toks := s.toks + 1 }) ?_)))))))
  show wpAny _ _ (holding [Value.builtin "object.__class__"] (call (.builtin "getset_descriptor.__get__") [.builtin "object.__class__", .ref x, .ref C]) >>= ret) _ _ _
  refine wpAny_bind (wpAny_holding (wpAny_call (PySem.W.class_get (s := { s with toks := s.toks + 1 }) X I c.ob ?_)))
  refine wpAny_pure ?_
  show wpAny _ _ (handedOut (.ref C)) _ _ _
  exact wpAny_pure (wpAny_pure h)
theorem findObj_class (c : XAt K C) : PySem.W.findObj K C od "__class__" = some (.bind (.builtin "getset_descriptor.__get__") (.builtin "object.__class__")) := by
  obtain ⟨cd, hc, _⟩ := PySem.W.any_some c.hd
  unfold PySem.W.findObj
  rw [hc, Option.bind_some, c.cl, Option.bind_some]
  simp [c.cg, c.ct]
theorem kitx_exc {od : Option Obj} (c : XAt K C) : PySem.W.KitX K (.ref x) (.ref C) (fun h => PySem.W.InstAt h x ox C od) where
  ty := fun _ _ _ I => I.type
  it := fun _ _ X _ => by
    obtain ⟨cd, hc, _⟩ := PySem.W.any_some c.hd
    unfold PySem.W.clsIn at hc
    split at hc
    · rename_i c1 d1 cd1 sl1 ho
      intro A' Q' E' s' k q
      unfold isType loadHead
      exact wpAny_bind (wpAny_loadPart (k _ _ (X _ _ ho)) (wpAny_pure q))
    · cases hc
  ne := fun h tp dd its n sl X htp => by
    obtain ⟨cd, hc, _⟩ := PySem.W.any_some c.hd
    refine Bool.eq_false_iff.mpr fun q => ?_
    have e : C = tp := Value.ref.inj (beq_iff_eq.mp q)
    subst e
    unfold PySem.W.clsIn at hc
    split at hc
    · rename_i c1 d1 cd1 sl1 ho
      have z := (X _ _ ho).symm.trans htp
      cases z
    · cases hc
  ca := fun X I k => xclass X I c (findObj_class c) k
end
end L2
namespace L2
open PySem PySem.Spec PyProof.Rows
theorem xMro_cons {c : Addr} {r : List Value} (e : xMro (.ref c :: r) = true) : xMro r = true := by
  cases r with
  | nil => cases e
  | cons a r => exact e
theorem xMro_line : ∀ {l : List Value}, xMro l = true → ∃ rs : List Addr, l = rs.map Value.ref ++ [.type "ValueError", .type "Exception", .type "BaseException", .type "object"]
  | [], e => by cases e
  | .ref c :: r, e => by
    obtain ⟨rs, q⟩ := xMro_line (xMro_cons e)
    exact ⟨c :: rs, by rw [q]; rfl⟩
  | .type a :: r, e => by
    match r, e with
    | [.type b, .type c, .type d], e =>
      simp only [xMro, Bool.and_eq_true, beq_iff_eq] at e
      obtain ⟨⟨⟨rfl, rfl⟩, rfl⟩, rfl⟩ := e
      exact ⟨[], rfl⟩
theorem refuse_exc (self : Value) {l : List Value} (e : xMro l = true) : refuseLoop self "__setattr__" l = pure () := by
  obtain ⟨rs, rfl⟩ := xMro_line e
  induction rs with
  | nil => exact PySem.F.store_ValueError.passes self
  | cons c rs ih => rw [List.map_cons, List.cons_append, refuseLoop_ref]; exact ih (xMro_cons e)
theorem xMro_has {l : List Value} (e : xMro l = true) {T : String} (h : T ∈ ["ValueError", "Exception", "BaseException", "object"]) : l.contains (.type T) = true := by
  obtain ⟨rs, rfl⟩ := xMro_line e
  rw [List.contains_iff_mem]
  refine List.mem_append_right _ ?_
  simp only [List.mem_cons, List.not_mem_nil, or_false] at h ⊢
  rcases h with rfl | rfl | rfl | rfl <;> simp
section
variable {prog : Program} {w : World} {A : Around} {E : Value → Shared → Prop} {s : Shared} {K : PySem.W.Frag} {x C : Addr} {name : Str} {v : Value} {R : Result → Shared → Prop}
theorem xosa {tk : Tok} {ox : Obj} {od : Option Obj} (X : K.In s.heap) (I : PySem.W.InstAt s.heap x ox C od) (c : XAt K C) (n : NoAttr K C name)
    (h : wpAny (model prog w) A.in1 (Builtin.ObjectAttr.storeInOwnDict (.ref x) (.ref C) (.str name tk) name v false)
      (fun fin s' => match fin with | .done f => R (.ok f) s' | .again c' => c'.quiet = true ∧ codeAny (model prog w) A c' R s') (fun e s' => R (.error e) s') s) :
    codeAny (model prog w) A (.call (.builtin "object.__setattr__") ⟨[.ref x, .str name tk, v], []⟩) R s := by
  have SF := PySem.F.store_object
  obtain ⟨cd, hc, ho⟩ := PySem.W.any_some c.mr
  have hm : PySem.W.Looks (model prog w) s.heap (mroOf (.ref C)) cd.mro := (PySem.W.looks_clsIn X hc).andThen .now
  refine codeAny_call_builtin SF.slot.plain SF.entry (@PySem.W.check_slot (model prog w) _ _ s "object.__setattr__" "object" "__setattr__" (.ref x) [.str name tk, v] [] _ SF.kind SF.split (I.type.andThen (PySem.W.looks_mroIn X c.ob)) (SF.args (.ref x) (.str name tk) v) ?_)
  rw [PySem.W.osa_eq, refuse_eq]
  refine wpAny_bind (wpAny_bind (I.type.here (wpAny_bind (hm.here ?_))))
  rw [refuse_exc _ ho]
  refine wpAny_pure (wpAny_bind (I.type.here (wpAny_bind ((PySem.W.looks_findIn X n).here (wpAny_bind (wpAny_pure ?_))))))
  exact h
theorem xset {vs : Array Value} (X : K.In s.heap) (hx : s.heap.get? x = some ⟨.ref C, none, .fields vs, #[]⟩) (c : XAt K C) (n : NoAttr K C name) {Q : Unit → Shared → Prop}
    (h : ∀ h', h'.get? x = some ⟨.ref C, some s.heap.objs.size, .fields vs, #[]⟩ → h'.Ns1 s.heap.objs.size (fun y => if y = name then some v else none) → (∀ b o, b ≠ x → s.heap.get? b = some o → h'.get? b = some o) →
      Q () { s with heap := h', toks := s.toks + 2 }) : wpAny (model prog w) A (setAttr (.ref x) name v) Q E s := by
  have I : PySem.W.InstAt s.heap x ⟨.ref C, none, .fields vs, #[]⟩ C none := ⟨hx, rfl, rfl, True.intro⟩
  obtain ⟨cd, hc, hd⟩ := PySem.W.any_some c.hd
  refine PySem.W.set_plain X I c.sa (xosa (s := { s with toks := s.toks + 1 }) X I c n ?_)
  refine wpAny_bind (wpAny_pure (wpAny_bind (wpAny_bind (wpAny_loadPart hx (wpAny_bind ((PySem.W.looks_clsIn X hc).here (s := { s with toks := s.toks + 1 }) ?_))))))
  rw [hd]
  obtain ⟨hh, g, dr, tk, os⟩ := s
  show wpAny _ _ (alloc { cls := .type "dict", data := .dict #[] } >>= fun d => update x (fun o => { cls := o.cls, dict := some d, data := o.data, slots := o.slots }) >>= fun _ => pure (some d)) _ _ _
  have hxs : x ≠ hh.objs.size := Nat.ne_of_lt (Heap.lt_size hx)
  have hx1 := Heap.get?_push_of_some { cls := .type "dict", data := .dict #[] } hx
  refine wpAny_bind (wpAny_alloc' (wpAny_bind (wpAny_update' hx1 (wpAny_pure ?_))))
  have hx2 := Heap.get?_update_self (fun o : Obj => { cls := o.cls, dict := some hh.objs.size, data := o.data, slots := o.slots }) hx1 rfl
  have hd2 := (Heap.get?_update_ne (hh.push { cls := .type "dict", data := .dict #[] }) hh.objs.size x (fun o : Obj => { cls := o.cls, dict := some hh.objs.size, data := o.data, slots := o.slots }) hxs.symm).trans (Heap.get?_push_at rfl rfl)
  generalize hg : (hh.push { cls := .type "dict", data := .dict #[] }).update x (fun o : Obj => { cls := o.cls, dict := some hh.objs.size, data := o.data, slots := o.slots }) = h2 at hx2 hd2 ⊢
  have nd : h2.Ns hh.objs.size (fun _ => none) := ⟨_, #[], _, hd2, rfl, fun e he => absurd he (by simp), fun _ => rfl⟩
  show wpAny _ _ (Builtin.ObjectAttr.storeInDict hh.objs.size (.str name tk) name v) _ _ _
  unfold Builtin.ObjectAttr.storeInDict Builtin.ObjectAttr.newKeyGuard
  refine wpAny_bind (wpAny_pure (wpAny_bind (wpAny_nsSet1 (Heap.Ns1.of_empty nd) fun h' n2 sb => ?_)))
  obtain ⟨oD, esD, epD, hoD, hdD, hcD⟩ := n2.count (PySem.Within.cons name v PySem.Within.nil)
  have hz : esD.size ≤ sizeLine := Nat.le_trans hcD (by rw [List.length_cons, List.length_nil, sizeLine_eq]; omega)
  refine wpAny_bind (wpAny_lookBehind hoD (by rw [hdD]; exact pastItsLine_dict (Nat.le_succ_of_le hz)) ?_)
  refine wpAny_pure (h h' ((sb.2 x hxs).trans hx2) n2 fun b o hb e => (sb.2 b (Nat.ne_of_lt (Heap.lt_size e))).trans ?_)
  rw [← hg]
  exact (Heap.get?_update_ne _ _ _ _ hb).trans (Heap.get?_push_of_some _ e)
theorem ve_check {M : Model} {ox : Obj} {u : Value} {Q : Unit → Shared → Prop} (X : K.In s.heap) (c : XAt K C) (hx : s.heap.get? x = some ox) (hcls : ox.cls = .ref C) (q : Q () s) :
    wpAny M A (checkBuiltinCall "ValueError.__init__" ⟨[.ref x, u], []⟩) Q E s := by
  have F := PySem.F.excBase_ValueError
  have hshort := F.noStar
  obtain ⟨nm, qn, N, bs, bm, hdct, sn, sub, ab, col, dd, k0, k1, k2, k3, k5, hC, hm⟩ := xc_cls X c.xc
  have hcB : (Value.ref C :: bm).contains (.type "ValueError") = true := by rw [List.contains_cons, xMro_has hm (by simp), Bool.or_true]
  obtain ⟨hh, g, dr, tk, os⟩ := s
  simp only [checkBuiltinCall, F.initKind, F.initSplit, F.initRow]
  repeat (first | (with_reducible refine wpAny_loadPart_at hx ?_; rw [hcls]) | with_reducible refine wpAny_loadPart_at hC ?_ | (with_reducible refine wpAny_isSubtype_exc hC ?_; rw [hcB]) | wp_step)
  exact q
abbrev xfs (a0 : Addr) : Array Value := #[.ref a0, .none, .none, .none, .bool false, .none]
theorem xbase_init {a0 : Addr} {u : Value} (X : K.In s.heap) (hx : s.heap.get? x = some ⟨.ref C, none, .fields (xfs a0), #[]⟩) (c : XAt K C) {Q : Value → Shared → Prop}
    (h : ∀ h' a1, h'.get? x = some ⟨.ref C, none, .fields (xfs a1), #[]⟩ → (∀ b o, b ≠ x → s.heap.get? b = some o → h'.get? b = some o) → Q .none { s with heap := h' }) :
    wpAny (model prog w) A (call (.builtin "ValueError.__init__") [.ref x, u]) Q E s := by
  have F := PySem.F.excBase_ValueError
  refine wpAny_call (codeAny_call_builtin F.init.plain F.initEntry (ve_check X c hx rfl ?_))
  obtain ⟨hh, g, dr, tk, os⟩ := s
  wp_walk
  refine h _ hh.objs.size ?_ fun b o hb e => ?_
  · rw [Heap.get?_update_self _ (Heap.get?_push_of_some _ hx) rfl]
    rfl
  · rw [Heap.get?_update_other _ _ (Ne.symm hb)]
    exact Heap.get?_push_of_some _ e
end
end L2
namespace L2
open PySem PySem.Spec PyProof.Rows
theorem xMro_not {l : List Value} (e : xMro l = true) {T : String} (h : T ∉ ["ValueError", "Exception", "BaseException", "object"]) : l.contains (.type T) = false := by
  obtain ⟨rs, rfl⟩ := xMro_line e
  refine Bool.eq_false_iff.mpr fun q => ?_
  rcases List.mem_append.mp (List.contains_iff_mem.mp q) with z | z
  · obtain ⟨a, _, q⟩ := List.mem_map.mp z
    cases q
  · simp only [List.mem_cons, List.not_mem_nil, or_false, Value.type.injEq] at z h
    exact h z
section
variable {prog : Program} {w : World} {A : Around} {R : Result → Shared → Prop} {E : Value → Shared → Prop} {h : Heap} {g : Array GenState} {d : Drawn} {t : Nat} {os : OsState}
variable {nm q : Str} {C N : Addr} {bs bm : List Value} {hdct : Bool} {sn : List Str} {sub : List Value} {ab : Bool} {col : Option Bool} {dd : Option Addr} {k0 k1 k2 k3 k5 : Option Value}
theorem xnew_check {M : Model} {rest : List Value} {Q : Unit → Shared → Prop} (hC : h.get? C = some (excClassObj nm q C N bs bm hdct sn sub ab col dd k0 k1 k2 k3 k5 "ValueError.__new__")) (hm : xMro bm = true) (hq : Q () ⟨h, g, d, t, os⟩) :
    wpAny M A (checkBuiltinCall "ValueError.__new__" ⟨.ref C :: rest, []⟩) Q E ⟨h, g, d, t, os⟩ := by
  have F := PySem.F.excBase_ValueError
  have hcont : (Value.ref C :: bm).contains (.type "ValueError") = true := by rw [List.contains_cons, xMro_has hm (by simp), Bool.or_true]
  have hstar := F.noStar
  simp only [checkBuiltinCall, F.newKind, F.newSplit, F.newRow]
  repeat (first | refine wpAny_loadPart_at hC ?_ | (refine wpAny_isSubtype_exc hC ?_; rw [hcont]) | refine wpAny_staticBase_exc hC ?_ | refine wpAny_madeBy_exc hC ?_ | simp only [bne_self_eq_false, Bool.false_eq_true, if_false] | wp_step)
  exact hq
theorem xnew {rest : List Value} (hC : h.get? C = some (excClassObj nm q C N bs bm hdct sn sub ab col dd k0 k1 k2 k3 k5 "ValueError.__new__")) (hm : xMro bm = true) (hrest : rest.length ≤ sizeLine)
    (hq : R (.ok (.ret (.ref (h.objs.size + 1)))) ⟨(h.push { cls := .type "tuple", data := .seq rest.toArray }).push { cls := .ref C, data := .fields (xfs h.objs.size) }, g, d, t, os⟩) :
    codeAny (model prog w) A (.builtin "ValueError.__new__" ⟨.ref C :: rest, []⟩) R ⟨h, g, d, t, os⟩ := by
  have F := PySem.F.excBase_ValueError
  have hends := F.ends
  have hcB : (Value.ref C :: bm).contains (.type "ValueError") = true := by rw [List.contains_cons, xMro_has hm (by simp), Bool.or_true]
  have hcA : (Value.ref C :: bm).contains (.type "AttributeError") = false := by rw [List.contains_cons, xMro_not hm (by simp)]; rfl
  have hcN : (Value.ref C :: bm).contains (.type "NameError") = false := by rw [List.contains_cons, xMro_not hm (by simp)]; rfl
  refine codeAny_builtinAt F.entry ?_
  unfold Builtin.«BaseException.__new__»
  refine PySem.wpAt_bind ?_
  show PySem.wpAt _ _ _ (stack >>= _) _ _ _
  refine PySem.wpAt_bind (PySem.wpAt_stack fun p0 below0 => PySem.wpAt_of_wpAny ?_)
  wp_walk
  refine PySem.wpAt_of_wpAny ?_
  rw [F.owner]
  repeat (first | with_reducible refine wpAny_madeHere_exc F.canon hC ?_ | with_reducible refine wpAny_loadPart_at hC ?_ | (with_reducible refine wpAny_isSubtype_exc hC ?_; first | rw [hcB] | rw [hcA] | rw [hcN]) | wp_step)
  show R _ _
  rw [Heap.size_push]
  exact hq
theorem xtype_call {K : PySem.W.Frag} {f : Addr} {rest : List Value} {Q : Fin → Shared → Prop} (X : K.In h) (hC : h.get? C = some (excClassObj nm q C N bs bm hdct sn sub ab col dd k0 k1 k2 k3 k5 "ValueError.__new__")) (hm : xMro bm = true)
    (hi : PySem.W.findIn K (.ref C) "__init__" = some (some (.ref f))) (hf : PySem.W.isFn K (.ref f) = true) (hrest : rest.length ≤ sizeLine)
    (hq : wpAny (model prog w) A (call (.ref f) (.ref (h.objs.size + 1) :: rest)) (fun r s' => r = .none ∧ Q (.done (.ret (.ref (h.objs.size + 1)))) s') E
      ⟨(h.push { cls := .type "tuple", data := .seq rest.toArray }).push { cls := .ref C, data := .fields (xfs h.objs.size) }, g, d, t, os⟩) :
    wpAny (model prog w) A (Builtin.«type.__call__» ⟨.ref C :: rest, []⟩) Q E ⟨h, g, d, t, os⟩ := by
  have F := PySem.F.excBase_ValueError
  repeat (first | with_reducible refine wpAny_loadPart_at hC ?_ | with_reducible refine wpAny_madeBy_exc hC ?_ | wp_step)
  refine codeAny_call_builtin_code (Code.quiet_builtin _ F.quiet) (xnew_check hC hm (xnew hC hm hrest ?_))
  show wpAny _ _ _ _ _ _
  have up : ∀ b o, h.get? b = some o → ((h.push { cls := .type "tuple", data := .seq rest.toArray }).push { cls := .ref C, data := .fields (xfs h.objs.size) }).get? b = some o := fun b o e => Heap.get?_push_of_some _ (Heap.get?_push_of_some _ e)
  have hC1 := up _ _ hC
  have hget : ((h.push { cls := .type "tuple", data := .seq rest.toArray }).push { cls := .ref C, data := .fields (xfs h.objs.size) }).get? (h.objs.size + 1) = some { cls := .ref C, data := .fields (xfs h.objs.size) } := Heap.get?_push_at (by rw [Heap.size_push]) rfl
  have X1 : K.In ((h.push { cls := .type "tuple", data := .seq rest.toArray }).push { cls := .ref C, data := .fields (xfs h.objs.size) }) := X.keeps up
  have hcC : (Value.ref C :: bm).contains (.ref C) = true := by simp
  unfold isInstance
  repeat (first | with_reducible refine wpAny_loadPart_at hget ?_ | (with_reducible refine wpAny_isSubtype_exc hC1 ?_; rw [hcC]) | wp_step)
  show wpAny _ _ (typeLookup (.ref C) _) _ _ _
  refine (PySem.W.looks_findIn X1 hi).at (wpAny_holding (wpAny_bind ((PySem.W.bind_fn X1 _ (beq_iff_eq.mp hf)).at (wpAny_bind (wpAny_mono hq (fun r s' hr => ?_) fun _ _ z => z)))))
  obtain ⟨rfl, hQ⟩ := hr
  wp_walk
  exact hQ
theorem xcall {K : PySem.W.Frag} {f : Addr} {rest : List Value} {s : Shared} {Q : Value → Shared → Prop} (X : K.In s.heap) (c : XAt K C) (hi : PySem.W.findIn K (.ref C) "__init__" = some (some (.ref f))) (hf : PySem.W.isFn K (.ref f) = true) (hrest : rest.length ≤ sizeLine)
    (hq : wpAny (model prog w) (A.under (.builtin "type.__call__" ⟨.ref C :: rest, []⟩)) (call (.ref f) (.ref (s.heap.objs.size + 1) :: rest)) (fun r s' => r = .none ∧ Q (.ref (s.heap.objs.size + 1)) s') E
      { s with heap := (s.heap.push { cls := .type "tuple", data := .seq rest.toArray }).push { cls := .ref C, data := .fields (xfs s.heap.objs.size) } }) :
    wpAny (model prog w) A (call (.ref C) rest) Q E s := by
  obtain ⟨nm, qn, N, bs, bm, hdct, sn, sub, ab, col, dd, k0, k1, k2, k3, k5, hC, hm⟩ := xc_cls X c.xc
  obtain ⟨h, g, d, t, os⟩ := s
  have f1 := tc_lookup
  have f2 := tc_bind (.ref C)
  have hT : (⟨h, g, d, t, os⟩ : Shared).TypeIs (.ref C) "type" := ⟨_, hC, rfl⟩
  refine wpAny_call (codeAny_of_tree ?_)
  show wpAny _ _ (callAny (.ref C) _) _ _ _
  repeat (any_goals (first | assumption | with_reducible refine wpAny_loadPart_at hC ?_ | wp_step))
  refine ⟨rfl, ?_⟩
  exact codeAny_call_builtin_at (Code.quiet_builtin _ (by decide +kernel)) entry_typeCall (wpAny_check_type_call_sub hC (xtype_call X hC hm hi hf hrest hq))
end
end L2
namespace L2
open PySem PySem.Spec PyProof.Rows
def XN (e C : Addr) (dx : Option Addr) : HO := .ext fun h => ∃ a0, h.get? e = some ⟨.ref C, dx, .fields (xfs a0), #[]⟩
def XO (e C : Addr) (dx : Option Addr) : HO := .ext fun h => ∃ vs, h.get? e = some ⟨.ref C, dx, .fields vs, #[]⟩
theorem XN.ok {P : Program} {w : World} {H : Hp} {h : Heap} {e C a0 : Addr} {dx : Option Addr} (q : h.get? e = some ⟨.ref C, dx, .fields (xfs a0), #[]⟩) : ObjOk P w H h e (XN e C dx) :=
  ⟨⟨a0, q⟩, ⟨_, q⟩, fun _ _ ⟨a, x⟩ k => ⟨a, k _ x⟩⟩
theorem XO.ok {P : Program} {w : World} {H : Hp} {h : Heap} {e C : Addr} {vs : Array Value} {dx : Option Addr} (q : h.get? e = some ⟨.ref C, dx, .fields vs, #[]⟩) : ObjOk P w H h e (XO e C dx) :=
  ⟨⟨vs, q⟩, ⟨_, q⟩, fun _ _ ⟨a, x⟩ k => ⟨a, k _ x⟩⟩
def IsX (H : Hp) (e C : Addr) (dx : Option Addr) : Prop := H e = some (XN e C dx) ∨ H e = some (XO e C dx)
theorem IsX.get {P : Program} {w : World} {H : Hp} {h : Heap} {e C : Addr} {dx : Option Addr} (q : IsX H e C dx) (hok : HOk P w H h) : ∃ vs, h.get? e = some ⟨.ref C, dx, .fields vs, #[]⟩ := by
  rcases q with q | q
  · obtain ⟨⟨a, x⟩, _⟩ := (show ObjOk P w H h e (XN e C dx) from hok e _ q)
    exact ⟨_, x⟩
  · obtain ⟨⟨a, x⟩, _⟩ := (show ObjOk P w H h e (XO e C dx) from hok e _ q)
    exact ⟨_, x⟩
theorem upd_id {H : Hp} {a : Addr} {o : HO} (h : H a = some o) : upd H a o = H := by
  funext b
  unfold upd
  split
  · rename_i e; subst e; exact h.symm
  · rfl
section
variable {X : Cx} {pins : List (Addr × Obj)} {σ : St} {H : Hp} {s : Shared} {e C : Addr} {dx : Option Addr}
theorem xd_get (I : Inv X pins σ H s) {d : Addr} {fs : List (Str × V)} (h : H d = some (.xd fs)) : ∃ (od : Obj) (mA : Str → Option Value), s.heap.get? d = some od ∧ (∀ name, PySem.W.lookIn name od = some (mA name)) ∧ ∀ f, RelO (fs.lookup f) (mA f) := by
  obtain ⟨mA, n, r⟩ := (show ObjOk X.prog X.w H s.heap d (.xd fs) from I.hok d _ h)
  obtain ⟨od, h1, h2⟩ := lookIn_ns n
  exact ⟨od, mA, h1, h2, r⟩
end
section
variable {X : Cx} {pins : List (Addr × Obj)} {σ : St} {H : Hp} {s : Shared} {a d : Addr} {h' : Heap} {o u : HO} {t' : Nat}
theorem Inv.both (I : Inv X pins σ H s) (mu : Mut (H a)) (hd : s.heap.objs.size ≤ d) (k : ∀ b v, b ≠ a → s.heap.get? b = some v → h'.get? b = some v) (ha : ∃ v, h'.get? a = some v)
    (n1 : ObjOk X.prog X.w (upd (upd H d u) a o) h' a o) (n2 : ObjOk X.prog X.w (upd (upd H d u) a o) h' d u) (ne : d ≠ a) : Inv X pins σ (upd (upd H d u) a o) { s with heap := h', toks := t' } := by
  have nd : H d = none := I.hok.fresh hd
  have na : ∀ b q, H b = some q → ¬ Mut (some q) → b ≠ a := fun b q e nm z => by subst z; rw [e] at mu; exact nm mu
  have nn : ∀ b, H b = none → b ≠ a := fun b e z => by subst z; rw [e] at mu; exact mu
  have big : ∀ b v, s.heap.get? b = some v → b ≠ d := fun b v e => Nat.ne_of_lt (Nat.lt_of_lt_of_le (Heap.lt_size e) hd)
  have up : ∀ b q, H b = some q → b ≠ a → upd (upd H d u) a o b = some q := fun b q e n => by rw [upd_ne n, upd_ne (ne_of_none e nd)]; exact e
  refine I.un ⟨fun b v e n _ _ => k b v (nn b n) e, fun b v e n _ _ => ⟨v.slots, k b v (nn b n) e⟩, fun b v e n _ => by rw [upd_ne (nn b n), upd_ne (big b v e)]; exact n, fun b v e _ => ?_, fun b xs e => up b _ e (na b _ e fun z => z), fun b q xs e => up b _ e (na b _ e fun z => z),
    fun b ps e => ⟨#[], by rw [up b _ e (na b _ e fun z => z)]; simp⟩⟩ fun b q e => ?_
  · by_cases hb : b = a
    · subst hb; exact ha
    · exact ⟨v, k b v hb e⟩
  · by_cases hb : b = a
    · subst hb
      rw [upd_same] at e
      cases e
      exact n1
    · rw [upd_ne hb] at e
      by_cases hbd : b = d
      · subst hbd
        rw [upd_same] at e
        cases e
        exact n2
      · rw [upd_ne hbd] at e
        refine (I.hok b q e).stay (fun c v hc r => k c v ?_ r) (fun c r => up c _ r (na c _ r fun z => z)) fun c xs r => up c _ r (na c _ r fun z => z)
        rcases hc with rfl | hc
        · exact hb
        · exact na c _ hc fun z => z
end
def tFldU (K : PySem.W.Frag) (ta : TE) (f : Str) : TE := fun σ H Q => ta σ H fun x H1 => (∃ a C dx fs v, x = .ref a ∧ H1 a = some (.ins C dx fs) ∧ Cls K C ∧ NoAttr K C f ∧ fs.lookup f = some v ∧ Q v H1) ∨
  (∃ a C dx fs v, x = .ref a ∧ IsX H1 a C (some dx) ∧ XAt K C ∧ NoAttr K C f ∧ H1 dx = some (.xd fs) ∧ fs.lookup f = some v ∧ Q v H1)
def sFldU (K : PySem.W.Frag) (ta tv : TE) (f : Str) : TS := fun D σ H => tv σ H fun y H1 => ta σ H1 fun x H2 => (∃ a C dx fs, x = .ref a ∧ H2 a = some (.ins C dx fs) ∧ Cls K C ∧ NoAttr K C f ∧ fs.length < 1000 ∧
    D.nx σ (upd H2 a (.ins C dx (putF f y fs)))) ∨
  (∃ a C, x = .ref a ∧ H2 a = some (XN a C none) ∧ XAt K C ∧ NoAttr K C f ∧ ∀ dx, H2 dx = none → D.nx σ (upd (upd H2 dx (.xd [(f, y)])) a (XN a C (some dx))))
section
variable {X : Cx} {o e value : Expr} {f : Str} {pos pos' : Pos} {ta tv : TE} {K : PySem.W.Frag}
theorem k_fldU (hK : X.K = K) (he : PE X e ta) (hb : attributeBase e f X.env (eval e X.env) = eval e X.env) : PE X (.Attribute e f pos) (tFldU K ta f) := by
  subst hK
  intro pins s σ H Q I h
  refine attr_of hb (thn (he pins s σ H _ I h) fun u s1 ⟨x, H1, I1, rx, hx⟩ => ?_)
  rcases hx with ⟨a, C, dx, fs, v, rfl, ea, c, n, l, q⟩ | ⟨a, C, dx, fs, v, rfl, ea, c, n, hd, l, q⟩
  · obtain rfl : u = Value.ref a := rx
    exact getattr_ok I1 ea c n l fun u' s2 I2 ru => ⟨v, H1, I2, ru, q⟩
  · obtain rfl : u = Value.ref a := rx
    obtain ⟨vs, hx⟩ := ea.get I1.hok
    obtain ⟨od, mA, h1, h2, r⟩ := xd_get I1 hd
    obtain ⟨u', hu, ru⟩ := RelO.some_of (v := v) (o := mA f) (by rw [← l]; exact r f)
    exact xget I1.kIn (od := some od) ⟨hx, rfl, rfl, h1⟩ c (PySem.W.findObj_own c.hd n rfl (by rw [h2, hu])) (handed_of ru) ⟨v, H1, I1.tok _, ru, q⟩
theorem k_sfldU (hK : X.K = K) (ha : PE X o ta) (hv : PE X value tv) (hs : swapsWith value (some (.Attribute o f pos')) pos.line X.env = pure false) : PS X (.Assign [.Attribute o f pos'] value pos) (sFldU K ta tv f) := by
  subst hK
  intro pins s σ H D I h
  refine plainObj_wpAny_Assign_Attribute (thn (hv pins s σ H _ I h) fun u s1 ⟨y, H1, I1, ry, q⟩ => thn (ha pins s1 σ H1 _ I1 q) fun ov s2 ⟨x, H2, I2, rx, hx⟩ => ?_) hs
  rcases hx with ⟨a, C, dx, fs, rfl, ea, c, n, l, q2⟩ | ⟨a, C, rfl, ea, c, n, q2⟩
  · obtain rfl : ov = Value.ref a := rx
    exact setattr_ok I2 ea c n l ry fun s3 I3 => ⟨σ, _, I3, q2⟩
  · obtain rfl : ov = Value.ref a := rx
    obtain ⟨⟨a0, hx⟩, _⟩ := (show ObjOk X.prog X.w H2 s2.heap a (XN a C none) from I2.hok a _ ea)
    refine xset I2.kIn hx c n fun h' g1 g2 g3 => ?_
    have nd : H2 s2.heap.objs.size = none := I2.hok.fresh (Nat.le_refl _)
    have ne : s2.heap.objs.size ≠ a := Nat.ne_of_gt (Heap.lt_size hx)
    refine ⟨σ, _, I2.both (o := XN a C (some s2.heap.objs.size)) (u := .xd [(f, y)]) (by rw [ea]; exact True.intro) (Nat.le_refl _) g3 ⟨_, g1⟩ (XN.ok g1) ⟨_, g2, fun g => ?_⟩ ne, q2 _ nd⟩
    by_cases hg : g = f
    · subst hg
      simp only [List.lookup, beq_self_eq_true, if_true]
      exact ry
    · have hb : (g == f) = false := beq_eq_false_iff_ne.mpr hg
      simp only [List.lookup, hb, if_neg hg]
      exact True.intro
end
def tXMake (C : Addr) (sp : Sp) (E : XK) (t : TA) : TE := fun σ H Q => t σ H fun vs H1 => vs.length ≤ 1000 ∧ ∀ x, H1 x = none → sp (.ref x :: vs) (upd H1 x (XN x C none)) (fun v H2 => v = .non ∧ Q (.ref x) H2) E
structure XMk (K : PySem.W.Frag) (C f : Addr) : Prop where
  at_ : XAt K C
  init : PySem.W.findIn K (.ref C) "__init__" = some (some (.ref f))
  fn : PySem.W.isFn K (.ref f) = true
  kp : PySem.W.keepIn K (.ref C) = true
section
variable {X : Cx} {CX : CXT} {k : Nat} {f C : Addr} {fd : FuncData} {ps : List Str} {sp : Sp} {E : XK} {x m : Str} {p pos apos : Pos} {e o : Expr} {es : List Expr} {ta : TE} {t : TA}
theorem run_xmake {pins : List (Addr × Obj)} {σ : St} {H : Hp} {s : Shared} {Q : VK} {us : List Value} {vs : List V} (M : XMk X.K C f) (F : FnOk X.prog X.w X.K X.mg X.base CX k f fd ps sp) (hr : Room (k + 1) X.A) (hb : Binds X.K fd ps [])
    (hx : Passes CX X E) (I : Inv X pins σ H s) (r : Vals vs us) (hl0 : vs.length ≤ 1000) (h : ∀ x, H x = none → sp (.ref x :: vs) (upd H x (XN x C none)) (fun v H2 => v = .non ∧ Q (.ref x) H2) E) :
    wpAny (model X.prog X.w) X.A (call (.ref C) us) (EP X pins σ Q) X.xe s := by
  have hq := h (s.heap.objs.size + 1) (I.hok.fresh (Nat.le_succ _))
  have up : ∀ b o, s.heap.get? b = some o → ((s.heap.push { cls := .type "tuple", data := .seq us.toArray }).push { cls := .ref C, data := .fields (xfs s.heap.objs.size) }).get? b = some o := fun b o q => Heap.get?_push_of_some _ (Heap.get?_push_of_some _ q)
  have hget : ((s.heap.push { cls := .type "tuple", data := .seq us.toArray }).push { cls := .ref C, data := .fields (xfs s.heap.objs.size) }).get? (s.heap.objs.size + 1) = some ⟨.ref C, none, .fields (xfs s.heap.objs.size), #[]⟩ := Heap.get?_push_at (by rw [Heap.size_push]) rfl
  have I2 := I.laid (a := s.heap.objs.size + 1) (o := XN (s.heap.objs.size + 1) C none) (t' := s.toks) up (Nat.le_succ _) (XN.ok hget)
  have r2 : Vals (V.ref (s.heap.objs.size + 1) :: vs) (Value.ref (s.heap.objs.size + 1) :: us) := .cons rfl r
  have hl : (Value.ref (s.heap.objs.size + 1) :: us ++ []).length = ps.length := by
    have q := r2.length
    rw [F.len _ _ _ _ hq] at q
    rw [List.append_nil]
    exact q.symm
  have hus : us.length ≤ sizeLine := by rw [← r.length]; exact Nat.le_of_lt (small1000 hl0)
  refine xcall I.kIn M.at_ M.init M.fn hus (wpAny_call (codeAny_mono (F.run _ X.stack _ _ ⟨Value.ref (s.heap.objs.size + 1) :: us, []⟩ (Value.ref (s.heap.objs.size + 1) :: us) _ _ E (hr.make C us [])
    (I2.env0.make C us []) (by have z := hb _ (Value.ref (s.heap.objs.size + 1) :: us) I2.kIn hl; rw [List.append_nil] at z; exact z) r2 hq) fun r s' hq' => ?_))
  cases r with
  | error e => exact hx pins σ _ _ e s' I2 hq'
  | ok fl =>
    cases fl with
    | ret u =>
      obtain ⟨v, H', I3, rv, ev, q3⟩ := I2.after hq'
      subst ev
      exact ⟨rv, ⟨V.ref (s.heap.objs.size + 1), H', I3, rfl, q3⟩⟩
    | next => exact False.elim hq'
    | brk => exact False.elim hq'
    | cont => exact False.elim hq'
theorem pe_xmake (M : XMk X.K C f) (F : FnOk X.prog X.w X.K X.mg X.base CX k f fd ps sp) (hr : Room (k + 1) X.A) (hg : Gl X x) (hm : X.mg x = some (.ref C)) (hb : Binds X.K fd ps []) (hx : Passes CX X E)
    (ha : PA X (e :: es) t) (hdb : (x == ("__debug__" : Str)) = false := by decide) (he : starEach (e :: es) X.env = (false, eval e X.env) :: starEach es X.env := by rfl) (hpl : (backTo pos (starEach es X.env)).any (·.1) = false := by rfl) :
    PE X (.Call (.Name x p) (e :: es) [] pos) (tXMake C sp E t) := by
  intro pins s σ H Q I h
  refine wpAny_Call_Name_kw (ld_glob I hg hm ?_ hdb)
  refine PySem.W.callWith_K (h₀ := X.base) I.ok.mod.kin M.kp (thn (ha pos pins s σ H _ I h) fun us s1 ⟨vs, H1, I1, r, z, q⟩ => ⟨I1.kIn, ?_⟩) he hpl
  exact run_xmake M F hr hb hx I1 r z q
structure CMeth (K : PySem.W.Frag) (C : Addr) (m : Str) (f : Addr) : Prop where
  rd : PySem.W.readsIn K C (.type "type") = true
  at_ : PySem.W.findCls K (.ref C) (.type "type") m = some (.val (.ref f))
  ga : PySem.W.specialIn K (.ref C) "__getattribute__" = some (some (.builtin "type.__getattribute__"))
  kp : PySem.W.keepIn K (.ref f) = true
theorem pe_clsm {pl : Sem Bool} (M : CMeth X.K C m f) (F : FnOk X.prog X.w X.K X.mg X.base CX k f fd ps sp) (hr : Room k X.A) (hg : Gl X x) (hm : X.mg x = some (.ref C)) (hb : Binds X.K fd ps []) (hx : Passes CX X E) (ha : PA X (e :: es) t)
    (hdb : (x == ("__debug__" : Str)) = false := by decide) (hst : starEach (e :: es) X.env = (false, eval e X.env) :: starEach es X.env := by rfl) (hpl : (backTo pos (starEach es X.env)).any (·.1) = false := by rfl)
    (ht : eval (.Call (.Attribute (.Name x p) m apos) (e :: es) [] pos) X.env = (do
      let ov ← eval (.Name x p) X.env
      standAt apos.atName
      let (f, first) ← holding [ov] (getMethod ov m pl)
      callWith pos f first (backTo pos (starEach (e :: es) X.env)) (backToKw pos (keywordEach [] X.env))) := by rfl) :
    PE X (.Call (.Attribute (.Name x p) m apos) (e :: es) [] pos) (tCall sp [] E t) := by
  intro pins s σ H Q I h
  refine PySem.W.methodCall_KW (pl := pl) (ld_glob I hg hm ?_ hdb) ht
  refine PySem.W.method_cls I.kIn M.ga (PySem.W.cls_value I.kIn M.rd M.at_ rfl ?_)
  refine PySem.W.callWith_K (first := []) (h₀ := X.base) I.ok.mod.kin M.kp (thn (ha pos pins _ σ H _ (I.tok (s.toks + 1)) h) fun us s2 ⟨vs, H2, I2, r, q2⟩ => ⟨I2.kIn, ?_⟩) hst hpl
  exact run_fn F hr hb .nil hx I2 r q2
end
end L2
namespace L2
open PySem PySem.Spec PyProof.Rows
def tVinit (K : PySem.W.Frag) (t : TA) : TE := fun σ H Q => t σ H fun vs H1 => ∃ a C y, vs = [.ref a, y] ∧ H1 a = some (XN a C none) ∧ XAt K C ∧ Q .non H1
theorem ve_type {M : Model} {h : Heap} : PySem.W.Looks M h (typeOf (.type "ValueError")) (.type "type") := PySem.W.Looks.of_pure (by kernel_rfl)
theorem ve_opaque {M : Model} {h : Heap} : PySem.W.Looks M h (opaqueClassAbove (.type "ValueError")) none := PySem.W.Looks.of_pure (by kernel_rfl)
structure VInit (K : PySem.W.Frag) : Prop where
  ga : PySem.W.findIn K (.type "type") "__getattribute__" = some (some (.builtin "type.__getattribute__"))
  su : PySem.W.subIn K (.type "type") (.type "type") = some true
  at_ : PySem.W.findCls K (.type "ValueError") (.type "type") "__init__" = some (.val (.builtin "ValueError.__init__"))
section
variable {X : Cx} {p pos apos : Pos} {e : Expr} {es : List Expr} {t : TA} {K : PySem.W.Frag}
theorem k_vinit {pl : Sem Bool} (hK : X.K = K) (V : VInit K) (hg : Gl X "ValueError") (hm : X.mg "ValueError" = none) (hv : bootBuiltins "ValueError" = some (.type "ValueError")) (ha : PA X (e :: es) t)
    (hst : starEach (e :: es) X.env = (false, eval e X.env) :: starEach es X.env := by rfl) (hpl : (backTo pos (starEach es X.env)).any (·.1) = false := by rfl)
    (ht : eval (.Call (.Attribute (.Name "ValueError" p) "__init__" apos) (e :: es) [] pos) X.env = (do
      let ov ← eval (.Name "ValueError" p) X.env
      standAt apos.atName
      let (f, first) ← holding [ov] (getMethod ov "__init__" pl)
      callWith pos f first (backTo pos (starEach (e :: es) X.env)) (backToKw pos (keywordEach [] X.env))) := by rfl) :
    PE X (.Call (.Attribute (.Name "ValueError" p) "__init__" apos) (e :: es) [] pos) (tVinit K t) := by
  subst hK
  intro pins s σ H Q I h
  refine PySem.W.methodCall_KW (pl := pl) (ld_blt I hg hm hv ?_) ht
  have hgm : ∀ {Q' : Value × List Value → Shared → Prop}, Q' (.builtin "ValueError.__init__", []) { s with toks := s.toks + 1 } → wpAny (model X.prog X.w) X.A (getMethod (.type "ValueError") "__init__" pl) Q' X.xe s := fun {Q'} q => by
    unfold getMethod
    refine wpAny_bind ((ve_type.andThen (PySem.W.looks_findIn I.kIn V.ga)).here ?_)
    dsimp only
    rw [if_pos PySem.W.canon_tga]
    refine wpAny_bind (PySem.W.cls_open (hook := none) I.kIn ve_opaque ve_type V.ga (PySem.W.Looks.now) V.su V.at_ (wpAny_pure ?_))
    show wpAny _ _ (handedOut _) _ _ _
    exact PySem.W.handed_on rfl (wpAny_pure q)
  refine hgm ?_
  have hA := ha pos pins _ σ H _ (I.tok (s.toks + 1)) h
  rw [hst] at hA ⊢
  refine Calls.callWith_builtin (by show (false || (backTo pos (starEach es X.env)).any (·.1)) = false; rw [hpl] <;> rfl) (Calls.evalArgs_plain ?_)
  refine thn hA fun us s2 ⟨vs, H2, I2, r2, a, C, y, e1, ea, c, q⟩ => ?_
  subst e1
  obtain ⟨u, v, rfl, ru, rv⟩ := vals2 r2
  cases ru
  obtain ⟨⟨a0, hx⟩, _⟩ := (show ObjOk X.prog X.w H2 s2.heap a (XN a C none) from I2.hok a _ ea)
  refine xbase_init I2.kIn hx c fun h' a1 g1 g2 => ?_
  have J := I2.write (x := a) (e := a) (o := XN a C none) (t' := s2.toks) (by rw [ea]; exact True.intro) (.inl rfl) g2 ⟨_, g1⟩ (XN.ok g1)
  rw [upd_id ea] at J
  exact ⟨.non, H2, J, rfl, q⟩
end
end L2
namespace L2
open PySem PySem.Spec PyProof.Rows
structure Keep (fs zs : List Addr) (h h' : Heap) : Prop where
  keep : ∀ b o, h.get? b = some o → b ∉ zs → b ∉ fs → h'.get? b = some o
  slot : ∀ b o, h.get? b = some o → b ∉ zs → b ∈ fs → ∃ sl, h'.get? b = some { o with slots := sl }
structure Trc (h : Heap) (e : Addr) (C : Value) (dx : Option Addr) (T : Addr) (fl : Value) : Prop where
  ex : ∃ vs, h.get? e = some ⟨C, dx, .fields vs, #[]⟩ ∧ vs[1]? = some (.ref T)
  tb : ∃ ts, h.get? T = some ⟨.type "traceback", none, .fields ts, #[]⟩ ∧ ts[3]? = some fl
  ne : T ≠ e
section
variable {M : Model} {A : Around} {E : Value → Shared → Prop} {s : Shared} {base : Heap} {env : Env} {outer : List Env} {L e : Addr} {C : Value} {dx : Option Addr} {vs : Array Value}
theorem xentry {head : Value} {had : Bool} {Q : Unit → Shared → Prop} (hfr : A.frames = some (env :: outer)) (hl : s.heap.FunFrames base (env :: outer)) (hf : env.frame = some L) (he : s.heap.get? e = some ⟨C, dx, .fields vs, #[]⟩) (hsz : 1 < vs.size)
    (h : ∀ h' T, s.heap.objs.size ≤ T → Trc h' e C dx T (rawInt L) → Keep (frs (env :: outer)) [e] s.heap h' → Q () { s with heap := h' }) :
    wpAny M A (do let a ← frameOf env; let pl ← entryPlaceOf L had; let b ← EntryCells.newEntry head a .none (rawInt L) .none pl; setField (.ref e) 1 b) Q E s := by
  have hene : e ∉ frs (env :: outer) := fun hm => by
    obtain ⟨_, o, ho, hnf⟩ := hl.mem hm
    rw [he] at ho
    cases ho
    exact hnf vs rfl
  refine wpAny_bind (wpAny_frameOf_fun hfr hl hf fun h₁ hs => wpAny_bind (wpAny_entryPlaceOf fun pl hpl => ?_))
  unfold EntryCells.newEntry newFields
  refine wpAny_bind (wpAny_newObj_type ?_ (hpl.sizeOk5 _ _ _ _ _))
  have he1 : h₁.get? e = some ⟨C, dx, .fields vs, #[]⟩ := (hs.2.1 e hene).trans he
  generalize hts : ([head, .ref L, .none, rawInt L, .none] ++ (if pl.isEmpty then List.replicate 6 Value.none else pl)).toArray = ts
  have h3 : ts[3]? = some (rawInt L) := by rw [← hts]; first | (simp; done) | (rcases hpl with rfl | ⟨_, _, _, _, _, _, _, rfl⟩ <;> simp)
  have he2 := Heap.get?_push_of_some (h := h₁) { cls := .type "traceback", dict := none, data := .fields ts } he1
  have hTe : h₁.objs.size ≠ e := Nat.ne_of_gt (Heap.lt_size he1)
  refine wpAny_setField he2 rfl hsz (h _ h₁.objs.size (Nat.le_of_eq hs.1.symm) ⟨⟨vs.setIfInBounds 1 (.ref h₁.objs.size), ?_, by simp [hsz]⟩, ⟨ts, ?_, h3⟩, hTe⟩ ⟨fun b o q hb hn => ?_, fun b o q hb hn => ?_⟩)
  · rw [Heap.get?_update_self _ he2 rfl]
    rfl
  · rw [Heap.get?_update_other _ _ (Ne.symm hTe)]
    exact Heap.get?_push_size h₁ rfl
  · have hbe : b ≠ e := fun z => hb (by simp [z])
    rw [Heap.get?_update_other _ _ (Ne.symm hbe)]
    exact Heap.get?_push_of_some _ ((hs.2.1 b hn).trans q)
  · have hbe : b ≠ e := fun z => hb (by simp [z])
    obtain ⟨sl, z⟩ := hs.2.2 b o q
    exact ⟨sl, by rw [Heap.get?_update_other _ _ (Ne.symm hbe)]; exact Heap.get?_push_of_some _ z⟩
theorem xnote_new {Q : Unit → Shared → Prop} (hfr : A.frames = some (env :: outer)) (hl : s.heap.FunFrames base (env :: outer)) (hf : env.frame = some L) (he : s.heap.get? e = some ⟨C, dx, .fields vs, #[]⟩) (h1 : vs[1]? = some .none)
    (h : ∀ h' T, s.heap.objs.size ≤ T → Trc h' e C dx T (rawInt L) → Keep (frs (env :: outer)) [e] s.heap h' → Q () { s with heap := h' }) : wpAny M A (noteFrame (.ref e) env) Q E s := by
  unfold noteFrame
  simp only [hf]
  refine wpAny_bind (wpAny_field he rfl h1 ?_)
  rw [if_neg (by decide)]
  exact xentry hfr hl hf he (Array.getElem?_eq_some_iff.mp h1).1 h
theorem xnote_on {T : Addr} {Q : Unit → Shared → Prop} (hfr : A.frames = some (env :: outer)) (hl : s.heap.FunFrames base (env :: outer)) (hf : env.frame = some L) (t : Trc s.heap e C dx T .none)
    (h : ∀ h' T', s.heap.objs.size ≤ T' → Trc h' e C dx T' (rawInt L) → Keep (frs (env :: outer)) [e, T] s.heap h' → Q () { s with heap := h' }) : wpAny M A (noteFrame (.ref e) env) Q E s := by
  obtain ⟨⟨vs, he, h1⟩, ⟨ts, hT, h3⟩, hne⟩ := t
  unfold noteFrame
  simp only [hf]
  refine wpAny_bind (wpAny_field he rfl h1 ?_)
  rw [if_pos (show (Value.ref T != Value.none) = true from by simp)]
  refine wpAny_bind (wpAny_field hT rfl h3 ?_)
  rw [if_neg (show ¬ ((Value.none == rawInt L) = true) from by simp [rawInt])]
  refine wpAny_bind (wpAny_setField hT rfl (Array.getElem?_eq_some_iff.mp h3).1 ?_)
  have other : ∀ b, b ≠ T → (s.heap.update T (Obj.mapFields (·.setIfInBounds 3 Value.none))).get? b = s.heap.get? b := fun b hb => Heap.get?_update_other _ _ (Ne.symm hb)
  have szu : (s.heap.update T (Obj.mapFields (·.setIfInBounds 3 Value.none))).objs.size = s.heap.objs.size := Heap.size_after_update ..
  refine xentry (s := { s with heap := s.heap.update T (Obj.mapFields (·.setIfInBounds 3 Value.none)) }) hfr (hl.of_keeps fun b o hb hnf => ?_) hf ((other e (Ne.symm hne)).trans he) (Array.getElem?_eq_some_iff.mp h1).1 fun h' T' hs t' k => ?_
  · have nb : b ≠ T := fun q => by rw [q, hT] at hb; cases hb; exact hnf ts rfl
    exact ⟨o, (other b nb).trans hb, rfl⟩
  · refine h h' T' (by rw [← szu]; exact hs) t' ⟨fun b o q hb hn => ?_, fun b o q hb hn => ?_⟩
    · have nb : b ≠ T := fun z => hb (by simp [z])
      exact k.keep b o ((other b nb).trans q) (fun z => hb (by simp only [List.mem_singleton] at z; simp [z])) hn
    · have nb : b ≠ T := fun z => hb (by simp [z])
      exact k.slot b o ((other b nb).trans q) (fun z => hb (by simp only [List.mem_singleton] at z; simp [z])) hn
theorem xflight {T : Addr} {fl : Value} {Q : Unit → Shared → Prop} (t : Trc s.heap e C dx T fl) (h : ∀ h', Trc h' e C dx T .none → (∀ b o, b ≠ T → s.heap.get? b = some o → h'.get? b = some o) → h'.objs.size = s.heap.objs.size → Q () { s with heap := h' }) :
    wpAny M A (setFlight (.ref e) none) Q E s := by
  obtain ⟨⟨vs, he, h1⟩, ⟨ts, hT, h3⟩, hne⟩ := t
  have h3' : 3 < ts.size := (Array.getElem?_eq_some_iff.mp h3).1
  unfold setFlight
  refine wpAny_bind (wpAny_field he rfl h1 ?_)
  rw [if_pos (show (Value.ref T != Value.none) = true from by simp)]
  refine wpAny_setField hT rfl h3' (h _ ⟨⟨vs, ?_, h1⟩, ⟨ts.setIfInBounds 3 .none, ?_, by simp [h3']⟩, hne⟩ (fun b o hb q => ?_) (Heap.size_after_update ..))
  · rw [Heap.get?_update_other _ _ hne]
    exact he
  · rw [Heap.get?_update_self _ hT rfl]
    rfl
  · rw [Heap.get?_update_other _ _ (Ne.symm hb)]
    exact q
end
end L2
namespace L2
open PySem PySem.Spec PyProof.Rows
def CX1 (P : Program) (w : World) : CXT := fun outer H s E ev s' => ∃ (a C : Addr) (dx : Option Addr) (T : Addr) (H' : Hp), ev = .ref a ∧ s'.os = s.os ∧ AllBare s'.gens ∧ Un (frs outer) [] H H' s.heap s'.heap ∧ HOk P w H' s'.heap ∧
  H' a = some (XO a C dx) ∧ Trc s'.heap a (.ref C) dx T .none ∧ s.heap.objs.size ≤ T ∧ H' T = none ∧ E (.ref C) dx H'
section
variable {X : Cx} {pins : List (Addr × Obj)} {σ : St} {H : Hp} {s : Shared}
theorem hok_keep {a C T : Addr} {dx : Option Addr} {h' : Heap} {fl : Value} {zs : List Addr} (I : Inv X pins σ H s) (ha : H a = some (XO a C dx)) (k : Keep (frs X.stack) zs s.heap h') (hz : ∀ b ∈ zs, b = a ∨ H b = none) (t : Trc h' a (.ref C) dx T fl) : HOk X.prog X.w H h' := fun b u e => by
  by_cases hb : b = a
  · subst hb
    rw [ha] at e
    cases e
    obtain ⟨vs, q, _⟩ := t.ex
    exact XO.ok q
  · have nz : ∀ c o, H c = some o → c ≠ a → c ∉ zs ∧ c ∉ frs X.stack := fun c o q n => ⟨fun z => (hz c z).elim n fun y => (by rw [y] at q; cases q), fun z => (by have y := I.stkFree c z; rw [y] at q; cases q)⟩
    refine (I.hok b u e).stay (fun c v hc r => ?_) (fun _ q => q) fun _ _ q => q
    rcases hc with rfl | hc
    · exact k.keep c v r (nz c _ e hb).1 (nz c _ e hb).2
    · have n : c ≠ a := fun z => by rw [z, ha] at hc; cases hc
      exact k.keep c v r (nz c _ hc n).1 (nz c _ hc n).2
theorem un_out {a C T : Addr} {dx : Option Addr} {h' : Heap} {fl : Value} {zs : List Addr} (I : Inv X pins σ H s) (hex : X.ex = []) (ha : H a = some (XO a C dx)) (k : Keep (frs X.stack) zs s.heap h') (hz : ∀ b ∈ zs, b = a ∨ X.s₀.heap.objs.size ≤ b) (t : Trc h' a (.ref C) dx T fl) :
    Un X.fs [] X.H₀ H X.s₀.heap h' := by
  have B := I.base
  rw [hex] at B
  have low : ∀ b o, X.s₀.heap.get? b = some o → b ≠ X.env.locals := fun b o e => Nat.ne_of_lt (Nat.lt_of_lt_of_le (Heap.lt_size e) I.ok.above)
  have nz : ∀ b o, X.s₀.heap.get? b = some o → b ≠ a → b ∉ zs := fun b o e n z => (hz b z).elim n fun y => absurd (Nat.lt_of_lt_of_le (Heap.lt_size e) y) (Nat.lt_irrefl _)
  have na : ∀ b, H b = none → b ≠ a := fun b n z => by rw [z, ha] at n; cases n
  have nfs : ∀ b o, X.s₀.heap.get? b = some o → b ∉ X.fs → b ∉ frs X.stack := fun b o e n z => (List.mem_cons.mp (I.stkSub b z)).elim (low b o e) n
  refine ⟨fun b o e n hb hx => ?_, fun b o e n hb hx => ?_, B.free, fun b o e hx => ?_, B.tups, B.frzs, B.tbls⟩
  · exact k.keep b o (B.keep b o e n hb hx) (nz b o e (na b (B.free b o e n hx))) (nfs b o e hb)
  · obtain ⟨sl, q⟩ := B.slot b o e n hb hx
    have zz := nz b o e (na b (B.free b o e n hx))
    by_cases hs : b ∈ frs X.stack
    · obtain ⟨sl2, q2⟩ := k.slot b _ q zz hs
      exact ⟨sl2, q2⟩
    · exact ⟨sl, k.keep b _ q zz hs⟩
  · obtain ⟨o', q⟩ := B.there b o e hx
    by_cases hb : b = a
    · subst hb
      obtain ⟨vs, z, _⟩ := t.ex
      exact ⟨_, z⟩
    · have zz := nz b o e hb
      by_cases hs : b ∈ frs X.stack
      · obtain ⟨sl2, q2⟩ := k.slot b _ q zz hs
        exact ⟨_, q2⟩
      · exact ⟨o', k.keep b _ q zz hs⟩
end
structure XOk (X : Cx) (EK : St → XK) : Prop where
  pass : ∀ (pins : List (Addr × Obj)) (σ : St) (H : Hp) (s : Shared) (e : Value) (s' : Shared), Inv X pins σ H s → CX1 X.prog X.w X.stack H s (EK σ) e s' → X.xe e s'
  rais : ∀ (pins : List (Addr × Obj)) (σ : St) (H : Hp) (s : Shared) (a C : Addr) (dx : Option Addr), Inv X pins σ H s → H a = some (XN a C dx) → EK σ (.ref C) dx (upd H a (XO a C dx)) → X.xe (.ref a) s
  calm : X.calm = true
section
variable {P : Program} {w : World} {K : PySem.W.Frag} {mg : Str → Option Value} {base : Heap} {N : List Str} {qual : Str} {scope : Scope} {f : Addr} {cd : Value} {A : Around} {outer : List Env} {s0 : Shared} {H0 : Hp} {E : XK}
theorem xok_fn : XOk (cxOf (CX1 P w) P w K mg base N qual scope f cd A outer s0 H0 E) fun _ => E where
  calm := rfl
  pass := by
    intro pins σ H s ev s' I hx
    obtain ⟨a, C, dx, T, H', rfl, hos, hbr, un, hok, ha, t, hT, hTn, q⟩ := hx
    have J := I.call' (s' := s') (H' := H') (ch := []) hos un hok hbr (fun b z => absurd z (by simp))
    show wpAny _ _ (leaving _ _) _ _ _
    unfold leaving
    refine wpAny_bind (xnote_on (base := base) J.ok.frames J.stack rfl t fun h' T' hs t' k => ?_)
    refine xflight (s := { s' with heap := h' }) t' fun h2 t2 k2 sz2 => ?_
    have hz0 : s0.heap.objs.size ≤ s.heap.objs.size := I.sz
    have J2 := J.sz
    have kk : Keep (frs (envOfC qual scope s0.heap.objs.size f cd :: outer)) [a, T, T'] s'.heap h2 := by
      refine ⟨fun b o e z n => ?_, fun b o e z n => ?_⟩
      · simp only [List.mem_cons, List.not_mem_nil, or_false, not_or] at z
        exact k2 b o z.2.2 (k.keep b o e (by simp [z.1, z.2.1]) n)
      · simp only [List.mem_cons, List.not_mem_nil, or_false, not_or] at z
        obtain ⟨sl, y⟩ := k.slot b o e (by simp [z.1, z.2.1]) n
        exact ⟨sl, k2 b _ z.2.2 y⟩
    have nT' : H' T' = none := J.hok.fresh hs
    refine ⟨a, C, dx, T', H', rfl, J.os, hbr, un_out J rfl ha kk (fun b hb => ?_) t2, hok_keep J ha kk (fun b hb => ?_) t2, ha, t2, Nat.le_trans J2 hs, nT', q⟩
    · simp only [List.mem_cons, List.not_mem_nil, or_false] at hb
      rcases hb with rfl | rfl | rfl
      · exact .inl rfl
      · exact .inr (Nat.le_trans hz0 hT)
      · exact .inr (Nat.le_trans J2 hs)
    · simp only [List.mem_cons, List.not_mem_nil, or_false] at hb
      rcases hb with rfl | rfl | rfl
      · exact .inl rfl
      · exact .inr hTn
      · exact .inr nT'
  rais := by
    intro pins σ H s a C dx I e q
    obtain ⟨⟨a0, hx⟩, _⟩ := (show ObjOk _ _ H s.heap a (XN a C dx) from I.hok a _ e)
    have J : Inv _ pins σ (upd H a (XO a C dx)) s := I.write (x := a) (e := a) (o := XO a C dx) (h' := s.heap) (t' := s.toks) (by rw [e]; exact True.intro) (.inl rfl) (fun _ _ _ q => q) ⟨_, hx⟩ (XO.ok hx)
    show wpAny _ _ (leaving _ _) _ _ _
    unfold leaving
    refine wpAny_bind (xnote_new (base := base) J.ok.frames J.stack rfl hx rfl fun h' T' hs t' k => ?_)
    refine xflight (s := { s with heap := h' }) t' fun h2 t2 k2 sz2 => ?_
    have J2 := J.sz
    have ha : upd H a (XO a C dx) a = some (XO a C dx) := upd_same
    have kk : Keep (frs (envOfC qual scope s0.heap.objs.size f cd :: outer)) [a, T'] s.heap h2 := by
      refine ⟨fun b o e z n => ?_, fun b o e z n => ?_⟩
      · simp only [List.mem_cons, List.not_mem_nil, or_false, not_or] at z
        exact k2 b o z.2 (k.keep b o e (by simp [z.1]) n)
      · simp only [List.mem_cons, List.not_mem_nil, or_false, not_or] at z
        obtain ⟨sl, y⟩ := k.slot b o e (by simp [z.1]) n
        exact ⟨sl, k2 b _ z.2 y⟩
    have nT' : upd H a (XO a C dx) T' = none := J.hok.fresh hs
    refine ⟨a, C, dx, T', _, rfl, J.os, J.bare, un_out J rfl ha kk (fun b hb => ?_) t2, hok_keep J ha kk (fun b hb => ?_) t2, ha, t2, Nat.le_trans J2 hs, nT', q⟩
    · simp only [List.mem_cons, List.not_mem_nil, or_false] at hb
      rcases hb with rfl | rfl
      · exact .inl rfl
      · exact .inr (Nat.le_trans J2 hs)
    · simp only [List.mem_cons, List.not_mem_nil, or_false] at hb
      rcases hb with rfl | rfl
      · exact .inl rfl
      · exact .inr nT'
end
def tRaise (K : PySem.W.Frag) (EK : St → XK) (te : TE) : TS := fun _ σ H => te σ H fun x H1 => ∃ a C dx, x = .ref a ∧ H1 a = some (XN a C dx) ∧ XAt K C ∧ EK σ (.ref C) dx (upd H1 a (XO a C dx))
section
variable {X : Cx} {EK : St → XK} {e : Expr} {te : TE} {pos : Pos} {K : PySem.W.Frag}
theorem xraise {M : Model} {A : Around} {E : Value → Shared → Prop} {env : Env} {s : Shared} {x : Sem Value} {Q : Flow → Shared → Prop} (hh : A.handled = none)
    (h : wpAny M A x (fun v s1 => ∃ a C dx a0, v = .ref a ∧ K.In s1.heap ∧ XAt K C ∧ s1.heap.get? a = some ⟨.ref C, dx, .fields (xfs a0), #[]⟩ ∧ E (.ref a) s1) E s) : wpAny M A (raiseStmt env (some x) none) Q E s := by
  unfold raiseStmt
  refine wpAny_bind (wpAny_mono h (fun v s1 h1 => ?_) fun _ _ z => z)
  obtain ⟨a, C, dx, a0, rfl, kin, c, he, hE⟩ := h1
  obtain ⟨nm, qn, N, bs, bm, hdct, sn, sub, ab, col, dd, k0, k1, k2, k3, k5, hC, hm⟩ := xc_cls kin c.xc
  have hcB : (Value.ref C :: bm).contains (.type "BaseException") = true := by rw [List.contains_cons, xMro_has hm (by simp), Bool.or_true]
  obtain ⟨hp, g, d, tk, os⟩ := s1
  repeat (first | with_reducible refine wpAny_loadPart_at he ?_ | with_reducible refine wpAny_loadPart_at hC ?_ | (with_reducible refine wpAny_isSubtype_exc hC ?_; rw [hcB]) | wp_step)
  exact wpAny_raiseNew_none hh hE
theorem k_raise (hK : X.K = K) (XX : XOk X EK) (he : PE X e te) : PS X (.Raise (some e) none pos) (tRaise K EK te) := by
  subst hK
  intro pins s σ H D I h
  rw [arm_exec_Raise]
  refine wpAny_bind (wpAny_standAt (xraise (K := X.K) (I.ok.hd XX.calm) ?_))
  refine wpAny_bind (thn (he pins s σ H _ I h) fun v s1 ⟨x, H1, I1, rx, a, C, dx, ex, ea, c, q⟩ => wpAny_bind (wpAny_standAt (wpAny_pure ?_)))
  subst ex
  cases rx
  obtain ⟨⟨a0, hx⟩, _⟩ := (show ObjOk _ _ H1 s1.heap a (XN a C dx) from I1.hok a _ ea)
  exact ⟨a, C, dx, a0, rfl, I1.kIn, c, hx, XX.rais pins σ H1 s1 a C dx I1 ea q⟩
end
end L2
namespace L2
open PySem PySem.Spec PyProof.Rows
def tCallS (sp : Sp) (EK : St → XK) (t : TA) : TE := fun σ H Q => t σ H fun vs H1 => sp vs H1 Q (EK σ)
def tMethS (C : Addr) (m : Str) (sp : Sp) (EK : St → XK) (ta : TE) (t : TA) : TE := fun σ H Q => ta σ H fun x H1 => ∃ a dx fs, x = .ref a ∧ H1 a = some (.ins C dx fs) ∧ fs.lookup m = none ∧ t σ H1 fun vs H2 => sp (x :: vs) H2 Q (EK σ)
def tMakeS (C : Addr) (sp : Sp) (EK : St → XK) (t : TA) : TE := fun σ H Q => t σ H fun vs H1 => ∀ x dx, H1 x = none → H1 dx = none → dx ≠ x →
  sp (.ref x :: vs) (upd (upd H1 dx (.own x)) x (.ins C dx [])) (fun v H2 => v = .non ∧ Q (.ref x) H2) (EK σ)
structure MethOk (P : Program) (w : World) (K : PySem.W.Frag) (mg : Str → Option Value) (base : Heap) (CX : CXT) (k : Nat) (C : Addr) (m : Str) (ps : List Str) (sp : Sp) : Prop where
  ex : ∃ f fd, FnOk P w K mg base CX k f fd ps sp ∧ Meth K C m f ∧ Binds K fd ps []
  cl : Cls K C
structure MakeOk (P : Program) (w : World) (K : PySem.W.Frag) (mg : Str → Option Value) (base : Heap) (CX : CXT) (k : Nat) (C : Addr) (x : Str) (ps : List Str) (sp : Sp) : Prop where
  ex : ∃ f fd, FnOk P w K mg base CX k f fd ps sp ∧ Mk K C f ∧ Binds K fd ps []
  mg_ : mg x = some (.ref C)
structure XMakeOk (P : Program) (w : World) (K : PySem.W.Frag) (mg : Str → Option Value) (base : Heap) (k : Nat) (C : Addr) (x : Str) (ps : List Str) (sp : Sp) : Prop where
  ex : ∃ f fd, FnOk P w K mg base CX0 k f fd ps sp ∧ XMk K C f ∧ Binds K fd ps []
  mg_ : mg x = some (.ref C)
section
variable {X : Cx} {EK : St → XK} {k : Nat} {f C : Addr} {fd : FuncData} {ps : List Str} {sp : Sp} {x m : Str} {p pos apos : Pos} {e o : Expr} {es : List Expr} {ta : TE} {t : TA}
theorem run_fnS {pins : List (Addr × Obj)} {σ : St} {H : Hp} {s : Shared} {Q : VK} {us : List Value} {vs : List V} (F : FnOk X.prog X.w X.K X.mg X.base (CX1 X.prog X.w) k f fd ps sp) (hr : Room k X.A) (hb : Binds X.K fd ps []) (XX : XOk X EK)
    (I : Inv X pins σ H s) (r : Vals vs us) (h : sp vs H Q (EK σ)) : wpAny (model X.prog X.w) X.A (call (.ref f) us) (EP X pins σ Q) X.xe s := by
  have hl : (us ++ []).length = ps.length := by rw [List.append_nil, ← r.length]; exact F.len _ _ _ _ h
  have b := hb s us I.kIn hl
  rw [List.append_nil] at b
  refine wpAny_call (codeAny_mono (F.run X.A X.stack s H ⟨us, []⟩ us vs Q (EK σ) hr I.env0 b r h) fun r s' hq => ?_)
  cases r with
  | error e => exact XX.pass pins σ H s e s' I hq
  | ok fl =>
    cases fl with
    | ret u => exact I.after hq
    | _ => exact False.elim hq
theorem pe_defS (D : DefOk X.prog X.w X.K X.mg X.base (CX1 X.prog X.w) k x ps sp) (hr : Room k X.A) (XX : XOk X EK) (ha : PA X (e :: es) t) (hg : Gl X x := by rfl) (hdb : (x == ("__debug__" : Str)) = false := by decide)
    (he : starEach (e :: es) X.env = (false, eval e X.env) :: starEach es X.env := by rfl) (hpl : (backTo pos (starEach es X.env)).any (·.1) = false := by rfl) : PE X (.Call (.Name x p) (e :: es) [] pos) (tCallS sp EK t) := by
  obtain ⟨f, fd, F, hm, hk, hb⟩ := D.ex
  intro pins s σ H Q I h
  refine wpAny_Call_Name_kw (ld_glob I hg hm ?_ hdb)
  refine PySem.W.callWith_K (h₀ := X.base) I.ok.mod.kin hk (thn (ha pos pins s σ H _ I h) fun us s1 ⟨vs, H1, I1, r, q⟩ => ⟨I1.kIn, ?_⟩) he hpl
  exact run_fnS F hr hb XX I1 r q
theorem pe_xm (D : XMakeOk X.prog X.w X.K X.mg X.base k C x ps sp) (hr : Room (k + 1) X.A) (ha : PA X (e :: es) t) (hg : Gl X x := by rfl) (hdb : (x == ("__debug__" : Str)) = false := by decide)
    (he : starEach (e :: es) X.env = (false, eval e X.env) :: starEach es X.env := by rfl) (hpl : (backTo pos (starEach es X.env)).any (·.1) = false := by rfl) : PE X (.Call (.Name x p) (e :: es) [] pos) (tXMake C sp E0 t) := by
  obtain ⟨f, fd, F, M, hb⟩ := D.ex
  exact pe_xmake M F hr hg D.mg_ hb pass0 ha hdb he hpl
end
section
variable {P : Program} {w : World} {K : PySem.W.Frag} {mg : Str → Option Value} {base : Heap}
theorem Fun.ok1 {x qual : Str} {st : Stmt} {f : Addr} {fd : FuncData} {N ps : List Str} {k : Nat} {sp : Sp} (F : Fun K x qual st f fd) (S : FnScope N ps (defScope st)) (len : ∀ vs H Q E, sp vs H Q E → vs.length = ps.length)
    (hbody : ∀ (cdv : Value) (A : Around) (outer : List Env) (s : Shared) (H : Hp) (vs : List V) (Q : VK) (E : XK), Room k (A.deeper (envOfC qual (defScope st) s.heap.objs.size f cdv)) → sp vs H Q E →
      ∃ t, PSs (cxOf (CX1 P w) P w K mg base N qual (defScope st) f cdv A outer s H E) (defBody st) t ∧ t { nx := fun _ H' => Q .non H', rt := Q } (start N vs) H) : FnOk P w K mg base (CX1 P w) (k + 1) f fd ps sp := by
  obtain ⟨oc, od, kV, doc, pm, an, cdv, ct, osl, rfl, lk, hcd⟩ := F.ex
  exact fn_of lk hcd S len fun A outer s H vs Q E hr hsp => hbody cdv A outer s H vs Q E hr hsp
end
end L2
namespace L2
open PySem PySem.Spec PyProof.Rows
abbrev Cx.tried (X : Cx) (pn : List (Addr × Obj)) (E : Value → Shared → Prop) : Cx := { X with pn := pn, xe := E }
abbrev Cx.hand (X : Cx) (a : Addr) : Cx := { X with A := X.A.mark (some (.ref a)), calm := false, xe := fun _ _ => False }
section
variable {X : Cx} {pins pins' : List (Addr × Obj)} {σ : St} {H : Hp} {s : Shared} {E : Value → Shared → Prop} {a : Addr}
theorem Inv.tried (I : Inv X pins σ H s) (E : Value → Shared → Prop) : Inv (X.tried (X.pn ++ pins) E) [] σ H s :=
  ⟨⟨I.ok.mod, I.ok.kind, I.ok.glob, I.ok.blt, I.ok.above, I.ok.inj, I.ok.has, I.ok.cab, I.ok.hd, I.ok.frames, I.ok.stk, I.ok.exf, I.ok.bs, I.ok.bsz, I.ok.noex, I.ok.exfs, I.ok.funs, I.ok.frf⟩, I.os, I.bare, I.base, I.loc, I.cell, I.free, I.freeC,
    fun p hp => I.pin p (by have hp : p ∈ (X.pn ++ pins) ++ [] := hp; rw [List.append_nil] at hp; exact hp), I.hok, I.len⟩
theorem Inv.untried (I : Inv (X.tried (X.pn ++ pins) E) pins' σ H s) : Inv X pins σ H s :=
  ⟨⟨I.ok.mod, I.ok.kind, I.ok.glob, I.ok.blt, I.ok.above, I.ok.inj, I.ok.has, I.ok.cab, I.ok.hd, I.ok.frames, I.ok.stk, I.ok.exf, I.ok.bs, I.ok.bsz, I.ok.noex, I.ok.exfs, I.ok.funs, I.ok.frf⟩, I.os, I.bare, I.base, I.loc, I.cell, I.free, I.freeC,
    fun p hp => I.pin p (List.mem_append_left _ hp), I.hok, I.len⟩
theorem Inv.hand (I : Inv X pins σ H s) (a : Addr) : Inv (X.hand a) pins σ H s :=
  ⟨⟨I.ok.mod, I.ok.kind, I.ok.glob, I.ok.blt, I.ok.above, I.ok.inj, I.ok.has, I.ok.cab, (fun h => nomatch h), I.ok.frames, I.ok.stk, I.ok.exf, I.ok.bs, I.ok.bsz, I.ok.noex, I.ok.exfs, I.ok.funs, I.ok.frf⟩, I.os, I.bare, I.base, I.loc, I.cell, I.free, I.freeC, I.pin, I.hok, I.len⟩
theorem Inv.unhand (hc : X.calm = true → X.A.handled = none) (I : Inv (X.hand a) pins σ H s) : Inv X pins σ H s :=
  ⟨⟨I.ok.mod, I.ok.kind, I.ok.glob, I.ok.blt, I.ok.above, I.ok.inj, I.ok.has, I.ok.cab, hc, I.ok.frames, I.ok.stk, I.ok.exf, I.ok.bs, I.ok.bsz, I.ok.noex, I.ok.exfs, I.ok.funs, I.ok.frf⟩, I.os, I.bare, I.base, I.loc, I.cell, I.free, I.freeC, I.pin, I.hok, I.len⟩
structure Loose (X : Cx) (pins : List (Addr × Obj)) (H : Hp) (T : Addr) : Prop where
  hn : H T = none
  lo : X.s₀.heap.objs.size ≤ T
  nl : T ≠ X.env.locals
  nf : T ∉ X.fs
  nc : ∀ x c, X.env.cells.lookup x = some c → c ≠ T
  np : ∀ p ∈ X.pn ++ pins, p.1 ≠ T
theorem Inv.loose (I : Inv X pins σ H s) {T : Addr} (hT : s.heap.objs.size ≤ T) {H' : Hp} (hn : H' T = none) : Loose X pins H' T where
  hn := hn
  lo := Nat.le_trans I.sz hT
  nl := Nat.ne_of_gt (Nat.lt_of_lt_of_le I.lt hT)
  nf := I.nofs hT
  nc := fun x c e => by
    obtain ⟨v, o, ho, _⟩ := I.cell x c e
    exact Nat.ne_of_lt (Nat.lt_of_lt_of_le (Heap.lt_size ho) hT)
  np := fun p hp => Nat.ne_of_lt (Nat.lt_of_lt_of_le (Heap.lt_size (I.pin p hp).1) hT)
theorem Inv.noted {C T : Addr} {dx : Option Addr} {fl : Value} {zs : List Addr} {h' : Heap} (I : Inv X pins σ H s) (ha : H a = some (XO a C dx)) (k : Keep (frs X.stack) zs s.heap h') (hz : ∀ b ∈ zs, b = a ∨ Loose X pins H b) (t : Trc h' a (.ref C) dx T fl) :
    Inv X pins σ H { s with heap := h' } := by
  have hh := hok_keep I ha k (fun b hb => (hz b hb).imp (fun e => e) fun l => l.hn) t
  have nz : ∀ b, H b = none → b ∉ zs.filter (fun b => decide (b ≠ a)) → b ∉ zs := fun b n z y => z (List.mem_filter.mpr ⟨y, decide_eq_true fun e => by rw [e, ha] at n; cases n⟩)
  refine I.call (g' := s.gens) (t' := s.toks) (d' := s.drawn) (ch := zs.filter fun b => decide (b ≠ a)) ⟨fun b o e n hb hx => k.keep b o e (nz b n hx) hb, fun b o e n hb hx => k.slot b o e (nz b n hx) hb, fun _ _ _ n _ => n, fun b o e hx => ?_, fun _ _ e => e, fun _ _ _ e => e,
    fun b ps e => ⟨#[], by rw [e]; simp⟩⟩ hh I.bare fun b hb => ?_
  · by_cases hba : b = a
    · subst hba
      obtain ⟨vs, q, _⟩ := t.ex
      exact ⟨_, q⟩
    · have z : b ∉ zs := fun y => hx (List.mem_filter.mpr ⟨y, decide_eq_true hba⟩)
      by_cases hs : b ∈ frs X.stack
      · obtain ⟨sl, q⟩ := k.slot b o e z hs
        exact ⟨_, q⟩
      · exact ⟨o, k.keep b o e z hs⟩
  · obtain ⟨y, q⟩ := List.mem_filter.mp hb
    rcases hz b y with e | l
    · exact absurd e (of_decide_eq_true q)
    · exact ⟨.inr l.lo, l.nl, l.nc, l.np⟩
theorem unbind_ok {M : Model} {A : Around} {i : Nat} {x : Str} {v : V} {Q : Unit → Shared → Prop} (I : Inv X pins σ H s) (hN : X.N.Nodup) (hi : X.N[i]? = some x) (hx : X.env.scope.names.lookup x = some .local) (hv : σ[i]? = some (some v))
    (h : ∀ s', Inv X pins (σ.set i none) H s' → Q () s') : wpAny M A (unbindName X.env x) Q E s := by
  obtain ⟨m, hn, hl⟩ := id I.loc
  obtain ⟨u, ru, lk⟩ := hl i x v hi hv (.inl hx)
  have hm : m x = some u := by
    rcases lk with ⟨_, e⟩ | ⟨k, _⟩
    · exact e
    · have k' : X.env.scope.names.lookup x = some .cell ∨ X.env.scope.names.lookup x = some .free := k
      rw [hx] at k'
      rcases k' with z | z <;> cases z
  have hcls : (X.env.scope.kind == .class || (X.env.scope.kind == .module && X.env.locals != X.env.globals)) = false := by rw [I.ok.kind]; rfl
  refine wpAny_unbindName_local hx hn hm hcls fun h' u' hn' hs => ?_
  have lowL : ∀ b o, X.s₀.heap.get? b = some o → b ≠ X.env.locals := fun b o e => Nat.ne_of_lt (Nat.lt_of_lt_of_le (Heap.lt_size e) I.ok.above)
  refine h _ ⟨I.ok, I.os, I.bare, ⟨fun b o e n hb hx => ?_, fun b o e n hb hx => ?_, I.base.free, fun b o e hx => ?_, I.base.tups, I.base.frzs, I.base.tbls⟩, ⟨_, hn', fun j y v' e1 e2 e3 => ?_⟩, fun y c e => ?_, I.free, I.freeC, fun p hp => ?_, fun b ob e => ?_, by simpa using I.len⟩
  · exact (hs.2 b (lowL b o e)).trans (I.base.keep b o e n hb hx)
  · obtain ⟨sl, e1⟩ := I.base.slot b o e n hb hx
    exact ⟨sl, (hs.2 b (lowL b o e)).trans e1⟩
  · obtain ⟨o', e1⟩ := I.base.there b o e hx
    exact ⟨o', (hs.2 b (lowL b o e)).trans e1⟩
  · by_cases hj : j = i
    · subst hj
      have hlt : j < σ.length := by rw [I.len]; exact (List.getElem?_eq_some_iff.mp hi).1
      rw [List.getElem?_set_self hlt] at e2
      cases e2
    · rw [List.getElem?_set_ne (Ne.symm hj)] at e2
      obtain ⟨w', r', q⟩ := hl j y v' e1 e2 e3
      refine ⟨w', r', ?_⟩
      rcases q with ⟨k, e⟩ | ⟨k, c, e, z⟩
      · have ny : y ≠ x := fun e => hj (nodup_ix hN e1 (e ▸ hi))
        exact .inl ⟨k, by simp [ny, e]⟩
      · exact .inr ⟨k, c, e, z.sameBut hs (I.cne y c e)⟩
  · obtain ⟨w', z⟩ := I.cell y c e
    exact ⟨w', z.sameBut hs (I.cne y c e)⟩
  · obtain ⟨e, n, ne, nf, d⟩ := I.pin p hp
    exact ⟨(hs.2 p.1 ne).trans e, n, ne, nf, d⟩
  · refine (I.hok b ob e).stay (fun c w' hc q => (hs.2 c ?_).trans q) (fun _ q => q) fun _ _ q => q
    rintro rfl
    rcases hc with rfl | hc
    · rw [I.free] at e; cases e
    · rw [I.free] at hc; cases hc
end
end L2
namespace L2
open PySem PySem.Spec PyProof.Rows
structure Held (X : Cx) (pins : List (Addr × Obj)) (H : Hp) (h : Heap) (a C : Addr) (dx : Option Addr) : Prop where
  at_ : H a = some (XO a C dx)
  tr : ∃ T, Trc h a (.ref C) dx T .none ∧ Loose X pins H T
def PH (X : Cx) (a C : Addr) (dx : Option Addr) (hs : List ExceptHandler) (th : TS) : Prop :=
  ∀ (pins : List (Addr × Obj)) (s : Shared) (σ : St) (H : Hp) (D : Ends), Inv X pins σ H s → Held X pins H s.heap a C dx → th D σ H → wpAny (model X.prog X.w) X.A (handleBy (.ref a) X.env hs) (SP X pins D) X.xe s
def thNil : TS := fun _ _ _ => False
def thAs (K : PySem.W.Frag) (a C D : Addr) (i : Nat) (tb rest : TS) : TS := fun Z σ H => ∃ b, PySem.W.mroIn K C (.ref D) = some b ∧ XAt K D ∧ XAt K C ∧
  if b = true then tb { nx := fun σ' H' => Z.nx (σ'.set i none) H', rt := Z.rt, bk := fun σ' H' => Z.bk (σ'.set i none) H', ct := fun σ' H' => Z.ct (σ'.set i none) H' } (σ.set i (some (.ref a))) H else rest Z σ H
theorem xmatch {M : Model} {A : Around} {E : Value → Shared → Prop} {s : Shared} {K : PySem.W.Frag} {a C D : Addr} {o : Obj} {b : Bool} {Q : Bool → Shared → Prop} (X : K.In s.heap) (ho : s.heap.get? a = some o) (hc : o.cls = .ref C) (d : XAt K D) (hb : PySem.W.mroIn K C (.ref D) = some b) (q : Q b s) :
    wpAny M A (excMatches (.ref a) (.ref D)) Q E s := by
  obtain ⟨nm, qn, N, bs, bm, hdct, sn, sub, ab, col, dd, k0, k1, k2, k3, k5, hD, hm⟩ := xc_cls X d.xc
  have hcB : (Value.ref D :: bm).contains (.type "BaseException") = true := by rw [List.contains_cons, xMro_has hm (by simp), Bool.or_true]
  have f := tc_notTuple
  have L := PySem.W.looks_mroIn (M := M) X hb
  obtain ⟨hp, g, dr, tk, os⟩ := s
  unfold excMatches
  repeat (first | with_reducible refine wpAny_loadPart_at hD ?_ | (with_reducible refine wpAny_loadPart_at ho ?_; rw [hc]) | (with_reducible refine wpAny_isSubtype_exc hD ?_; rw [hcB]) | with_reducible refine L.at ?_ | wp_step)
  cases b <;> (wp_walk; exact q)
section
variable {X : Cx} {a C D : Addr} {dx : Option Addr} {c n : Str} {cp pos : Pos} {b0 : Stmt} {body : List Stmt} {rest : List ExceptHandler} {tb tr : TS} {i : Nat} {K : PySem.W.Frag}
theorem ph_nil : PH X a C dx [] thNil := fun _ _ _ _ _ _ _ h => h.elim
theorem suite_as {prog : Program} {w : World} {A : Around} {R : Result → Shared → Prop} {s : Shared} {env : Env} {e : Value}
    (h : wpAny (model prog w) A (setFlight e none) (fun _ s1 => wpAny (model prog w) A (bindName env n e) (fun _ s2 => wpAny (model prog w) A (execs (b0 :: body) env) (fun f s3 => R (.ok f) s3) (fun _ _ => False) s2) (fun _ _ => False) s1) (fun _ _ => False) s) :
    codeAny (model prog w) A (.handlers e [.ExceptHandler none (some n) (b0 :: body) pos] env) R s := by
  refine codeAny_of_tree ?_
  show wpAny _ A (do return Fin.done (← (handleWith e env [.ExceptHandler none (some n) (b0 :: body) pos]).onRaise (fun x => do noteFrame x env; theTreesLotGoes x))) _ _ s
  refine wpAny_bind (wpAny_noted ?_)
  unfold handleWith
  refine wpAny_bind (wpAny_standAt (wpAny_bind (wpAny_mono h (fun _ s1 h1 => wpAny_bind (wpAny_mono h1 (fun _ s2 h2 => wpAny_bind (wpAny_attempt (wpAny_mono h2 (fun f s3 h3 => wpAny_pure (wpAny_pure h3)) fun _ _ z => z.elim))) fun _ _ z => z.elim)) fun _ _ z => z.elim)))
theorem ph_as (hK : X.K = K) (hN : X.N.Nodup) (hi : X.N[i]? = some n) (hx : X.env.scope.names.lookup n = some .local) (hg : Gl X c) (hm : X.mg c = some (.ref D)) (hb : PSs (X.hand a) (b0 :: body) tb) (hr : PH X a C dx rest tr)
    (hdb : (c == ("__debug__" : Str)) = false := by decide) : PH X a C dx (.ExceptHandler (some (.Name c cp)) (some n) (b0 :: body) pos :: rest) (thAs K a C D i tb tr) := by
  subst hK
  intro pins s σ H Z I hl h
  obtain ⟨b, hb1, xd, xc, q⟩ := h
  obtain ⟨vs, he⟩ := (show IsX H a C dx from .inr hl.at_).get I.hok
  refine wpAny_handleBy_cons (codeAny_handlers_test ?_) (by intro q; cases q)
  have Ih := I.hand a
  refine ld_glob (X := X.hand a) Ih hg hm (xmatch I.kIn he rfl xd hb1 ?_) hdb
  cases b with
  | false => exact hr pins s σ H Z I hl q
  | true =>
    obtain ⟨T, t, lo⟩ := hl.tr
    refine suite_as (xflight t fun h1 t1 k1 sz1 => ?_)
    have kk : Keep (frs X.stack) [T] s.heap h1 := ⟨fun b o e z _ => k1 b o (by simpa using z) e, fun b o e z _ => ⟨o.slots, k1 b o (by simpa using z) e⟩⟩
    have I1 := I.noted hl.at_ kk (fun b hb => .inr (by rw [List.mem_singleton.mp hb]; exact lo)) t1
    have I2 := I1.hand a
    refine wpAny_bindName (store_ok (X := X.hand a) I2 hN hi (.inl hx) (v := .ref a) rfl (fun s2 I3 => ?_) (.inr hx))
    have q' : tb { nx := fun σ' H' => Z.nx (σ'.set i none) H', rt := Z.rt, bk := fun σ' H' => Z.bk (σ'.set i none) H', ct := fun σ' H' => Z.ct (σ'.set i none) H' } (σ.set i (some (.ref a))) H := q
    refine thn (hb pins s2 _ H _ I3 q') fun f s3 hf => ?_
    have fin : ∀ {σ' : St} {H' : Hp} {Q : Unit → Shared → Prop}, Inv (X.hand a) pins σ' H' s3 → (∀ s4, Inv X pins (σ'.set i none) H' s4 → Q () s4) → wpAny (model X.prog X.w) X.A (do bindName X.env n .none; unbindBehindTheSuite X.env n pos) Q X.xe s3 := fun {σ' H' Q} J k => by
      have J' := Inv.unhand I.ok.hd J
      have hlt : i < σ'.length := by rw [J'.len]; exact (List.getElem?_eq_some_iff.mp hi).1
      refine wpAny_bind (wpAny_bindName (store_ok J' hN hi (.inl hx) (v := .non) rfl (fun s4 J4 => ?_) (.inr hx)))
      refine wpAny_onRaise (unbind_ok J4 hN hi hx (v := .non) (by rw [List.getElem?_set_self hlt]) fun s5 J5 => k s5 ?_)
      rw [List.set_set] at J5
      exact J5
    cases f with
    | next => obtain ⟨σ', H', J, z⟩ := hf; exact fin J fun s4 J4 => ⟨_, H', J4, z⟩
    | brk => obtain ⟨σ', H', J, z⟩ := hf; exact fin J fun s4 J4 => ⟨_, H', J4, z⟩
    | cont => obtain ⟨σ', H', J, z⟩ := hf; exact fin J fun s4 J4 => ⟨_, H', J4, z⟩
    | ret u => obtain ⟨v, σ', H', J, r, z⟩ := hf; exact fin J fun s4 J4 => ⟨v, _, H', J4, r, z⟩
end
end L2
namespace L2
open PySem PySem.Spec PyProof.Rows
def tTry (X : Cx) (body : List Stmt) (hs : List ExceptHandler) (te : TS) : TS := fun D σ H => ∃ (EK : St → XK) (tb : TS), (∀ pn xe, XOk (X.tried pn xe) EK → PSs (X.tried pn xe) body tb) ∧
  tb { nx := te D, rt := D.rt, bk := D.bk, ct := D.ct } σ H ∧ ∀ (a C : Addr) (dx : Option Addr) (σ' : St) (H' : Hp), EK σ' (.ref C) dx H' → H' a = some (XO a C dx) → ∃ th, PH X a C dx hs th ∧ th D σ' H'
section
variable {X : Cx} {body orelse : List Stmt} {h0 : ExceptHandler} {hs : List ExceptHandler} {pos : Pos} {te : TS}
theorem ps_try (hc : X.calm = true) (hst : X.stack = X.env :: X.outer) (hfr : X.env.frame = some X.env.locals) (ho : PSs X orelse te) : PS X (.Try body (h0 :: hs) orelse [] pos) (tTry X body (h0 :: hs) te) := by
  intro pins s σ H D I h
  obtain ⟨EK, tb, hb, q, hh⟩ := h
  have hfs : X.A.frames = some (X.env :: X.outer) := by rw [← hst]; exact I.ok.frames
  let xe' : Value → Shared → Prop := fun e s1 => ∃ (a C : Addr) (dx : Option Addr) (σ' : St) (H' : Hp), e = .ref a ∧ Inv X pins σ' H' s1 ∧ H' a = some (XO a C dx) ∧ EK σ' (.ref C) dx H' ∧
    ((∃ T, Trc s1.heap a (.ref C) dx T .none ∧ Loose X pins H' T) ∨ ∃ a0, s1.heap.get? a = some ⟨.ref C, dx, .fields (xfs a0), #[]⟩)
  have XX : XOk (X.tried (X.pn ++ pins) xe') EK := by
    refine ⟨fun pins' σ' H1 s1 e s2 J hx => ?_, fun pins' σ' H1 s1 a C dx J e z => ?_, hc⟩
    · obtain ⟨a, C, dx, T, H', rfl, hos, hbr, un, hok, ha, t, hT, hTn, z⟩ := hx
      have J1 := J.call' (s' := s2) (H' := H') (ch := []) hos un hok hbr (fun b z => absurd z (by simp))
      have J0 := Inv.untried J
      exact ⟨a, C, dx, σ', H', rfl, Inv.untried J1, ha, z, .inl ⟨T, t, J0.loose hT hTn⟩⟩
    · have J0 := Inv.untried J
      obtain ⟨⟨a0, hx⟩, _⟩ := (show ObjOk _ _ H1 s1.heap a (XN a C dx) from J0.hok a _ e)
      have J1 : Inv X pins σ' (upd H1 a (XO a C dx)) s1 := J0.write (x := a) (e := a) (o := XO a C dx) (h' := s1.heap) (t' := s1.toks) (by rw [e]; exact True.intro) (.inl rfl) (fun _ _ _ q => q) ⟨_, hx⟩ (XO.ok hx)
      exact ⟨a, C, dx, σ', _, rfl, J1, upd_same, z, .inr ⟨a0, hx⟩⟩
  have B := hb (X.pn ++ pins) xe' XX [] s σ H _ (I.tried xe') q
  refine wpAny_Try_except (wpAny_mono B (fun f s1 hf => ?_) fun e s1 he => ?_)
  · cases f with
    | next => obtain ⟨σ', H', J, z⟩ := hf; exact ho pins s1 σ' H' D (Inv.untried J) z
    | brk => obtain ⟨σ', H', J, z⟩ := hf; exact ⟨σ', H', Inv.untried J, z⟩
    | cont => obtain ⟨σ', H', J, z⟩ := hf; exact ⟨σ', H', Inv.untried J, z⟩
    | ret u => obtain ⟨v, σ', H', J, r, z⟩ := hf; exact ⟨v, σ', H', Inv.untried J, r, z⟩
  · obtain ⟨a, C, dx, σ', H', rfl, J, ha, z, tt⟩ := he
    obtain ⟨th, hp, hq⟩ := hh a C dx σ' H' z ha
    have stk : s1.heap.FunFrames X.base (X.env :: X.outer) := by rw [← hst]; exact J.stack
    have go : ∀ (h' : Heap) (T' : Addr) (zs : List Addr), s1.heap.objs.size ≤ T' → Trc h' a (.ref C) dx T' (rawInt X.env.locals) → Keep (frs (X.env :: X.outer)) zs s1.heap h' → (∀ b ∈ zs, b = a ∨ Loose X pins H' b) →
        wpAny (model X.prog X.w) X.A (setFlight (.ref a) none) (fun _ s3 => wpAny (model X.prog X.w) X.A (handleBy (.ref a) X.env (h0 :: hs)) (SP X pins D) X.xe s3) X.xe { s1 with heap := h' } := fun h' T' zs hs' t' k hz => by
      have lo := J.loose hs' (J.hok.fresh hs')
      have J1 := J.noted ha (by rw [hst]; exact k) hz t'
      refine xflight (s := { s1 with heap := h' }) t' fun h2 t2 k2 sz2 => ?_
      have kk : Keep (frs X.stack) [T'] h' h2 := ⟨fun b o e z _ => k2 b o (by simpa using z) e, fun b o e z _ => ⟨o.slots, k2 b o (by simpa using z) e⟩⟩
      have J2 := J1.noted ha kk (fun b hb => .inr (by rw [List.mem_singleton.mp hb]; exact lo)) t2
      exact hp pins _ σ' H' D J2 ⟨ha, T', t2, lo⟩ hq
    rcases tt with ⟨T, t, lo⟩ | ⟨a0, hx⟩
    · refine xnote_on (base := X.base) hfs stk hfr t fun h' T' hs' t' k => go h' T' _ hs' t' k fun b hb => ?_
      simp only [List.mem_cons, List.not_mem_nil, or_false] at hb
      rcases hb with rfl | rfl
      · exact .inl rfl
      · exact .inr lo
    · refine xnote_new (base := X.base) hfs stk hfr hx rfl fun h' T' hs' t' k => go h' T' _ hs' t' k fun b hb => ?_
      exact .inl (List.mem_singleton.mp hb)
end
end L2
namespace L2
open PySem PySem.Spec PyProof.Rows
def TyX (K : PySem.W.Frag) (H : Hp) (x : V) (t : Value) : Prop := TyOf K H x t ∨ ∃ a C dx, x = .ref a ∧ t = .ref C ∧ IsX H a C dx ∧ XAt K C ∧ ∀ d, dx = some d → ∃ fs, H d = some (.xd fs)
theorem TyX.kit {X : Cx} {pins : List (Addr × Obj)} {σ : St} {H : Hp} {s : Shared} {x : V} {u t : Value} (I : Inv X pins σ H s) (rx : RelV x u) (ty : TyX X.K H x t) : ∃ P : Heap → Prop, PySem.W.KitX X.K u t P ∧ P s.heap ∧ u ≠ .builtin "__main__.__loader__#opaque" := by
  rcases ty with ty | ⟨a, C, dx, rfl, rfl, hx, c, hd⟩
  · exact ty.kit I rx
  · cases rx
    obtain ⟨vs, he⟩ := hx.get I.hok
    cases dx with
    | none => exact ⟨_, kitx_exc (od := none) c, ⟨he, rfl, rfl, True.intro⟩, fun z => nomatch z⟩
    | some d =>
      obtain ⟨fs, hf⟩ := hd d rfl
      obtain ⟨od, mA, h1, _⟩ := xd_get I hf
      exact ⟨_, kitx_exc (od := some od) c, ⟨he, rfl, rfl, h1⟩, fun z => nomatch z⟩
def rIsiU (K : PySem.W.Frag) : List V → Hp → VK → Prop := fun xs H Q => ∃ x y t c b, xs = [x, y] ∧ TyX K H x t ∧ clsVal y = some c ∧ PySem.W.kitOne K t c = some b ∧ Q (.bl b) H
section
variable {X : Cx} {K : PySem.W.Frag}
theorem k_isiU (hK : X.K = K) : CallR X (.builtin "isinstance") (rIsiU K) := by
  subst hK
  intro pins s σ H xs us Q I r h
  obtain ⟨x, y, t, c, b, rfl, ty, hy, hb, q⟩ := h
  obtain ⟨u, v, rfl, ru, rv⟩ := vals2 r
  have e := clsVal_rel hy rv
  subst e
  obtain ⟨P, Z, p, ne⟩ := ty.kit I ru
  exact PySem.W.kia_one Z I.kIn p hb ne fun tk => ⟨.bl b, H, I.tok tk, rfl, q⟩
end
mutual
inductive EqD (K : PySem.W.Frag) (H : Hp) : Nat → V → V → Bool → Prop
  | flat {n : Nat} {x y : V} (fx : flatV x = true) (fy : flatV y = true) : EqD K H n x y (eqV x y)
  | self {n : Nat} {a : Addr} : EqD K H n (.ref a) (.ref a) true
  | deep {n : Nat} {a b : Addr} {k : Bool} (h : EqT K H n a b k) (ne : a ≠ b) : EqD K H n (.ref a) (.ref b) k
inductive EqT (K : PySem.W.Frag) (H : Hp) : Nat → Addr → Addr → Bool → Prop
  | lst {n : Nat} {a b : Addr} {xs ys : List V} {e : Nat → Bool} (ha : SqL K H a xs) (hb : SqL K H b ys) (hl : xs.length = ys.length) (he : ∀ j x y, xs[j]? = some x → ys[j]? = some y → EqD K H n x y (e j)) : EqT K H (n + 1) a b ((List.range xs.length).all e)
  | lstL {n : Nat} {a b : Addr} {xs ys : List V} (ha : SqL K H a xs) (hb : SqL K H b ys) (hl : xs.length ≠ ys.length) : EqT K H (n + 1) a b false
  | tup {n : Nat} {a b : Addr} {xs ys : List V} {e : Nat → Bool} (ha : SqT K H a xs) (hb : SqT K H b ys) (he : ∀ j x y, xs[j]? = some x → ys[j]? = some y → EqD K H n x y (e j)) : EqT K H (n + 1) a b ((List.range (min xs.length ys.length)).all e && xs.length == ys.length)
  | lt {n : Nat} {a b : Addr} {xs ys : List V} (ha : SqL K H a xs) (hb : SqT K H b ys) : EqT K H (n + 1) a b false
  | tl {n : Nat} {a b : Addr} {xs ys : List V} (ha : SqT K H a xs) (hb : SqL K H b ys) : EqT K H (n + 1) a b false
end
theorem vals_getU : ∀ {xs : List V} {us : List Value} {j : Nat} {u : Value}, Vals xs us → us[j]? = some u → ∃ x, xs[j]? = some x ∧ RelV x u
  | _, _, _, _, .nil, e => by simp at e
  | _, _, 0, _, .cons r _, e => by simp at e; subst e; exact ⟨_, rfl, r⟩
  | _, _, j + 1, u, .cons _ t, e => by
    obtain ⟨x, h1, h2⟩ := vals_getU (j := j) (u := u) t (by simpa using e)
    exact ⟨x, by simpa using h1, h2⟩
section
variable {X : Cx} {pins : List (Addr × Obj)} {σ : St} {H : Hp} {s : Shared}
theorem eq_both (I : Inv X pins σ H s) : ∀ n, (∀ (A : Around) (x y : V) (k : Bool) (u v : Value), EqD X.K H n x y k → RelV x u → RelV y v → A.units + n < cLine → SeqAt.EqAt A s u v k) ∧ (∀ (A : Around) (a b : Addr) (k : Bool), EqT X.K H n a b k → A.units + n < cLine → SeqAt.RcAt A s (.ref a) (.ref b) k) := by
  intro n
  induction n with
  | zero =>
    have t0 : ∀ (A : Around) (a b : Addr) (k : Bool), EqT X.K H 0 a b k → A.units + 0 < cLine → SeqAt.RcAt A s (.ref a) (.ref b) k := fun A a b k h => by cases h
    refine ⟨fun A x y k u v h rx ry hu => ?_, t0⟩
    cases h with
    | flat fx fy => exact eqAt_V rx ry fx fy
    | self => cases rx; cases ry; exact SeqAt.EqAt.same _
    | deep h ne => cases h
  | succ n ih =>
    have t1 : ∀ (A : Around) (a b : Addr) (k : Bool), EqT X.K H (n + 1) a b k → A.units + (n + 1) < cLine → SeqAt.RcAt A s (.ref a) (.ref b) k := fun A a b k h hu => by
      have hu0 : A.units < cLine := by omega
      have hu1 : A.in1.units + n < cLine := by show A.units + 1 + n < cLine; omega
      cases h with
      | @lst _ _ _ xs ys e ha hb hl he =>
        obtain ⟨its, r, pl, hz⟩ := I.list ha
        obtain ⟨its2, r2, pl2, hz2⟩ := I.list hb
        have e1 : xs.length = its.toArray.size := by rw [List.size_toArray]; exact r.length
        have e2 : ys.length = its2.toArray.size := by rw [List.size_toArray]; exact r2.length
        rw [e1]
        refine SeqAt.RcAt.lists pl.isList pl2.isList (by rw [← e1, ← e2, hl]) hu0 fun j h1 h2 => ?_
        have g1 : its[j]? = some its.toArray[j] := by simp
        have g2 : its2[j]? = some its2.toArray[j] := by simp
        obtain ⟨x, hx, rx⟩ := vals_getU r g1
        obtain ⟨y, hy, ry⟩ := vals_getU r2 g2
        exact ih.1 A.in1 x y (e j) _ _ (he j x y hx hy) rx ry hu1
      | @lstL _ _ _ xs ys ha hb hl =>
        obtain ⟨its, r, pl, hz⟩ := I.list ha
        obtain ⟨its2, r2, pl2, hz2⟩ := I.list hb
        refine SeqAt.RcAt.lists_lengths pl.isList pl2.isList ?_ hu0
        rw [List.size_toArray, List.size_toArray, ← r.length, ← r2.length]
        simp [hl]
      | @tup _ _ _ xs ys e ha hb he =>
        obtain ⟨its, r, pl, hz⟩ := I.tuple ha
        obtain ⟨its2, r2, pl2, hz2⟩ := I.tuple hb
        have e1 : xs.length = its.toArray.size := by rw [List.size_toArray]; exact r.length
        have e2 : ys.length = its2.toArray.size := by rw [List.size_toArray]; exact r2.length
        rw [e1, e2]
        refine SeqAt.RcAt.tuples pl pl2 hu0 fun j h1 h2 => ?_
        have g1 : its[j]? = some its.toArray[j] := by simp
        have g2 : its2[j]? = some its2.toArray[j] := by simp
        obtain ⟨x, hx, rx⟩ := vals_getU r g1
        obtain ⟨y, hy, ry⟩ := vals_getU r2 g2
        exact ih.1 A.in1 x y (e j) _ _ (he j x y hx hy) rx ry hu1
      | lt ha hb =>
        obtain ⟨its, r, pl, hz⟩ := I.list ha
        obtain ⟨its2, r2, pl2, hz2⟩ := I.tuple hb
        exact SeqAt.RcAt.list_tuple pl.isList pl2 hu0
      | tl ha hb =>
        obtain ⟨its, r, pl, hz⟩ := I.tuple ha
        obtain ⟨its2, r2, pl2, hz2⟩ := I.list hb
        exact SeqAt.RcAt.tuple_list pl pl2.isList hu0
    refine ⟨fun A x y k u v h rx ry hu => ?_, t1⟩
    cases h with
    | flat fx fy => exact eqAt_V rx ry fx fy
    | self => cases rx; cases ry; exact SeqAt.EqAt.same _
    | deep h ne => cases rx; cases ry; exact SeqAt.EqAt.of_refs ne (t1 A _ _ k h hu)
theorem ne_refs (I : Inv X pins σ H s) {n : Nat} {A : Around} {a b : Addr} {k : Bool} (h : EqT X.K H n a b k) (hu : A.units + n < cLine) : SeqAt.RcNeAt A s (.ref a) (.ref b) (!k) := by
  cases n with
  | zero => cases h
  | succ n =>
    have ih := eq_both I n
    have hu0 : A.units < cLine := by omega
    have hu1 : A.in1.units + n < cLine := by show A.units + 1 + n < cLine; omega
    cases h with
    | @lst _ _ _ xs ys e ha hb hl he =>
      obtain ⟨its, r, pl, hz⟩ := I.list ha
      obtain ⟨its2, r2, pl2, hz2⟩ := I.list hb
      have e1 : xs.length = its.toArray.size := by rw [List.size_toArray]; exact r.length
      have e2 : ys.length = its2.toArray.size := by rw [List.size_toArray]; exact r2.length
      rw [e1]
      refine SeqAt.RcNeAt.lists pl.isList pl2.isList (by rw [← e1, ← e2, hl]) hu0 fun j h1 h2 => ?_
      obtain ⟨x, hx, rx⟩ := vals_getU r (show its[j]? = some its.toArray[j] by simp)
      obtain ⟨y, hy, ry⟩ := vals_getU r2 (show its2[j]? = some its2.toArray[j] by simp)
      exact ih.1 A.in1 x y (e j) _ _ (he j x y hx hy) rx ry hu1
    | @lstL _ _ _ xs ys ha hb hl =>
      obtain ⟨its, r, pl, hz⟩ := I.list ha
      obtain ⟨its2, r2, pl2, hz2⟩ := I.list hb
      refine SeqAt.RcNeAt.lists_lengths pl.isList pl2.isList ?_ hu0
      rw [List.size_toArray, List.size_toArray, ← r.length, ← r2.length]
      simp [hl]
    | @tup _ _ _ xs ys e ha hb he =>
      obtain ⟨its, r, pl, hz⟩ := I.tuple ha
      obtain ⟨its2, r2, pl2, hz2⟩ := I.tuple hb
      have e1 : xs.length = its.toArray.size := by rw [List.size_toArray]; exact r.length
      have e2 : ys.length = its2.toArray.size := by rw [List.size_toArray]; exact r2.length
      rw [e1, e2]
      refine SeqAt.RcNeAt.tuples pl pl2 hu0 fun j h1 h2 => ?_
      obtain ⟨x, hx, rx⟩ := vals_getU r (show its[j]? = some its.toArray[j] by simp)
      obtain ⟨y, hy, ry⟩ := vals_getU r2 (show its2[j]? = some its2.toArray[j] by simp)
      exact ih.1 A.in1 x y (e j) _ _ (he j x y hx hy) rx ry hu1
    | lt ha hb =>
      obtain ⟨its, r, pl, hz⟩ := I.list ha
      obtain ⟨its2, r2, pl2, hz2⟩ := I.tuple hb
      exact SeqAt.RcNeAt.list_tuple pl.isList pl2 hu0
    | tl ha hb =>
      obtain ⟨its, r, pl, hz⟩ := I.tuple ha
      obtain ⟨its2, r2, pl2, hz2⟩ := I.list hb
      exact SeqAt.RcNeAt.tuple_list pl pl2.isList hu0
theorem rcAt_V {A : Around} {x y : V} {u v : Value} (rx : RelV x u) (ry : RelV y v) (fx : flatV x = true) (fy : flatV y = true) : SeqAt.RcAt A s u v (eqV x y) ∧ SeqAt.RcNeAt A s u v (!eqV x y) := by
  cases x with
  | non =>
    cases rx
    cases y with
    | non => cases ry; exact ⟨SeqAt.RcAt.none_none, SeqAt.RcNeAt.none_none⟩
    | bl b => cases ry; exact ⟨SeqAt.RcAt.none_bool b, SeqAt.RcNeAt.none_bool b⟩
    | int b => obtain ⟨t, rfl⟩ := ry; exact ⟨SeqAt.RcAt.none_int b t, SeqAt.RcNeAt.none_int b t⟩
    | str b => obtain ⟨t, rfl⟩ := ry; exact ⟨SeqAt.RcAt.none_str b t, SeqAt.RcNeAt.none_str b t⟩
    | _ => cases fy
  | bl a =>
    cases rx
    cases y with
    | non => cases ry; exact ⟨SeqAt.RcAt.bool_none a, SeqAt.RcNeAt.bool_none a⟩
    | bl b => cases ry; exact ⟨SeqAt.RcAt.bool_bool a b, SeqAt.RcNeAt.bool_bool a b⟩
    | int b => obtain ⟨t, rfl⟩ := ry; exact ⟨SeqAt.RcAt.bool_int a b t, SeqAt.RcNeAt.bool_int a b t⟩
    | str b => obtain ⟨t, rfl⟩ := ry; exact ⟨SeqAt.RcAt.bool_str a b t, SeqAt.RcNeAt.bool_str a b t⟩
    | _ => cases fy
  | int a =>
    obtain ⟨t', rfl⟩ := rx
    cases y with
    | non => cases ry; exact ⟨SeqAt.RcAt.int_none a t', SeqAt.RcNeAt.int_none a t'⟩
    | bl b => cases ry; exact ⟨SeqAt.RcAt.int_bool a t' b, SeqAt.RcNeAt.int_bool a t' b⟩
    | int b => obtain ⟨t, rfl⟩ := ry; exact ⟨SeqAt.RcAt.int_int a t' b t, SeqAt.RcNeAt.int_int a t' b t⟩
    | str b => obtain ⟨t, rfl⟩ := ry; exact ⟨SeqAt.RcAt.int_str a t' b t, SeqAt.RcNeAt.int_str a t' b t⟩
    | _ => cases fy
  | str a =>
    obtain ⟨t', rfl⟩ := rx
    cases y with
    | non => cases ry; exact ⟨SeqAt.RcAt.str_none a t', SeqAt.RcNeAt.str_none a t'⟩
    | bl b => cases ry; exact ⟨SeqAt.RcAt.str_bool a t' b, SeqAt.RcNeAt.str_bool a t' b⟩
    | int b => obtain ⟨t, rfl⟩ := ry; exact ⟨SeqAt.RcAt.str_int a t' b t, SeqAt.RcNeAt.str_int a t' b t⟩
    | str b => obtain ⟨t, rfl⟩ := ry; exact ⟨SeqAt.RcAt.str_str a t' b t, SeqAt.RcNeAt.str_str a t' b t⟩
    | _ => cases fy
  | _ => cases fx
end
def rEqU (K : PySem.W.Frag) (neg : Bool) : R2 := fun x y H Q => (flatV x = true ∧ flatV y = true ∧ Q (.bl (if neg then !eqV x y else eqV x y)) H) ∨
  (∃ a b k n, x = .ref a ∧ y = .ref b ∧ n ≤ 60 ∧ EqT K H n a b k ∧ Q (.bl (if neg then !k else k)) H) ∨
  (∃ a kvs, x = .ref a ∧ y = .ref a ∧ H a = some (.dK kvs) ∧ Q (.bl (!neg)) H)
theorem valueAt_mem {κ : Type} [DecidableEq κ] : ∀ {kb : List (κ × Value)} {k : κ} {v : Value}, (kb.map (·.1)).Nodup → (k, v) ∈ kb → valueAt kb k = some v
  | [], _, _, _, h => by cases h
  | (k', v') :: r, k, v, hn, h => by
    obtain ⟨h1, h2⟩ := List.nodup_cons.mp (show (k' :: r.map (·.1)).Nodup from hn)
    unfold valueAt
    rw [List.find?_cons]
    by_cases e : k' = k
    · subst e
      simp only [decide_true]
      rcases List.mem_cons.mp h with z | z
      · cases z; rfl
      · exact absurd (List.mem_map.mpr ⟨(k', v), z, rfl⟩) h1
    · simp only [e, decide_false]
      rcases List.mem_cons.mp h with z | z
      · cases z; exact absurd rfl e
      · exact valueAt_mem h2 z
theorem keq_all {A : Around} {s : Shared} {κ : Type} [DecidableEq κ] (kb : List (κ × Value)) (hn : (kb.map (·.1)).Nodup) : ∀ ka : List (κ × Value), (∀ p ∈ ka, p ∈ kb) → PySem.W.KeqHits A s kb ka true
  | [], _ => .nil
  | (k, v) :: r, h => by
    have hv : valueAt kb k = some v := valueAt_mem hn (h (k, v) List.mem_cons_self)
    exact .hit (e := true) (b := true) hv (SeqAt.EqAt.same v) (keq_all kb hn r fun p hp => h p (List.mem_cons_of_mem _ hp))
section
variable {X : Cx} {K : PySem.W.Frag}
theorem k_eqU (hK : X.K = K) (hu : X.A.units + 100 < cLine) : OpR X (compareOp .Eq) (rEqU K false) := by
  subst hK
  intro pins s σ H x y u v Q I rx ry h
  rcases h with ⟨fx, fy, q⟩ | ⟨a, b, k, n, rfl, rfl, hn, e, q⟩ | ⟨a, kvs, rfl, rfl, ea, q⟩
  · exact (rcAt_V rx ry fx fy).1 _ _ _ _ ⟨.bl _, H, I, rfl, q⟩
  · cases rx; cases ry
    exact (eq_both I n).2 X.A a b k e (by omega) _ _ _ _ ⟨.bl _, H, I, rfl, q⟩
  · cases rx; cases ry
    obtain ⟨_, hs, vs, r, d⟩ := (show ObjOk X.prog X.w H s.heap a (.dK kvs) from I.hok a _ ea)
    obtain ⟨_, _, _, _, _, _, _, _, nd⟩ := id d
    refine PySem.W.keq_eq hs hs d d (by omega) (fun _ => keq_all vs nd vs fun _ h => h) ?_
    rw [beq_self_eq_true]
    exact ⟨.bl true, H, I, rfl, q⟩
theorem k_neU (hK : X.K = K) (hu : X.A.units + 100 < cLine) : OpR X (compareOp .NotEq) (rEqU K true) := by
  subst hK
  intro pins s σ H x y u v Q I rx ry h
  rcases h with ⟨fx, fy, q⟩ | ⟨a, b, k, n, rfl, rfl, hn, e, q⟩ | ⟨a, kvs, rfl, rfl, ea, q⟩
  · exact (rcAt_V rx ry fx fy).2 _ _ _ _ ⟨.bl _, H, I, rfl, q⟩
  · cases rx; cases ry
    exact ne_refs I e (by omega) _ _ _ _ ⟨.bl _, H, I, rfl, q⟩
  · cases rx; cases ry
    obtain ⟨_, hs, vs, r, d⟩ := (show ObjOk X.prog X.w H s.heap a (.dK kvs) from I.hok a _ ea)
    obtain ⟨_, _, _, _, _, _, _, _, nd⟩ := id d
    refine PySem.W.keq_ne hs hs d d (by omega) (fun _ => keq_all vs nd vs fun _ h => h) ?_
    rw [beq_self_eq_true]
    exact ⟨.bl false, H, I, rfl, q⟩
end
end L2
namespace L2
open PySem PySem.Spec PyProof.Rows
section
variable {X : Cx} {K : PySem.W.Frag}
def rIxU (K : PySem.W.Frag) : R2 := fun x y H Q => rIx K x y H Q ∨ ∃ a v, x = .ref a ∧ DGet H a y (some v) ∧ Q v H
theorem k_ixU (hK : X.K = K) (hu : X.A.units + 100 < cLine) : IxR X (rIxU K) := by
  subst hK
  refine IxR.or ix_seq ?_
  intro value slice pins s σ H x y v u Q I rx ry h hs
  obtain ⟨a, z, rfl, g, q⟩ := h
  cases rx
  exact tail_any (dict_typeIs I g) PySem.F.slot_dict_getitem.lookup (d_getItem (by omega) I g ry fun w' s3 I3 rw' => ⟨z, H, I3, rw', q⟩) hs
def rSetU : TSet := fun o i v H Q => rSetL o i v H Q ∨ ∃ a H', o = .ref a ∧ DPut H a i v H' ∧ Q H'
theorem k_setU (hu : X.A.units + 100 < cLine) : PSet X rSetU := by
  intro pins s σ H o i v ov iv u Q I ro ri rv h
  rcases h with h | ⟨a, H', rfl, g, q⟩
  · exact set_list pins s σ H o i v ov iv u Q I ro ri rv h
  · cases ro
    exact d_setItem (by omega) I g ri rv fun s' I' => ⟨H', I', q⟩
def rInU (K : PySem.W.Frag) (neg : Bool) : R2 := fun x y H Q => rIn K neg x y H Q ∨ (∃ a o, y = .ref a ∧ DGet H a x o ∧ Q (.bl (if neg then !o.isSome else o.isSome)) H) ∨
  (∃ p xs e n, y = .ref p ∧ SqL K H p xs ∧ n ≤ 60 ∧ (∀ z ∈ xs, EqD K H n z x (e z)) ∧ Q (.bl (if neg then !xs.any e else xs.any e)) H)
theorem in_gen {pins : List (Addr × Obj)} {σ : St} {H : Hp} {s : Shared} {xs : List V} {its : List Value} {x : V} {u : Value} {e : V → Bool} {n : Nat} {A : Around} (I : Inv X pins σ H s) (r : Vals xs its) (rx : RelV x u) (hu : A.units + n < cLine) (he : ∀ z ∈ xs, EqD X.K H n z x (e z)) :
    ∃ e' : Value → Bool, (∀ w, w ∈ its.toArray → SeqAt.EqAt A s w u (e' w)) ∧ its.toArray.any e' = xs.any e := by
  classical
  refine ⟨fun w => decide (∃ z ∈ xs, RelV z w ∧ e z = true), fun w hw => ?_, ?_⟩
  · have hw' : w ∈ its := by simpa using hw
    obtain ⟨j, hj⟩ := List.mem_iff_getElem?.mp hw'
    obtain ⟨z, hz, rz⟩ := vals_getU r hj
    have hm := List.mem_of_getElem? hz
    have eq : decide (∃ z ∈ xs, RelV z w ∧ e z = true) = e z := by
      cases q : e z with
      | true => exact decide_eq_true ⟨z, hm, rz, q⟩
      | false =>
        refine decide_eq_false fun ⟨z', _, rz', q'⟩ => ?_
        rw [RelV.inj rz' rz, q] at q'
        cases q'
    show SeqAt.EqAt A s w u (decide (∃ z ∈ xs, RelV z w ∧ e z = true))
    rw [eq]
    exact (eq_both I n).1 A z x (e z) w u (he z hm) rz rx hu
  · rw [Bool.eq_iff_iff, List.any_eq_true]
    constructor
    · intro h
      have h' : its.any (fun w => decide (∃ z ∈ xs, RelV z w ∧ e z = true)) = true := by simpa using h
      obtain ⟨w, _, q⟩ := List.any_eq_true.mp h'
      obtain ⟨z, hz, _, ez⟩ := of_decide_eq_true q
      exact ⟨z, hz, ez⟩
    · rintro ⟨z, hz, ez⟩
      obtain ⟨j, hj⟩ := List.mem_iff_getElem?.mp hz
      obtain ⟨w, hw, rz⟩ := r.get hj
      have : its.any (fun w => decide (∃ z ∈ xs, RelV z w ∧ e z = true)) = true := List.any_eq_true.mpr ⟨w, List.mem_of_getElem? hw, decide_eq_true ⟨z, hz, rz, ez⟩⟩
      simpa using this
theorem k_inU (hK : X.K = K) (hu : X.A.units + 100 < cLine) : OpR X (compareOp .In) (rInU K false) := by
  subst hK
  intro pins s σ H x y u v Q I rx ry h
  rcases h with h | ⟨a, o, rfl, g, q⟩ | ⟨p, xs, e, n, rfl, hl, hn, he, q⟩
  · exact op_in_seq pins s σ H x y u v Q I rx ry h
  · cases ry
    exact d_in (by omega) I g rx fun s' I' => ⟨.bl _, H, I', rfl, q⟩
  · cases ry
    obtain ⟨its, r, pl, hz⟩ := I.list hl
    obtain ⟨e', h1, h2⟩ := in_gen (A := X.A.in1) I r rx (by show X.A.units + 1 + n < cLine; omega) he
    exact SeqAt.in_listAt e' pl.isList h1 (by rw [h2]; exact ⟨.bl _, H, I, rfl, q⟩)
def rListU (K : PySem.W.Frag) : List V → Hp → VK → Prop := fun xs H Q => (∃ p ys, xs = [.ref p] ∧ (SqL K H p ys ∨ SqT K H p ys) ∧ ∀ l, H l = none → Q (.ref l) (upd H l (.lst ys))) ∨
  (∃ p kvs, xs = [.ref p] ∧ H p = some (.dK kvs) ∧ ∀ l, H l = none → Q (.ref l) (upd H l (.lst (kvs.map fun kv => kV kv.1)))) ∨
  (∃ x, xs = [.str x] ∧ x.length ≤ 1000 ∧ ∀ l, H l = none → Q (.ref l) (upd H l (.lst (x.cps.toList.map fun c => .str ⟨#[c]⟩))))
theorem paired_get {α β : Type} {F : α → β → Prop} : ∀ {l : List α} {m : List β} {j : Nat} {a : α}, Paired F l m → l[j]? = some a → ∃ b, m[j]? = some b ∧ F a b
  | _, _, _, _, .nil, e => by simp at e
  | _, _, 0, _, .cons r _, e => by simp at e; subst e; exact ⟨_, rfl, r⟩
  | _, _, j + 1, a, .cons _ t, e => by
    obtain ⟨b, h1, h2⟩ := paired_get (j := j) (a := a) t (by simpa using e)
    exact ⟨b, by simpa using h1, h2⟩
theorem vals_items : ∀ {ys : List V} {us : List Value}, ys.length = us.length → (∀ (j : Nat) y u, ys[j]? = some y → us[j]? = some u → RelV y u) → Vals ys us
  | [], [], _, _ => .nil
  | [], _ :: _, h, _ => by cases h
  | _ :: _, [], h, _ => by cases h
  | y :: ys, u :: us, h, q => .cons (q 0 y u rfl rfl) (vals_items (Nat.succ.inj h) fun j y' u' h1 h2 => q (j + 1) y' u' (by simpa using h1) (by simpa using h2))
theorem k_listU (hK : X.K = K) (hc : X.calm = true) : CallR X (.type "list") (rListU K) := by
  subst hK
  intro pins s σ H xs us Q I r h
  rcases h with h | ⟨p, kvs, rfl, ea, q⟩ | ⟨x, rfl, hx, q⟩
  · exact call_list_of pins s σ H xs us Q I r h
  · obtain ⟨u, rfl, ru⟩ := vals1 r
    cases ru
    obtain ⟨hz, hs, vs, rv, d⟩ := (show ObjOk X.prog X.w H s.heap p (.dK kvs) from I.hok p _ ea)
    obtain ⟨ep, hat⟩ := d.dictAt
    have hl : kvs.length = vs.length := rv.length
    refine PySem.W.kdl_call (PySem.W.kdl_dict (knd := mixKind X.prog X.w) (kvs := vs) (ep := ep) hs) (I.ok.hd hc) hat (by rw [← hl]; exact hz) fun h' tk acc' c' kp e it => ?_
    obtain ⟨i1, i2⟩ := it
    have hv : Vals (kvs.map fun kv => kV kv.1) acc'.toList := by
      refine vals_items (by rw [List.length_map, hl, ← i1]; simp) fun j y u h1 h2 => ?_
      obtain ⟨k, x, h3, h4⟩ := i2 j u (by simpa using h2)
      rw [List.getElem?_map] at h1
      cases q1 : kvs[j]? with
      | none => rw [q1] at h1; cases h1
      | some kv =>
        rw [q1] at h1
        cases h1
        obtain ⟨q2, h5, h6, h7⟩ := paired_get rv q1
        rw [h3] at h5
        cases h5
        have e1 : kv.1 = k := h6
        show RelV (kV kv.1) u
        rw [e1]
        rcases keyIs_shape (show keyIs k u = true from h4) with ⟨i, t, rfl, rfl⟩ | ⟨z, t, rfl, rfl⟩
        · exact ⟨t, rfl⟩
        · exact ⟨t, rfl⟩
    refine ⟨.ref s.heap.objs.size, _, I.laid (t' := tk) kp (Nat.le_refl _) (show ObjOk X.prog X.w _ h' _ (.lst (kvs.map fun kv => kV kv.1)) from ⟨by rw [List.length_map]; exact hz, acc'.toList, c', hv, by simpa using e⟩), rfl, q _ (I.hok.fresh (Nat.le_refl _))⟩
  · obtain ⟨u, rfl, t, rfl⟩ := vals1 r
    have hsz : x.cps.size ≤ sizeLine := Nat.le_of_lt (small1000 hx)
    refine call_list_str (I.ok.hd hc) x t (fun h' tk acc' c' kp e it => ?_) hsz
    obtain ⟨i1, i2⟩ := it
    have hv : Vals (x.cps.toList.map fun c => V.str ⟨#[c]⟩) acc'.toList := by
      refine vals_items (by rw [List.length_map]; simp [i1]) fun j y u h1 h2 => ?_
      obtain ⟨c, t', h3, rfl⟩ := i2 j u (by simpa using h2)
      rw [List.getElem?_map] at h1
      have h3' : x.cps.toList[j]? = some c := by simpa using h3
      rw [h3'] at h1
      cases h1
      exact ⟨t', rfl⟩
    refine ⟨.ref s.heap.objs.size, _, I.laid (t' := tk) kp (Nat.le_refl _) (show ObjOk X.prog X.w _ h' _ (.lst (x.cps.toList.map fun c => V.str ⟨#[c]⟩)) from ⟨by rw [List.length_map]; simpa using hsz, acc'.toList, c', hv, by simpa using e⟩), rfl, q _ (I.hok.fresh (Nat.le_refl _))⟩
end
structure CMethOk (P : Program) (w : World) (K : PySem.W.Frag) (mg : Str → Option Value) (base : Heap) (CX : CXT) (k : Nat) (C : Addr) (x m : Str) (ps : List Str) (sp : Sp) : Prop where
  ex : ∃ f fd, FnOk P w K mg base CX k f fd ps sp ∧ CMeth K C m f ∧ Binds K fd ps []
  mg_ : mg x = some (.ref C)
section
variable {X : Cx} {k : Nat} {C : Addr} {ps : List Str} {sp : Sp} {x m : Str} {p pos apos : Pos} {e : Expr} {es : List Expr} {t : TA}
theorem pe_clsmQ {pl : Sem Bool} (D : CMethOk X.prog X.w X.K X.mg X.base CX0 k C x m ps sp) (hr : Room k X.A) (ha : PA X (e :: es) t) (hg : Gl X x := by rfl) (hdb : (x == ("__debug__" : Str)) = false := by decide)
    (hst : starEach (e :: es) X.env = (false, eval e X.env) :: starEach es X.env := by rfl) (hpl : (backTo pos (starEach es X.env)).any (·.1) = false := by rfl)
    (ht : eval (.Call (.Attribute (.Name x p) m apos) (e :: es) [] pos) X.env = (do
      let ov ← eval (.Name x p) X.env
      standAt apos.atName
      let (f, first) ← holding [ov] (getMethod ov m pl)
      callWith pos f first (backTo pos (starEach (e :: es) X.env)) (backToKw pos (keywordEach [] X.env))) := by rfl) :
    PE X (.Call (.Attribute (.Name x p) m apos) (e :: es) [] pos) (tCall sp [] E0 t) := by
  obtain ⟨f, fd, F, M, hb⟩ := D.ex
  exact pe_clsm (pl := pl) M F hr hg D.mg_ hb pass0 ha hdb hst hpl ht
end
end L2
namespace L2
open PySem PySem.Spec PyProof.Rows
theorem own_eq_same {prog : Program} {w : World} {A : Around} {E : Value → Shared → Prop} {s : Shared} {K : PySem.W.Frag} {x C : Addr} {ox : Obj} {od : Option Obj} {Q : Value → Shared → Prop} (hu : A.units < cLine) (X : K.In s.heap) (I : PySem.W.InstAt s.heap x ox C od)
    (hs : PySem.W.findIn K (.ref C) "__eq__" = some (some (.builtin "object.__eq__"))) (ho : PySem.W.mroIn K C (.type "object") = some true) (h : Q (.bool true) s) : wpAny (model prog w) A (richCompare .Eq (.ref x) (.ref x)) Q E s := by
  have call1 : ∀ {A' : Around} {Q' : Value → Shared → Prop}, Q' (.bool true) s → wpAny (model prog w) A' (call (.builtin "object.__eq__") [.ref x, .ref x]) Q' E s := fun {A' Q'} q => by
    refine wpAny_call (codeAny_call_builtin PySem.F.slot_object_eq.plain PySem.F.entry_object_eq (@PySem.W.check_slot (model prog w) _ _ s "object.__eq__" "object" "__eq__" (.ref x) [.ref x] [] _ (by decide +kernel) (by decide +kernel) (I.type.andThen (PySem.W.looks_mroIn X ho)) (PySem.F.args_object_eq_2 _ _) ?_))
    refine wpAny_bind (wpAny_pure (wpAny_bind (wpAny_isSame_ref_self ?_)))
    exact wpAny_pure q
  have one : wpAny (model prog w) A (tryCompare (.ref x) "__eq__" (.ref x)) (fun r s' => ∃ v, r = some v ∧ Q v s') E s := by
    unfold tryCompare
    refine wpAny_bind ?_
    simp only [callSpecialIfBound?, bindSpecialIfBound?]
    refine wpAny_holding (wpAny_bind (wpAny_bind (wpAny_bind (I.type.here ((PySem.W.looks_findIn X hs).here ?_)))))
    refine wpAny_bind (wpAny_askSetting (wpAny_ite ?_))
    have b := PySem.F.slot_object_eq.bind (.ref x)
    have fin : wpAny (model prog w) A (call (.builtin "object.__eq__") ([.ref x] ++ [.ref x]) >>= fun v => pure (some v)) (fun r s' => wpAny (model prog w) A (match r with | some .notImplemented | none => pure none | some v => pure (some v)) (fun r s' => ∃ v, r = some v ∧ Q v s') E s') E s :=
      wpAny_bind (call1 (wpAny_pure (wpAny_pure ⟨_, rfl, h⟩)))
    split
    · exact wpAny_bind (wpAny_of_eq b (wpAny_pure fin))
    · exact wpAny_tryCatch (wpAny_bind (wpAny_of_eq b (wpAny_pure fin)))
  unfold richCompare
  simp only [oneThing_ref]
  refine wpAny_holding (wpAny_bind (wpAny_cRoomFor hu ?_))
  refine wpAny_bind (I.type.here (wpAny_bind (I.type.here ?_)))
  rw [if_neg (by simp)]
  refine wpAny_bind (wpAny_pure ?_)
  simp only [Bool.false_eq_true, if_false]
  refine wpAny_bind (wpAny_mono one (fun r s' z => ?_) fun _ _ e => e)
  obtain ⟨v, rfl, hq⟩ := z
  exact wpAny_pure hq
structure OEq (K : PySem.W.Frag) (C : Addr) : Prop where
  eq : PySem.W.findIn K (.ref C) "__eq__" = some (some (.builtin "object.__eq__"))
  ob : PySem.W.mroIn K C (.type "object") = some true
def rEqW (K : PySem.W.Frag) : R2 := fun x y H Q => rEqU K false x y H Q ∨ ∃ a C dx fs, x = .ref a ∧ y = .ref a ∧ H a = some (.ins C dx fs) ∧ OEq K C ∧ Q (.bl true) H
theorem k_eqW {X : Cx} {K : PySem.W.Frag} (hK : X.K = K) (hu : X.A.units + 100 < cLine) : OpR X (compareOp .Eq) (rEqW K) := by
  subst hK
  intro pins s σ H x y u v Q I rx ry h
  rcases h with h | ⟨a, C, dx, fs, rfl, rfl, ea, oe, q⟩
  · exact k_eqU rfl hu pins s σ H x y u v Q I rx ry h
  · cases rx; cases ry
    obtain ⟨mA, O, _⟩ := ins_get I.hok ea
    obtain ⟨od, J, _⟩ := O.look
    exact own_eq_same (by omega) I.kIn J oe.eq oe.ob ⟨.bl true, H, I, rfl, q⟩
end L2
namespace L2
open PySem PySem.Spec PyProof.Rows
theorem mtR_append {X : Cx} : MtR X "list.append" rAppend := mt_append
theorem boot_ValueError : bootBuiltins "ValueError" = some (.type "ValueError") := by decide +kernel
section
variable {D : Ends} {σ : St} {H : Hp} {Q : VK} {t u : TS} {te ta tb tc : TE} {tas : TA} {K : PySem.W.Frag} {sp : Sp} {E : XK} {EK : St → XK} {C : Addr} {f m : Str}
theorem vFldU (h : ta σ H fun x H1 => (∃ a C dx fs v, x = .ref a ∧ H1 a = some (.ins C dx fs) ∧ Cls K C ∧ NoAttr K C f ∧ fs.lookup f = some v ∧ Q v H1) ∨
  (∃ a C dx fs v, x = .ref a ∧ IsX H1 a C (some dx) ∧ XAt K C ∧ NoAttr K C f ∧ H1 dx = some (.xd fs) ∧ fs.lookup f = some v ∧ Q v H1)) : tFldU K ta f σ H Q := h
theorem vSFldU (h : te σ H fun y H1 => ta σ H1 fun x H2 => (∃ a C dx fs, x = .ref a ∧ H2 a = some (.ins C dx fs) ∧ Cls K C ∧ NoAttr K C f ∧ fs.length < 1000 ∧ D.nx σ (upd H2 a (.ins C dx (putF f y fs)))) ∨
  (∃ a C, x = .ref a ∧ H2 a = some (XN a C none) ∧ XAt K C ∧ NoAttr K C f ∧ ∀ dx, H2 dx = none → D.nx σ (upd (upd H2 dx (.xd [(f, y)])) a (XN a C (some dx))))) : sFldU K ta te f D σ H := h
theorem vXMake (h : tas σ H fun vs H1 => vs.length ≤ 1000 ∧ ∀ x, H1 x = none → sp (.ref x :: vs) (upd H1 x (XN x C none)) (fun v H2 => v = .non ∧ Q (.ref x) H2) E) : tXMake C sp E tas σ H Q := h
theorem vMake (h : tas σ H fun vs H1 => ∀ x dx, H1 x = none → H1 dx = none → dx ≠ x → sp (.ref x :: (vs ++ [])) (upd (upd H1 dx (.own x)) x (.ins C dx [])) (fun v H2 => v = .non ∧ Q (.ref x) H2) E) : tMake C sp [] E tas σ H Q := h
theorem vMeth (h : ta σ H fun x H1 => ∃ a dx fs, x = .ref a ∧ H1 a = some (.ins C dx fs) ∧ fs.lookup m = none ∧ tas σ H1 fun vs H2 => sp (x :: (vs ++ [])) H2 Q E) : tMeth C m sp [] E ta tas σ H Q := h
theorem vVinit (h : tas σ H fun vs H1 => ∃ a C y, vs = [.ref a, y] ∧ H1 a = some (XN a C none) ∧ XAt K C ∧ Q .non H1) : tVinit K tas σ H Q := h
theorem vCallS (h : tas σ H fun vs H1 => sp vs H1 Q (EK σ)) : tCallS sp EK tas σ H Q := h
theorem vMethS (h : ta σ H fun x H1 => ∃ a dx fs, x = .ref a ∧ H1 a = some (.ins C dx fs) ∧ fs.lookup m = none ∧ tas σ H1 fun vs H2 => sp (x :: vs) H2 Q (EK σ)) : tMethS C m sp EK ta tas σ H Q := h
theorem vMakeS (h : tas σ H fun vs H1 => ∀ x dx, H1 x = none → H1 dx = none → dx ≠ x → sp (.ref x :: vs) (upd (upd H1 dx (.own x)) x (.ins C dx [])) (fun v H2 => v = .non ∧ Q (.ref x) H2) (EK σ)) : tMakeS C sp EK tas σ H Q := h
theorem vRaise (h : te σ H fun x H1 => ∃ a C dx, x = .ref a ∧ H1 a = some (XN a C dx) ∧ XAt K C ∧ EK σ (.ref C) dx (upd H1 a (XO a C dx))) : tRaise K EK te D σ H := h
theorem vIsiU {x y : V} {t cv : Value} {b : Bool} (ty : TyX K H x t) (hy : clsVal y = some cv) (hb : PySem.W.kitOne K t cv = some b) (h : Q (.bl b) H) : rIsiU K [x, y] H Q := ⟨x, y, t, cv, b, rfl, ty, hy, hb, h⟩
end
end L2
namespace L2
open PySem PySem.Spec PyProof.Rows
section
variable {prog : Program} {w : World} {A : Around} {E : Value → Shared → Prop} {s : Shared}
theorem none_dict {a : Addr} {Q : Value → Shared → Prop} (hT : s.TypeIs (.ref a) "dict") (hu : A.units < cLine) (h : Q (.bool false) s) : wpAny (model prog w) A (richCompare .Eq .none (.ref a)) Q E s := by
  refine SeqAt.rc_eq_decline_or (k := false) rfl hT (by decide) PySem.F.sub_dict_NoneType PySem.F.slot_NoneType_eq PySem.F.slot_dict_eq_refl
    (fun _ hq => call_gives PySem.F.slot_NoneType_eq rfl PySem.F.entry_NoneType_eq (PySem.F.args_NoneType_eq_2 _ _) (SeqAt.NoneType___eq___none_ref_0 a) hq) (fun Q' hq => ?_) (fun _ hq => wpAny_of_eq (rfl : isSame .none (.ref a) = pure false) hq) (.inr hu) h
  refine wpAny_call_entry PySem.F.slot_dict_eq_refl hT PySem.F.entry_dict_eq ?_ (PySem.F.args_dict_eq_2 _ _)
  show wpAny _ _ (Builtin.Dict.dictSlotArgs "__eq__" ⟨[.ref a, .none], []⟩ >>= _) _ _ s
  refine wpAny_bind ?_
  unfold Builtin.Dict.dictSlotArgs
  refine wpAny_bind (wpAny_notOrdered_dict hT ?_)
  show wpAny _ _ (pure (Value.ref a, Value.none)) _ _ s
  refine wpAny_pure ?_
  refine wpAny_bind (wpAny_isInstance (T := "NoneType") (b := false) rfl PySem.F.sub_NoneType_dict ?_)
  simp only [Bool.not_false, if_true]
  exact wpAny_bind (wpAny_rule (wpAny_pure ⟨_, rfl, hq⟩))
theorem none_own {K : PySem.W.Frag} {x C : Addr} {ox : Obj} {od : Option Obj} {Q : Value → Shared → Prop} (hu : A.units < cLine) (X : K.In s.heap) (I : PySem.W.InstAt s.heap x ox C od) (oe : OEq K C) (hn : PySem.W.mroIn K C (.type "NoneType") = some false)
    (h : Q (.bool false) s) : wpAny (model prog w) A (richCompare .Eq .none (.ref x)) Q E s := by
  have t1 : wpAny (model prog w) A (tryCompare .none "__eq__" (.ref x)) (fun r s' => r = none ∧ s' = s) E s := by
    unfold tryCompare
    refine wpAny_bind ?_
    simp only [callSpecialIfBound?, bindSpecialIfBound?]
    refine wpAny_holding (wpAny_bind (wpAny_bind ?_))
    refine wpAny_bind (wpAny_of_eq (rfl : typeOf .none = pure (.type "NoneType")) ?_)
    refine wpAny_of_eq PySem.F.slot_NoneType_eq.lookup ?_
    refine wpAny_bind (wpAny_askSetting (wpAny_ite ?_))
    have fin : wpAny (model prog w) A (call (.builtin "NoneType.__eq__") ([.none] ++ [.ref x]) >>= fun v => pure (some v)) (fun r s' => wpAny (model prog w) A (match r with | some .notImplemented | none => pure none | some v => pure (some v)) (fun r s' => r = none ∧ s' = s) E s') E s :=
      wpAny_bind (call_gives PySem.F.slot_NoneType_eq rfl PySem.F.entry_NoneType_eq (PySem.F.args_NoneType_eq_2 _ _) (SeqAt.NoneType___eq___none_ref_0 x) (wpAny_pure (wpAny_pure ⟨rfl, rfl⟩)))
    split
    · exact wpAny_bind (wpAny_of_eq (PySem.F.slot_NoneType_eq.bind .none) (wpAny_pure fin))
    · exact wpAny_tryCatch (wpAny_bind (wpAny_of_eq (PySem.F.slot_NoneType_eq.bind .none) (wpAny_pure fin)))
  have t2 : wpAny (model prog w) A (tryCompare (.ref x) "__eq__" .none) (fun r s' => r = none ∧ s' = s) E s := by
    unfold tryCompare
    refine wpAny_bind ?_
    simp only [callSpecialIfBound?, bindSpecialIfBound?]
    refine wpAny_holding (wpAny_bind (wpAny_bind (wpAny_bind (I.type.here ((PySem.W.looks_findIn X oe.eq).here ?_)))))
    refine wpAny_bind (wpAny_askSetting (wpAny_ite ?_))
    have b := PySem.F.slot_object_eq.bind (.ref x)
    have c : ∀ {Q' : Value → Shared → Prop}, Q' .notImplemented s → wpAny (model prog w) A (call (.builtin "object.__eq__") [.ref x, .none]) Q' E s := fun {Q'} q => by
      refine wpAny_call (codeAny_call_builtin PySem.F.slot_object_eq.plain PySem.F.entry_object_eq (@PySem.W.check_slot (model prog w) _ _ s "object.__eq__" "object" "__eq__" (.ref x) [.none] [] _ (by decide +kernel) (by decide +kernel) (I.type.andThen (PySem.W.looks_mroIn X oe.ob)) (PySem.F.args_object_eq_2 _ _) ?_))
      refine wpAny_bind (wpAny_pure (wpAny_bind (wpAny_of_eq (rfl : isSame (.ref x) .none = pure false) ?_)))
      exact wpAny_pure q
    have fin : wpAny (model prog w) A (call (.builtin "object.__eq__") ([.ref x] ++ [.none]) >>= fun v => pure (some v)) (fun r s' => wpAny (model prog w) A (match r with | some .notImplemented | none => pure none | some v => pure (some v)) (fun r s' => r = none ∧ s' = s) E s') E s :=
      wpAny_bind (c (wpAny_pure (wpAny_pure ⟨rfl, rfl⟩)))
    split
    · exact wpAny_bind (wpAny_of_eq b (wpAny_pure fin))
    · exact wpAny_tryCatch (wpAny_bind (wpAny_of_eq b (wpAny_pure fin)))
  unfold richCompare
  refine wpAny_holding (wpAny_bind (wpAny_cRoomFor hu ?_))
  show wpAny _ _ (typeOf .none >>= _) _ _ _
  refine wpAny_bind (wpAny_of_eq (rfl : typeOf .none = pure (.type "NoneType")) (wpAny_bind (I.type.here ?_)))
  rw [if_pos (by rfl)]
  refine wpAny_bind ((PySem.W.looks_mroIn X hn).here ?_)
  simp only [Bool.false_eq_true, if_false]
  refine wpAny_bind (wpAny_mono t1 (fun r s' z => ?_) fun _ _ e => e)
  obtain ⟨rfl, rfl⟩ := z
  simp only [Bool.not_false, if_true]
  refine wpAny_bind (wpAny_mono t2 (fun r s' z => ?_) fun _ _ e => e)
  obtain ⟨rfl, rfl⟩ := z
  refine wpAny_bind (wpAny_rule (wpAny_bind (wpAny_of_eq (rfl : isSame .none (.ref x) = pure false) (wpAny_pure h))))
end
def rNoneRef (K : PySem.W.Frag) : R2 := fun x y H Q => ∃ a, x = .non ∧ y = .ref a ∧ ((∃ xs, SqL K H a xs ∨ SqT K H a xs) ∨ (∃ kvs, H a = some (.dK kvs)) ∨ ∃ C dx fs, H a = some (.ins C dx fs) ∧ OEq K C ∧ PySem.W.mroIn K C (.type "NoneType") = some false) ∧ Q (.bl false) H
def rEqZ (K : PySem.W.Frag) : R2 := fun x y H Q => rEqW K x y H Q ∨ rNoneRef K x y H Q
theorem k_eqZ {X : Cx} {K : PySem.W.Frag} (hK : X.K = K) (hu : X.A.units + 100 < cLine) : OpR X (compareOp .Eq) (rEqZ K) := by
  intro pins s σ H x y u v Q I rx ry h
  rcases h with h | ⟨a, rfl, rfl, h, q⟩
  · exact k_eqW hK hu pins s σ H x y u v Q I rx ry h
  · subst hK
    cases rx; cases ry
    have fin : EP X pins σ Q (.bool false) s := ⟨.bl false, H, I, rfl, q⟩
    rcases h with ⟨xs, hl | hl⟩ | ⟨kvs, ea⟩ | ⟨C, dx, fs, ea, oe, hn⟩
    · obtain ⟨its, r, pl, _⟩ := I.list hl
      exact SeqAt.RcAt.none_list pl.isList (by omega) _ _ _ _ fin
    · obtain ⟨its, r, pl, _⟩ := I.tuple hl
      exact SeqAt.RcAt.none_tuple pl (by omega) _ _ _ _ fin
    · obtain ⟨_, _, vs, _, d⟩ := (show ObjOk X.prog X.w H s.heap a (.dK kvs) from I.hok a _ ea)
      exact none_dict d.typeIs (by omega) fin
    · obtain ⟨mA, O, _⟩ := ins_get I.hok ea
      obtain ⟨od, J, _⟩ := O.look
      exact none_own (by omega) I.kIn J oe hn fin
end L2
namespace L2
open PySem PySem.Spec PyProof.Rows
def XL (K : PySem.W.Frag) (C : Addr) (bm : List Value) : Prop := ∃ nm qn N bs hdct sn sub ab col dd k0 k1 k2 k3 k5, K.lookup C = some (excClassObj nm qn C N bs bm hdct sn sub ab col dd k0 k1 k2 k3 k5 "ValueError.__new__")
section
variable {K : PySem.W.Frag} {C D : Addr} {bm bn : List Value}
theorem XL.xat (x : XL K C bm) (hb : xMro bm = true)
    (ga : PySem.W.findIn K (.ref C) "__getattribute__" = some (some (.builtin "BaseException.__getattribute__"))) (gn : PySem.W.findIn K (.ref C) "__getattr__" = some none)
    (bx : PySem.W.mroIn K C (.type "BaseException") = some true) (ob : PySem.W.mroIn K C (.type "object") = some true) (hd : PySem.W.hasDictIn K C = true) (cl : PySem.W.findIn K (.ref C) "__class__" = some (some (.builtin "object.__class__")))
    (cg : PySem.W.specialIn K (.builtin "object.__class__") "__get__" = some (some (.builtin "getset_descriptor.__get__"))) (ct : PySem.W.takesIn K (.builtin "object.__class__") = some true)
    (sa : PySem.W.findIn K (.ref C) "__setattr__" = some (some (.builtin "object.__setattr__"))) : XAt K C := by
  obtain ⟨nm, qn, N, bs, hdct, sn, sub, ab, col, dd, k0, k1, k2, k3, k5, e⟩ := x
  refine ⟨ga, gn, bx, ob, hd, cl, cg, ct, sa, ?_, ?_⟩
  · unfold PySem.W.clsIn
    rw [e]
    exact hb
  · unfold xcIn
    rw [e]
    simp [hb]
theorem XL.kit (x : XL K C bm) (y : XL K D bn) : PySem.W.kitOne K (.ref C) (.ref D) = some ((Value.ref C :: bm).contains (.ref D)) := by
  obtain ⟨nm, qn, N, bs, hdct, sn, sub, ab, col, dd, k0, k1, k2, k3, k5, e⟩ := x
  obtain ⟨nm', qn', N', bs', hdct', sn', sub', ab', col', dd', k0', k1', k2', k3', k5', e'⟩ := y
  unfold PySem.W.kitOne PySem.W.kitCls
  split
  · rename_i z
    have z : C = D := Value.ref.inj (beq_iff_eq.mp z)
    subst z
    simp
  · dsimp only
    have q1 : (PySem.W.clsIn K D).isSome = true := by unfold PySem.W.clsIn; rw [e']; rfl
    have q2 : (PySem.W.typeIn K (.ref D) == some (.type "type")) = true := by show ((K.lookup D).map (·.cls) == _) = true; rw [e']; rfl
    rw [if_pos (by rw [q1, q2]; rfl)]
    unfold PySem.W.subIn PySem.W.mroIn PySem.W.clsIn
    dsimp only
    rw [e]
    rfl
theorem XL.kitT (x : XL K C bm) {T : String} (h : PySem.W.kitMeta T = true) : PySem.W.kitOne K (.ref C) (.type T) = some (bm.contains (.type T)) := by
  obtain ⟨nm, qn, N, bs, hdct, sn, sub, ab, col, dd, k0, k1, k2, k3, k5, e⟩ := x
  unfold PySem.W.kitOne PySem.W.kitCls
  split
  · rename_i z
    exact absurd (beq_iff_eq.mp z) nofun
  · dsimp only
    rw [if_pos h]
    unfold PySem.W.subIn PySem.W.mroIn PySem.W.clsIn
    dsimp only
    rw [e]
    show some ((Value.ref C :: bm).contains _) = _
    rw [List.contains_cons]
    rfl
abbrev veMro : List Value := [.type "ValueError", .type "Exception", .type "BaseException", .type "object"]
theorem xmro_ve : xMro veMro = true := by decide
theorem xmro_on {c : Addr} : xMro (.ref c :: veMro) = true := xmro_ve
theorem kits {K : PySem.W.Frag} {cs : List Addr} {c : Addr} (hn : (cs ++ [c]).Nodup) (h : ∀ i, i < cs.length → XL K (cs.getD i c) (.ref c :: veMro)) (hc : XL K c veMro) :
    (∀ i j, i < cs.length → j < cs.length → PySem.W.kitOne K (.ref (cs.getD i c)) (.ref (cs.getD j c)) = some (decide (i = j))) ∧ (∀ i, i < cs.length + 1 → PySem.W.kitOne K (.ref (cs.getD i c)) (.ref c) = some true) ∧
    (∀ i, i < cs.length + 1 → PySem.W.kitOne K (.ref (cs.getD i c)) (.type "ValueError") = some true) ∧ ∀ j, j < cs.length → PySem.W.kitOne K (.ref c) (.ref (cs.getD j c)) = some false := by
  have gd : ∀ (j : Nat) (hj : j < cs.length), cs.getD j c = cs[j] := fun j hj => by simp [List.getD, hj]
  have hl : cs.getD cs.length c = c := by simp
  have hne : ∀ j, j < cs.length → c ≠ cs.getD j c := fun j hj e => by
    have h2 := (List.nodup_append.mp hn).2.2 (cs.getD j c) (by rw [gd j hj]; exact List.getElem_mem hj) c (by simp)
    exact h2 e.symm
  refine ⟨fun i j hi hj => ?_, fun i hi => ?_, fun i hi => ?_, fun j hj => ?_⟩
  · rw [(h i hi).kit (h j hj)]
    congr 1
    rw [List.contains_cons, List.contains_cons]
    have e1 : ((Value.ref (cs.getD j c)) == Value.ref c) = false := beq_eq_false_iff_ne.mpr fun e => hne j hj (Value.ref.inj e).symm
    have e2 : List.contains veMro (Value.ref (cs.getD j c)) = false := rfl
    rw [e1, e2]
    by_cases hij : i = j
    · subst hij; simp
    · have e3 : ((Value.ref (cs.getD j c)) == Value.ref (cs.getD i c)) = false := beq_eq_false_iff_ne.mpr fun e => by
        have e := Value.ref.inj e
        rw [gd i hi, gd j hj] at e
        have hp := List.pairwise_iff_getElem.mp (List.nodup_append.mp hn).1
        rcases Nat.lt_or_gt_of_ne hij with q | q
        · exact hp i j hi hj q e.symm
        · exact hp j i hj hi q e
      rw [e3]; simp [hij]
  · rcases Nat.lt_or_ge i cs.length with hi' | hi'
    · rw [(h i hi').kit hc, List.contains_cons, List.contains_cons]; simp
    · have : i = cs.length := by omega
      subst this
      rw [hl, hc.kit hc]; simp
  · rcases Nat.lt_or_ge i cs.length with hi' | hi'
    · rw [(h i hi').kitT (by decide +kernel)]; rfl
    · have : i = cs.length := by omega
      subst this
      rw [hl, hc.kitT (by decide +kernel)]; rfl
  · rw [hc.kit (h j hj), List.contains_cons]
    have e1 : ((Value.ref (cs.getD j c)) == Value.ref c) = false := beq_eq_false_iff_ne.mpr fun e => hne j hj (Value.ref.inj e).symm
    rw [e1]; rfl
end
end L2
namespace HT
open PySem PySem.Spec PyProof.Rows
section
variable {prog : Program} {w : World} {A : Around} {E : Value → Shared → Prop} {s : Shared}
end
end HT
namespace L2
open PySem PySem.Spec PyProof.Rows
def tRev (K : PySem.W.Frag) (te : TE) (ts : TO) : TE := fun σ H Q => te σ H fun x H1 => ts σ H1 fun o H2 => o = some (-1) ∧ ∃ a y z, x = .ref a ∧ SqT K H2 a [y, z] ∧ ∀ p, H2 p = none → Q (.ref p) (upd H2 p (.tup [z, y]))
theorem vRev {K : PySem.W.Frag} {te : TE} {ts : TO} {σ : St} {H : Hp} {Q : VK} (h : te σ H fun x H1 => ts σ H1 fun o H2 => o = some (-1) ∧ ∃ a y z, x = .ref a ∧ SqT K H2 a [y, z] ∧ ∀ p, H2 p = none → Q (.ref p) (upd H2 p (.tup [z, y]))) : tRev K te ts σ H Q := h
section
variable {X : Cx} {K : PySem.W.Frag} {e st : Expr} {te : TE} {ts : TO} {p2 pos : Pos}
def rTupleU (K : PySem.W.Frag) : List V → Hp → VK → Prop := fun xs H Q => ∃ p ys, xs = [.ref p] ∧ ((SqL K H p ys ∧ ∀ l, H l = none → Q (.ref l) (upd H l (.tup ys))) ∨ (SqT K H p ys ∧ Q (.ref p) H))
theorem k_tupleU (hK : X.K = K) : CallR X (.type "tuple") (rTupleU K) := by subst hK; exact call_tuple_of
end
end L2
namespace L2
open PySem PySem.Spec PyProof.Rows
theorem Inv.turnedL {X : Cx} {pins : List (Addr × Obj)} {σ : St} {H : Hp} {s : Shared} {h' : Heap} {t' : Nat} {fp : List Addr} (I : Inv X pins σ H s) (k : ∀ b o, b ∉ fp → s.heap.get? b = some o → h'.get? b = some o) (hf : ∀ b ∈ fp, FpOk X pins H b) : Inv X pins σ H { s with heap := h', toks := t' } := by
  have nit : ∀ b u, H b = some u → b ∉ fp := fun b u e z => by rw [(hf b z).1] at e; cases e
  have hL : X.env.locals ∉ fp := fun z => (hf _ z).2.1 rfl
  refine I.step (g' := s.gens) (d' := s.drawn) (ch := fp) (fun b hb => ?_) (fun b o _ _ hc e _ => k b o hc e) (fun b o _ _ hc e _ => ⟨o.slots, k b o hc e⟩) (fun _ _ _ _ n => n)
    (fun b o hc e => ⟨o, k b o hc e⟩) (fun _ _ e => e) (fun _ _ _ e => e) (fun b ps e => ⟨#[], by rw [e]; simp⟩) (fun m hm => ?_) (fun b u e => ?_) I.bare
  · obtain ⟨f0, f1, f2, f3, f4, f5⟩ := hf b hb
    exact ⟨f3, f1, f4, f5⟩
  · obtain ⟨o, es, ep, ho, r⟩ := hm
    exact ⟨o, es, ep, k _ o hL ho, r⟩
  · refine (I.hok b u e).stay (fun c v hc q => k c v ?_ q) (fun _ q => q) fun _ _ q => q
    rcases hc with z | z
    · rw [z]; exact nit b u e
    · exact nit c _ z
def Ite (K : PySem.W.Frag) (a : Addr) : It :=
  ⟨fun i H => ∃ xs x, SqL K H a xs ∧ xs[i]? = some x, fun i H x H' => ∃ t y, x = .ref t ∧ H t = none ∧ H' = upd H t (.tup [.int i, y]) ∧ ∀ xs, SqL K H a xs → xs[i]? = some y, fun i H => ∃ xs, SqL K H a xs ∧ xs.length ≤ i⟩
theorem push_some {h : Heap} {o v : Obj} {b : Addr} (e : (h.push o).get? b = some v) (ne : b ≠ h.objs.size) : h.get? b = some v := (Heap.get?_push_cases e).elim (fun z => absurd z.1 ne) fun z => z
theorem turn_enum {P : Program} {w : World} {K : PySem.W.Frag} {es : List Expr} {x1} {pos : Pos} (a e it : Addr) (hei : e ≠ it) : Turn P w K (.Tuple es x1 pos) (Ite K a) [e, it] e (fun i h => (∃ old, IsEnum h e it i old) ∧ h.IsListIter it a i) where
  mem := by simp
  obj := fun i h st b hb => by
    obtain ⟨⟨old, he⟩, o, e1, c, d⟩ := st
    simp only [List.mem_cons, List.not_mem_nil, or_false] at hb
    rcases hb with rfl | rfl
    · exact ⟨_, he, fun v z => by
        have z' : Data.fields _ = Data.cell v := z
        cases z'⟩
    · exact ⟨o, e1, fun v z => by rw [d] at z; cases z⟩
  keep := fun i h h' st k => by
    obtain ⟨⟨old, he⟩, hit⟩ := st
    exact ⟨⟨old, k e (by simp) _ he⟩, hit.at fun o x => k it (by simp) o x⟩
  item := by
    intro X hP hw hK hc i pins s σ H E I hf st hg
    subst hP hw hK
    obtain ⟨⟨old, he⟩, hit⟩ := st
    obtain ⟨xs, x, hq, hx⟩ := hg
    obtain ⟨its, rv, p, hz⟩ := I.list hq
    obtain ⟨u, hu, ru⟩ := rv.get hx
    refine wpAny_pyNext_enum_item he hit p.isList (x := u) (by simpa using hu) hei fun h' ho hit' hT hsz hk => ?_
    refine ⟨_, rfl, wpAny_letOwnedTupleGo_enum ho fun h2 he2 hs2 => ?_⟩
    have fre : H s.heap.objs.size = none := I.hok.fresh (Nat.le_refl _)
    have ne1 : s.heap.objs.size ≠ e := Nat.ne_of_gt (Heap.lt_size he)
    have ne2 : s.heap.objs.size ≠ it := by obtain ⟨o, e1, _⟩ := hit; exact Nat.ne_of_gt (Heap.lt_size e1)
    have I1 : Inv X pins σ (upd H s.heap.objs.size (.tup [.int i, x])) { s with heap := s.heap.push { cls := .type "tuple", data := .seq #[.int i s.toks, u] }, toks := s.toks + 1 } :=
      I.laid (fun b u e => Heap.get?_push_of_some _ e) (Nat.le_refl _) ⟨by show 2 ≤ sizeLine; decide, [.int i s.toks, u], .cons ⟨_, rfl⟩ (.cons ru .nil), ⟨_, Heap.get?_push_size _ rfl, rfl, _, rfl⟩⟩
    have hf1 : ∀ b ∈ [e, it], FpOk X pins (upd H s.heap.objs.size (.tup [.int i, x])) b := fun b hb => by
      obtain ⟨f0, f⟩ := hf b hb
      refine ⟨?_, f⟩
      rw [upd_ne]
      · exact f0
      · simp only [List.mem_cons, List.not_mem_nil, or_false] at hb
        rcases hb with rfl | rfl
        · exact ne1.symm
        · exact ne2.symm
    have kk : ∀ b o, b ∉ [e, it] → (s.heap.push { cls := .type "tuple", data := .seq #[.int i s.toks, u] }).get? b = some o → h2.get? b = some o := fun b o hb z => by
      simp only [List.mem_cons, List.not_mem_nil, or_false, not_or] at hb
      by_cases hz : b = s.heap.objs.size
      · subst hz
        rw [Heap.get?_push_size _ rfl] at z
        cases z
        exact (hs2.2 _ ne1).trans hT
      · exact (hs2.2 b hb.1).trans (hk b o hb.1 hb.2 (push_some z hz))
    have I2 := I1.turnedL (h' := h2) (t' := s.toks + 1) (fp := [e, it]) kk hf1
    exact ⟨.ref s.heap.objs.size, _, I2, rfl, ⟨_, x, rfl, fre, rfl, fun ys hy => by rw [I.list_inj hy hq]; exact hx⟩, ⟨⟨_, by simpa using he2⟩, hit'.at fun o y => (hs2.2 it hei.symm).trans y⟩, fun b hb => (hf1 b hb).1⟩
  done := by
    intro X hP hw hK hc i pins s σ H E I hf st hg
    subst hP hw hK
    obtain ⟨⟨old, he⟩, hit⟩ := st
    obtain ⟨xs, hq, hx⟩ := hg
    obtain ⟨its, rv, p, hz⟩ := I.list hq
    have hl := rv.length
    exact wpAny_pyNext_enum_end (I.ok.hd hc) he hit p.isList (Array.getElem?_eq_none (by simp; omega)) fun h' eb => ⟨rfl, I.turnedL (t' := s.toks) (fp := [e, it]) (fun b o hb z => eb b o (fun z' => hb (by simp [z'])) z) hf⟩
  self := fun _ _ _ _ _ st h => by
    obtain ⟨⟨old, he⟩, _⟩ := st
    exact wpAny_pyIter_enum he h
theorem boot_enumerate : bootBuiltins "enumerate" = some (.type "enumerate") := by decide +kernel
def iEnum (K : PySem.W.Frag) (ta : TA) : TI := fun σ H R => ta σ H fun vs H1 => ∃ a xs, vs = [.ref a] ∧ SqL K H1 a xs ∧ R (Ite K a) H1
theorem pi_enum {X : Cx} {K : PySem.W.Frag} {a : Expr} {ta : TA} {es : List Expr} {x1} {tp p pos : Pos} (hK : X.K = K) (hg : Gl X "enumerate") (hm : X.mg "enumerate" = none) (ha : PA X [a] ta) (hs : starEach [a] X.env = [(false, eval a X.env)] := by rfl) : PI X (.Tuple es x1 tp) (.Call (.Name "enumerate" p) [a] [] pos) (iEnum K ta) := by
  subst hK
  intro pins s σ H R I h
  refine Call_ (ld_blt I hg hm boot_enumerate (PyProof.Rows.callWith_type1 (thn (ha pos pins s σ H _ I h) fun us s1 ⟨vs, H1, I1, r1, q1⟩ => ?_) hs rfl))
  obtain ⟨a, xs, e, hq, q⟩ := q1
  subst e
  cases r1 with
  | cons r rr =>
    cases rr
    cases r
    obtain ⟨its, rv, pl, hz⟩ := I1.list hq
    refine call_enumerate_list pl.isList fun h' he hi hsz hk => wpAny_pyIter_enum he ?_
    refine ⟨_, [s1.heap.objs.size + 1, s1.heap.objs.size], _, _, H1, rfl, I1.kept (t' := s1.toks) hk, turn_enum a _ _ (Nat.succ_ne_self _), ⟨⟨_, he⟩, hi⟩, fun b hb => ?_, q⟩
    simp only [List.mem_cons, List.not_mem_nil, or_false] at hb
    rcases hb with rfl | rfl
    · exact I1.fpOk (Nat.le_succ _) (I1.hok.fresh (Nat.le_succ _))
    · exact I1.fpOk (Nat.le_refl _) (I1.hok.fresh (Nat.le_refl _))
theorem for_enum {K : PySem.W.Frag} {a : Addr} {xs : List V} {g : TG} {tb : TS} {D : Ends} {σ : St} {H : Hp} (Pv : Nat → St → Hp → Prop) (h0 : Pv 0 σ H) (hl : ∀ i σ H, i ≤ xs.length → Pv i σ H → SqL K H a xs)
    (hs : ∀ i x t σ H, xs[i]? = some x → H t = none → Pv i σ H → g (.ref t) σ (upd H t (.tup [.int i, x])) fun σ2 H2 => tb { D with nx := Pv (i + 1), ct := Pv (i + 1), bk := D.nx } σ2 H2) (hd : ∀ σ H, Pv xs.length σ H → D.nx σ H) :
    ∃ W : Nat → Nat → St → Hp → Prop, (∃ m, W 0 m σ H) ∧ ∀ i m σ H, W i m σ H →
      ((Ite K a).stop i H ∧ D.nx σ H) ∨ ((Ite K a).go i H ∧ ∃ N : St → Hp → Prop, (∀ σ' H', N σ' H' → ∃ m', m' < m ∧ W (i + 1) m' σ' H') ∧ ∀ x H', (Ite K a).yld i H x H' → g x σ H' fun σ2 H2 => tb { D with nx := N, ct := N, bk := D.nx } σ2 H2) := by
  refine ⟨fun i m σ H => m = xs.length - i ∧ i ≤ xs.length ∧ Pv i σ H, ⟨xs.length, by simp, Nat.zero_le _, h0⟩, ?_⟩
  rintro i m σ H ⟨rfl, hi, p⟩
  have q := hl i σ H hi p
  by_cases hlt : i < xs.length
  · refine .inr ⟨⟨xs, xs[i], q, by simp [hlt]⟩, Pv (i + 1), fun σ' H' p' => ⟨xs.length - (i + 1), by omega, rfl, hlt, p'⟩, fun x H' y => ?_⟩
    obtain ⟨t, v, rfl, ht, rfl, y⟩ := y
    exact hs i v t σ _ (y xs q) ht p
  · have e : i = xs.length := by omega
    subst e
    exact .inl ⟨⟨xs, q, Nat.le_refl _⟩, hd σ H p⟩
theorem vEnum {K : PySem.W.Frag} {tas : TA} {σ : St} {H : Hp} {R : It → Hp → Prop} (h : tas σ H fun vs H1 => ∃ a xs, vs = [.ref a] ∧ SqL K H1 a xs ∧ R (Ite K a) H1) : iEnum K tas σ H R := h
end L2
namespace L2
open PySem PySem.Spec PyProof.Rows
section
variable {X : Cx}
theorem vals_strs (l : List (Str × Tok)) : Vals ((l.map (·.1)).map V.str) (strValues l) := by
  induction l with
  | nil => exact .nil
  | cons p r ih => exact .cons ⟨p.2, rfl⟩ ih
def rSplit : V → List V → Hp → VK → Prop := fun x vs H Q => ∃ z y, x = .str z ∧ vs = [.str y] ∧ (y.length == 0) = false ∧ z.length + 2 ≤ sizeLine ∧ ∀ p, H p = none → Q (.ref p) (upd H p (.lst ((Txt.split z y).map V.str)))
theorem split_any {prog : Program} {w : World} {A : Around} {E : Value → Shared → Prop} {s : Shared} {Q : Value → Shared → Prop} {x y : Str} {t u : Tok} (hy : (y.length == 0) = false) (hsz : x.length + 2 ≤ sizeLine)
    (h : ∀ (l : List (Str × Tok)) k, l.map (·.1) = Txt.split x y → l.length ≤ sizeLine → Q (.ref s.heap.objs.size) { s with heap := s.heap.push { cls := .type "list", data := .seq (strValues l).toArray }, toks := k }) :
    wpAny (model prog w) A (call (.builtin "str.split") [.str x t, .str y u]) Q E s := by
  have hn : (Builtin.Str.partsBetween x (Builtin.Str.occurrences x y 0 x.length (x.length + 1)) y.length).length ≤ sizeLine := by
    have e1 := StrLaws.occ_length_le x y 0 x.length (x.length + 1)
    rw [length_partsBetween]; omega
  cases h1 : (decide (x.length < y.length) || decide (Builtin.Str.strKind x < Builtin.Str.strKind y))
  · cases hf : (Builtin.Str.occurrences x y 0 x.length (x.length + 1)).isEmpty
    · refine call_meets F.slot_str_split (typeIs_str _ _ _) F.entry_str_split (F.args_str_split_2 _ _) (meets_str_split_sep x y t u h1 hy hf (by omega) hn) ?_
      show wants Q E _ { s with toks := _, heap := s.heap.push { cls := .type "list", data := .seq (strsFrom s.toks (Builtin.Str.partsBetween x (Builtin.Str.occurrences x y 0 x.length (x.length + 1)) y.length)).toArray } }
      rw [strsFrom_eq]
      have e := (numbered_texts s.toks (Builtin.Str.partsBetween x (Builtin.Str.occurrences x y 0 x.length (x.length + 1)) y.length))
      exact h (numbered s.toks _) _ (e.trans ((if_neg (ne_true_of_eq_false h1)).trans (if_neg (ne_true_of_eq_false hf))).symm) (by rw [← List.length_map (f := (·.1)), e]; exact hn)
    · exact call_meets F.slot_str_split (typeIs_str _ _ _) F.entry_str_split (F.args_str_split_2 _ _) (meets_str_split_not_found x y t u h1 hy hf)
        (h [(x, t)] s.toks ((if_neg (ne_true_of_eq_false h1)).trans (if_pos hf)).symm (by show 1 ≤ sizeLine; decide))
  · exact call_meets F.slot_str_split (typeIs_str _ _ _) F.entry_str_split (F.args_str_split_2 _ _) (meets_str_split_cannot_occur x y t u h1)
      (h [(x, t)] s.toks (if_pos h1).symm (by show 1 ≤ sizeLine; decide))
theorem mt_split : MtR X "str.split" rSplit := by
  intro pins s σ H x vs v us Q I rx rv h
  obtain ⟨z, y, rfl, rfl, hy, hz, q⟩ := h
  obtain ⟨t, rfl⟩ := rx
  obtain ⟨u, rfl, ru⟩ := rv.one
  obtain ⟨tu, rfl⟩ := ru
  refine split_any hy hz fun l k e hl => ?_
  refine ⟨.ref _, _, I.laid (o := .lst ((Txt.split z y).map V.str)) (fun b o e => Heap.get?_push_of_some _ e) (Nat.le_refl _) ?_, rfl, q _ (I.hok.fresh (Nat.le_refl _))⟩
  rw [← e]
  exact ⟨by rw [List.length_map, List.length_map]; exact hl, _, _, vals_strs l, Heap.get?_push_size _ rfl⟩
end
end L2
namespace L2
open PySem PySem.Spec PyProof.Rows PySem.Builtin PySem.Builtin.Str
theorem str_ext {a b : Str} (h : a.cps.toList = b.cps.toList) : a = b := by
  cases a
  cases b
  exact congrArg Str.mk (Array.toList_inj.mp h)
theorem cat_list (a b : Str) : (a ++ b).cps.toList = a.cps.toList ++ b.cps.toList := by
  show (a.cps ++ b.cps).toList = _
  exact Array.toList_append
def jl (c : List Nat) : List (List Nat) → List Nat
  | [] => []
  | [x] => x
  | x :: y :: r => x ++ c ++ jl c (y :: r)
theorem join_jl (z : Str) : ∀ xs : List Str, (Str.join z xs).cps.toList = jl z.cps.toList (xs.map (·.cps.toList))
  | [] => rfl
  | [x] => rfl
  | x :: y :: r => by
    show (x ++ z ++ Str.join z (y :: r)).cps.toList = x.cps.toList ++ z.cps.toList ++ jl z.cps.toList ((y :: r).map (·.cps.toList))
    rw [cat_list, cat_list, join_jl z (y :: r)]
theorem cut_inj {c : Nat} : ∀ {x y A B : List Nat}, c ∉ x → c ∉ y → x ++ c :: A = y ++ c :: B → x = y ∧ A = B
  | [], [], A, B, _, _, h => by simpa using h
  | [], b :: y, A, B, _, hy, h => by
    have : c = b := by simpa using (List.cons.inj h).1
    exact absurd (this ▸ List.mem_cons_self) hy
  | a :: x, [], A, B, hx, _, h => by
    have : a = c := by simpa using (List.cons.inj h).1
    exact absurd (this ▸ List.mem_cons_self) hx
  | a :: x, b :: y, A, B, hx, hy, h => by
    have h1 := List.cons.inj h
    obtain ⟨e1, e2⟩ := cut_inj (fun z => hx (List.mem_cons_of_mem _ z)) (fun z => hy (List.mem_cons_of_mem _ z)) h1.2
    exact ⟨by rw [h1.1, e1], e2⟩
theorem jl_inj (c : Nat) : ∀ {xs ys : List (List Nat)}, xs ≠ [] → ys ≠ [] → (∀ x ∈ xs, c ∉ x) → (∀ y ∈ ys, c ∉ y) → jl [c] xs = jl [c] ys → xs = ys
  | [], _, h, _, _, _, _ => absurd rfl h
  | _ :: _, [], _, h, _, _, _ => absurd rfl h
  | [x], [y], _, _, _, _, h => by
    have : x = y := h
    rw [this]
  | [x], y :: y' :: s, _, _, hx, _, h => by
    have h : x = y ++ [c] ++ jl [c] (y' :: s) := h
    exact absurd (show c ∈ x by rw [h]; simp) (hx x List.mem_cons_self)
  | x :: x' :: r, [y], _, _, _, hy, h => by
    have h : x ++ [c] ++ jl [c] (x' :: r) = y := h
    exact absurd (show c ∈ y by rw [← h]; simp) (hy y List.mem_cons_self)
  | x :: x' :: r, y :: y' :: s, _, _, hx, hy, h => by
    have h : x ++ [c] ++ jl [c] (x' :: r) = y ++ [c] ++ jl [c] (y' :: s) := h
    rw [List.append_assoc, List.append_assoc] at h
    obtain ⟨e1, e2⟩ := cut_inj (hx x List.mem_cons_self) (hy y List.mem_cons_self) h
    rw [e1, jl_inj c (by simp) (by simp) (fun z hz => hx z (List.mem_cons_of_mem _ hz)) (fun z hz => hy z (List.mem_cons_of_mem _ hz)) e2]
theorem join_eq (z : Str) (xs : List Str) : Txt.join z xs = Str.join z xs := StrLaws.glued_eq_join z xs
theorem map_list_inj : ∀ {xs ys : List Str}, xs.map (·.cps.toList) = ys.map (·.cps.toList) → xs = ys
  | [], [], _ => rfl
  | [], _ :: _, h => by cases h
  | _ :: _, [], h => by cases h
  | x :: r, y :: s, h => by
    have h := List.cons.inj h
    rw [str_ext h.1, map_list_inj h.2]
theorem split_of {c : Nat} {ls : List Str} (ne : ls ≠ []) (hf : ∀ l ∈ ls, c ∉ l.cps.toList) : Txt.split (Txt.join ⟨#[c]⟩ ls) ⟨#[c]⟩ = ls := by
  apply map_list_inj
  refine jl_inj c ?_ (by simpa using ne) (fun x hx => ?_) (fun x hx => ?_) ?_
  · have := split_pos (Txt.join ⟨#[c]⟩ ls) ⟨#[c]⟩
    intro h
    rw [List.map_eq_nil_iff] at h
    rw [h] at this
    exact absurd this (by decide)
  · obtain ⟨l, hl, rfl⟩ := List.mem_map.mp hx
    exact StrLaws.split_free _ c l hl
  · obtain ⟨l, hl, rfl⟩ := List.mem_map.mp hx
    exact hf l hl
  · have h1 := join_jl ⟨#[c]⟩ (Txt.split (Txt.join ⟨#[c]⟩ ls) ⟨#[c]⟩)
    have h2 := join_jl ⟨#[c]⟩ ls
    rw [← join_eq] at h2
    rw [StrLaws.join_split] at h1
    exact h1.symm.trans h2
theorem join_len_le (z : Str) (xs : List Str) : (Txt.join z xs).length ≤ (xs.map (·.length)).sum + xs.length * z.length := by
  rw [join_eq]
  exact StrLaws.join_length_le z xs
theorem vDGet2 {td ty tx : TE} {σ : St} {H : Hp} {Q : VK} (h : td σ H fun x H1 => ∃ a, x = .ref a ∧ IsD H1 a ∧ ty σ H1 fun y H2 => tx σ H2 fun z H3 => ∃ o, DGet H3 a y o ∧ Q (o.getD z) H3) : tDGet2 td ty tx σ H Q := h
end L2
namespace L2
open PySem PySem.Spec PyProof.Rows
theorem eqV_strD (a b : Str) : eqV (.str a) (.str b) = decide (a = b) := by
  have e : eqV (.str a) (.str b) = (a == b) := by simp [eqV]
  rw [e, Bool.eq_iff_iff, beq_iff_eq, decide_eq_true_iff]
section
variable {X : Cx} {K : PySem.W.Frag}
theorem k_notinS : OpR X (compareOp .NotIn) (fun x y H Q => ∃ i j, x = .str i ∧ y = .str j ∧ Q (.bl (!(!(Builtin.Str.occurrences j i 0 j.length 1).isEmpty))) H) := by
  intro pins s σ H x y u v Q I rx ry h
  obtain ⟨i, j, rfl, rfl, q⟩ := h
  obtain ⟨t, rfl⟩ := rx
  obtain ⟨t', rfl⟩ := ry
  exact notIn_str ⟨.bl _, H, I, rfl, q⟩
end
theorem slice_ixD (k n : Nat) : Builtin.Str.strSliceIndices (some (k : Int)) none 1 n = (List.range (n - k)).map (k + ·) := by
  unfold Builtin.Str.strSliceIndices sliceRange
  simp only [show (1 : Int) > 0 by decide, if_true]
  rw [if_neg (show ¬ ((k : Int) < 0) by omega)]
  have e1 : max 0 (min (k : Int) n) = ((min k n : Nat) : Int) := by omega
  rw [e1]
  by_cases hk : k ≤ n
  · rw [Nat.min_eq_left hk]
    have e2 : (fun (j : Nat) => ((k : Int) + 1 * (j : Int)).toNat) = (k + ·) := by funext j; omega
    rw [e2]
    congr 2
    split
    · rw [Int.ediv_one]; omega
    · omega
  · rw [Nat.min_eq_right (by omega), show n - k = 0 by omega]
    rw [if_neg (by omega)]
    rfl
theorem fm_drop (a : Array Nat) (k : Nat) : ∀ m, k + m ≤ a.size → ((List.range m).map (k + ·)).filterMap (a[·]?) = (a.toList.drop k).take m
  | 0, _ => by simp
  | m + 1, h => by
    rw [List.range_succ, List.map_append, List.filterMap_append, fm_drop a k m (by omega), List.take_add_one]
    congr 1
    have e : a[k + m]? = some a[k + m] := Array.getElem?_eq_getElem (by omega)
    have e' : (a.toList.drop k)[m]? = some a[k + m] := by rw [List.getElem?_drop, Array.getElem?_toList]; exact e
    rw [e', List.map_cons, List.filterMap_cons, e]
    rfl
theorem slice_drop (z : Str) (k : Nat) : (Txt.slice z (some (k : Int)) none).cps.toList = z.cps.toList.drop k := by
  unfold Txt.slice
  rw [slice_ixD]
  have hz : z.length = z.cps.toList.length := by simp [Str.length]
  split
  · rename_i h
    rw [List.length_map, List.length_range] at h
    have h : z.length - k = z.length := by simpa using h
    by_cases hk : k = 0
    · subst hk; rw [List.drop_zero]
    · have : z.cps.toList = [] := List.length_eq_zero_iff.mp (by omega)
      rw [this]; simp
  · show (List.filterMap _ _).toArray.toList = _
    by_cases hk : k ≤ z.length
    · have := fm_drop z.cps k (z.length - k) (by show k + (z.length - k) ≤ z.length; omega)
      rw [this]
      exact List.take_of_length_le (by rw [List.length_drop]; omega)
    · rw [show z.length - k = 0 by omega, List.drop_of_length_le (by omega)]
      rfl
theorem slice_len (z : Str) (lo hi : Option Int) : (Txt.slice z lo hi).length ≤ z.length := Txt.slice_le z lo hi
theorem cutV_take (xs : List V) (k : Nat) : cutV xs none (some (k : Int)) = xs.take k := by
  unfold cutV
  rw [HT.sIx_none, HT.sIx_nat, List.drop_zero, Nat.sub_zero]
  by_cases h : k ≤ xs.length
  · rw [Nat.min_eq_left h]
  · rw [Nat.min_eq_right (by omega), List.take_of_length_le (Nat.le_refl _), List.take_of_length_le (by omega)]
theorem cutV_drop (xs : List V) (k : Nat) : cutV xs (some (k : Int)) none = xs.drop k := by
  unfold cutV
  rw [HT.sIx_none, HT.sIx_nat]
  by_cases h : k ≤ xs.length
  · rw [Nat.min_eq_left h, List.take_of_length_le (by rw [List.length_drop]; omega)]
  · rw [Nat.min_eq_right (by omega), List.drop_length, List.drop_of_length_le (by omega)]
    simp
end L2
namespace L2
open PySem PySem.Spec PyProof.Rows
section
variable {X : Cx} {K : PySem.W.Frag}
end
end L2
namespace HT
open PySem PySem.Spec PyProof.Rows
section
variable {prog : Program} {w : World} {A : Around} {E : Value → Shared → Prop} {s : Shared}
end
end HT
namespace L2
open PySem PySem.Spec PyProof.Rows
def tStep (K : PySem.W.Frag) (te : TE) (ts : TO) : TE := fun σ H Q => te σ H fun x H1 => ts σ H1 fun o H2 => ∃ a y z, x = .ref a ∧ SqT K H2 a [y, z] ∧ ((o = some (-1) ∧ ∀ p, H2 p = none → Q (.ref p) (upd H2 p (.tup [z, y]))) ∨ (o = some 1 ∧ Q (.ref a) H2))
theorem vStep {K : PySem.W.Frag} {te : TE} {ts : TO} {σ : St} {H : Hp} {Q : VK} (h : te σ H fun x H1 => ts σ H1 fun o H2 => ∃ a y z, x = .ref a ∧ SqT K H2 a [y, z] ∧ ((o = some (-1) ∧ ∀ p, H2 p = none → Q (.ref p) (upd H2 p (.tup [z, y]))) ∨ (o = some 1 ∧ Q (.ref a) H2))) : tStep K te ts σ H Q := h
section
variable {X : Cx} {K : PySem.W.Frag} {e st : Expr} {te : TE} {ts : TO} {p2 pos : Pos}
end
end L2
namespace L2
open PySem PySem.Spec PyProof.Rows
def FG (K : PySem.W.Frag) (nm : Str) (st : Stmt) : Prop := ∃ f fd, PySem.W.nsIn K mainGlobals nm = some (some (.ref f)) ∧ Fun K nm nm st f fd
def FM (K : PySem.W.Frag) (C : Addr) (m ql : Str) (st : Stmt) : Prop := ∃ f fd, PySem.W.findIn K (.ref C) m = some (some (.ref f)) ∧ PySem.W.isFn K (.ref f) = true ∧ Fun K m ql st f fd
def FC (K : PySem.W.Frag) (C : Addr) (m ql : Str) (st : Stmt) : Prop := ∃ f fd, PySem.W.findCls K (.ref C) (.type "type") m = some (.val (.ref f)) ∧ Fun K m ql st f fd
structure XQ (K : PySem.W.Frag) (C : Addr) : Prop where
  xa : PySem.W.findIn K (.ref C) "__getattribute__" = some (some (.builtin "BaseException.__getattribute__"))
  xb : PySem.W.findIn K (.ref C) "__getattr__" = some none
  xd : PySem.W.mroIn K C (.type "BaseException") = some true
  xe : PySem.W.mroIn K C (.type "object") = some true
  xf : PySem.W.hasDictIn K C = true
  xg : PySem.W.findIn K (.ref C) "__class__" = some (some (.builtin "object.__class__"))
  xh : PySem.W.findIn K (.ref C) "__setattr__" = some (some (.builtin "object.__setattr__"))
  p : PySem.W.keepIn K (.ref C) = true
section
variable {P : Program} {w : World} {K : PySem.W.Frag} {mg : Str → Option Value} {base h : Heap} {CX : CXT} {k : Nat} {sp : Sp} {st : Stmt} {f : Addr} {fd : FuncData} {ps : List Str} {nm m ql x : Str} {C : Addr}
abbrev BA (x ql : Str) (st : Stmt) (ps : List Str) : Prop := ∀ (kV doc pm : Value) (an : Option Addr) (cdv ct : Value) (us : List Value), us.length = ps.length → bindArgs (PySem.W.fnOf x ql (defArgs st) (defBody st) (defScope st) .none kV doc pm an cdv ct) ⟨us, []⟩ = pure (ps.zip us)
theorem fg_mk (X : K.In h) (G : h.Ns mainGlobals mg) (a : PySem.W.nsIn K mainGlobals nm = some (some (.ref f))) (F : Fun K nm nm st f fd) (o : FnOk P w K mg base CX k f fd ps sp)
    (hb : BA nm nm st ps := by first | (exact fun _ _ _ _ _ _ us hl => (match us, hl with | [_], _ => rfl)) | (exact fun _ _ _ _ _ _ us hl => (match us, hl with | [_, _], _ => rfl)) | (exact fun _ _ _ _ _ _ us hl => (match us, hl with | [_, _, _], _ => rfl)) | (exact fun _ _ _ _ _ _ us hl => (match us, hl with | [_, _, _, _], _ => rfl))) :
    DefOk P w K mg base CX k nm ps sp := ⟨_, _, o, PySem.W.mg_of X G a, F.kp, F.binds hb⟩
theorem fm_mk (wcl : Cls K C) (a : PySem.W.findIn K (.ref C) m = some (some (.ref f))) (n : PySem.W.isFn K (.ref f) = true) (F : Fun K m ql st f fd) (o : FnOk P w K mg base CX k f fd ps sp)
    (hb : BA m ql st ps := by first | (exact fun _ _ _ _ _ _ us hl => (match us, hl with | [_], _ => rfl)) | (exact fun _ _ _ _ _ _ us hl => (match us, hl with | [_, _], _ => rfl)) | (exact fun _ _ _ _ _ _ us hl => (match us, hl with | [_, _, _], _ => rfl)) | (exact fun _ _ _ _ _ _ us hl => (match us, hl with | [_, _, _, _], _ => rfl))) :
    MethOk P w K mg base CX k C m ps sp := ⟨⟨_, _, o, ⟨a, n, F.kp⟩, F.binds hb⟩, wcl⟩
theorem fx_mk (X : K.In h) (G : h.Ns mainGlobals mg) (c : PySem.W.nsIn K mainGlobals x = some (some (.ref C))) (Y : XAt K C) (q : XQ K C) (a : PySem.W.findIn K (.ref C) "__init__" = some (some (.ref f))) (n : PySem.W.isFn K (.ref f) = true) (F : Fun K "__init__" ql st f fd) (o : FnOk P w K mg base CX0 k f fd ps sp)
    (hb : BA "__init__" ql st ps := by first | (exact fun _ _ _ _ _ _ us hl => (match us, hl with | [_], _ => rfl)) | (exact fun _ _ _ _ _ _ us hl => (match us, hl with | [_, _], _ => rfl))) :
    XMakeOk P w K mg base k C x ps sp := ⟨⟨_, _, o, ⟨Y, a, n, q.p⟩, F.binds hb⟩, PySem.W.mg_of X G c⟩
theorem fc_mk (X : K.In h) (G : h.Ns mainGlobals mg) (c : PySem.W.nsIn K mainGlobals x = some (some (.ref C))) (r1 : PySem.W.readsIn K C (.type "type") = true) (r2 : PySem.W.findCls K (.ref C) (.type "type") m = some (.val (.ref f))) (r3 : PySem.W.specialIn K (.ref C) "__getattribute__" = some (some (.builtin "type.__getattribute__"))) (F : Fun K m ql st f fd) (o : FnOk P w K mg base CX k f fd ps sp)
    (hb : BA m ql st ps := by (exact fun _ _ _ _ _ _ us hl => (match us, hl with | [_, _], _ => rfl))) :
    CMethOk P w K mg base CX k C x m ps sp := ⟨⟨_, _, o, ⟨r1, r2, r3, F.kp⟩, F.binds hb⟩, PySem.W.mg_of X G c⟩
theorem xq_at {bm : List Value} (x : XL K C bm) (hb : xMro bm = true) (q : XQ K C) (w16 : PySem.W.specialIn K (.builtin "object.__class__") "__get__" = some (some (.builtin "getset_descriptor.__get__"))) (w17 : PySem.W.takesIn K (.builtin "object.__class__") = some true) : XAt K C := x.xat hb q.xa q.xb q.xd q.xe q.xf q.xg w16 w17 q.xh
end
end L2
namespace HT
open PySem PySem.Spec PyProof.Rows
section
variable {prog : Program} {w : World} {A : Around} {E : Value → Shared → Prop} {s : Shared}
theorem assign_Tuple_list {env : Env} {elts : List Expr} {x1} {pos : Pos} {l : Addr} {items : Array Value} {Q : Unit → Shared → Prop} (hh : A.handled = none) (hl : s.heap.IsList l items)
    (hn : (assignEach elts env).length = items.size) (hstar : (assignEach elts env).findIdx? (·.1) = none)
    (h : ∀ h', Heap.ExtBut s.heap.objs.size s.heap h' → wpAny (model prog w) A (assignInOrder ((assignEach elts env).map (·.2)) items.toList) Q E { s with heap := h' }) :
    wpAny (model prog w) A (assign (.Tuple elts x1 pos) env (.ref l)) Q E s := by
  rw [assign_Tuple]
  refine wpAny_bind (wpAny_standAt ?_)
  unfold unpack
  rw [hn, hstar]
  exact wpAny_bind (wpAny_holding (PySem.W.kun_itemsOf hh hl h))
end
end HT
namespace L2
open PySem PySem.Spec PyProof.Rows
def gTupU (K : PySem.W.Frag) (n : Nat) (t : TGs) : TG := fun v σ H Q => ∃ a xs, v = .ref a ∧ (SqT K H a xs ∨ SqL K H a xs) ∧ xs.length = n ∧ t xs σ H Q
theorem vAsgU {te : TE} {K : PySem.W.Frag} {n : Nat} {gs : TGs} {D : Ends} {σ : St} {H : Hp} (h : te σ H fun x H1 => gTupU K n gs x σ H1 D.nx) : tAsg te (gTupU K n gs) D σ H := h
section
variable {X : Cx} {K : PySem.W.Frag} {pos p : Pos} {x : Str}
theorem pg_tupU {es : List Expr} {k : Nat} {t : TGs} {n : Nat} (hc : X.calm = true) (h : PGs X es t)
    (hn : (assignEach es X.env).length = n := by rfl) (hst : (assignEach es X.env).findIdx? (·.1) = none := by rfl) : PG X (.Tuple es k pos) (gTupU X.K n t) := by
  intro pins s σ H v u Q I r hw
  obtain ⟨a, xs, e1, hq, hl, hw⟩ := hw
  rcases hq with hq | hq
  · exact pg_tup hc h hn hst pins s σ H v u Q I r ⟨a, xs, e1, hq, hl, hw⟩
  · subst e1
    cases r
    obtain ⟨its, rv, ht, hz⟩ := I.list hq
    refine HT.assign_Tuple_list (I.ok.hd hc) ht.isList (by simp [hn, ← hl, rv.length]) hst fun h' hx => ?_
    have I1 : Inv X pins σ H { s with heap := h' } := I.kept (t' := s.toks) fun b o e => hx b o (Nat.ne_of_lt (Heap.lt_size e)) e
    exact h pins _ σ H xs _ Q I1 (by simpa using rv) hw
def rJoinU (K : PySem.W.Frag) : V → List V → Hp → VK → Prop := fun x vs H Q => ∃ (z : Str) (p : Addr) (ys : List Str), x = .str z ∧ vs = [.ref p] ∧ (SqL K H p (ys.map V.str) ∨ SqT K H p (ys.map V.str)) ∧ (ys.map (·.length)).sum + ys.length * z.length ≤ 16777216 ∧ Q (.str (Txt.join z ys)) H
theorem k_joinU (hK : X.K = K) : MtR X "str.join" (rJoinU K) := by
  subst hK
  intro pins s σ H x vs v us Q I rx rv h
  obtain ⟨z, p, ys, rfl, rfl, hp, hz, q⟩ := h
  rcases hp with hp | hp
  · exact mt_join pins s σ H _ _ v us Q I rx rv ⟨z, p, ys, rfl, rfl, hp, hz, q⟩
  · obtain ⟨t, rfl⟩ := rx
    obtain ⟨u, rfl, ru⟩ := rv.one
    cases ru
    obtain ⟨its, r, pl, _⟩ := I.tuple hp
    exact join_tuple pl (by simpa using strs_of r) hz fun t' k => ⟨.str _, H, I.tok _, ⟨_, rfl⟩, q⟩
theorem k_inS : OpR X (compareOp .In) (fun x y H Q => ∃ i j, x = .str i ∧ y = .str j ∧ Q (.bl (!(Builtin.Str.occurrences j i 0 j.length 1).isEmpty)) H) := by
  intro pins s σ H x y u v Q I rx ry h
  obtain ⟨i, j, rfl, rfl, q⟩ := h
  obtain ⟨t, rfl⟩ := rx
  obtain ⟨t', rfl⟩ := ry
  exact P.in_str ⟨.bl _, H, I, rfl, q⟩
theorem pe_globS {z : Str} (hg : Gl X x) (hm : ∃ tk, X.mg x = some (.str z tk)) (hd : (x == ("__debug__" : Str)) = false := by decide) : PE X (.Name x pos) (tC (.str z)) := by
  obtain ⟨tk, hm⟩ := hm
  exact pe_glob hg hm ⟨tk, rfl⟩ hd
end
end L2
namespace K75
open PySem L2 PyProof.Rows
theorem u100 {k : Nat} {A : Around} (hr : Room k A) : A.units + 100 < cLine := by have := hr.un; omega
theorem hm {k j : Nat} {A : Around} (hr : Room k A) (h : j ≤ k := by decide) : Room j A := hr.mono h
def top (i : Nat) : Stmt := PySem.Challenge.pw_onceroad_k75_names_ties_and_lines.main.body.getD i (.Pass ⟨0, 0, 0, 0⟩)
/- OnceError.__init__: calls [] -/
abbrev s_OnceError_init : Stmt := inClass (top 1) 0
theorem sc_OnceError_init : FnScope ["self", "text"] ["self", "text"] (defScope s_OnceError_init) := ⟨rfl, rfl, rfl, by decide +kernel, rfl, by decide +kernel, by decide +kernel⟩
/- NoLine.__init__: calls [] -/
abbrev s_NoLine_init : Stmt := inClass (top 2) 0
theorem sc_NoLine_init : FnScope ["self", "found"] ["self", "found"] (defScope s_NoLine_init) := ⟨rfl, rfl, rfl, by decide +kernel, rfl, by decide +kernel, by decide +kernel⟩
local macro_rules | `(tactic| walk_at "vc1") => `(tactic| first
  | with_reducible refine vSeq ?_ | with_reducible refine vAsg ?_ | with_reducible refine vAsgS ?_ | with_reducible refine vIfS ?_ | with_reducible refine vRet ?_ | with_reducible refine vNext ?_ | with_reducible refine vC ?_
  | ((with_reducible refine' vVar ?hv ?_); (case hv => rfl)) | with_reducible refine vOp ?_ | with_reducible refine vChain ?_ | with_reducible refine vNil ?_ | with_reducible refine vCons ?_ | with_reducible refine vCB ?_ | with_reducible refine vCall ?_
  | with_reducible refine vLst ?_ | with_reducible refine vTup ?_ | with_reducible refine vTest ?_ | with_reducible refine vB ?_ | with_reducible refine vNot ?_ | with_reducible refine vAnd ?_ | with_reducible refine vOr ?_
  | with_reducible refine vAndV ?_ | with_reducible refine vOrV ?_ | with_reducible refine vNotV ?_ | with_reducible refine vYes ?_ | with_reducible refine vLeI ?_ | with_reducible refine vLeS ?_ | with_reducible refine vIsB ?_ | with_reducible refine vAddI ?_ | with_reducible refine vSl ?_ | with_reducible refine vNoPart ?_ | with_reducible refine vPart ?_ | with_reducible refine vExI ?_ | with_reducible refine vBM ?_ | with_reducible refine vBM0 ?_ | with_reducible refine vComp ?_ | with_reducible refine vFor ?_ | with_reducible refine vRng1 ?_ | with_reducible refine vAny ?_ | with_reducible refine vGN ?_ | with_reducible refine vI0 ?_ | with_reducible refine vEqI ?_ | with_reducible refine vEqB ?_ | with_reducible refine vEx ?_ | with_reducible refine vDrop ?_ | with_reducible refine vRetN ?_ | with_reducible refine vFldU ?_ | with_reducible refine vSFldU ?_ | with_reducible refine vXMake ?_ | with_reducible refine vMake ?_ | with_reducible refine vMeth ?_ | with_reducible refine vVinit ?_ | with_reducible refine vCallS ?_ | with_reducible refine vRaise ?_ | with_reducible refine vMethS ?_ | with_reducible refine vMakeS ?_ | with_reducible refine vUn ?_ | with_reducible refine vIf ?_ | with_reducible refine vRev ?_ | with_reducible refine vEnum ?_ | with_reducible refine vDGet2 ?_ | with_reducible refine vStep ?_)
local macro_rules | `(tactic| walk_at "vc") => `(tactic| repeat walk_at "vc1")
def fldn (i : Nat) : Str := "found"
structure Txt (K : W.Frag) (mg : Str → Option Value) (cc : Nat → Addr) (cw : Addr) : Prop where
  b_len : mg "len" = none
  b_int : mg "int" = none
  b_enumerate : mg "enumerate" = none
  b_all : mg "all" = none
  b_max : mg "max" = none
  b_min : mg "min" = none
  b_isinstance : mg "isinstance" = none
  b_bool : mg "bool" = none
  b_str : mg "str" = none
  b_range : mg "range" = none
  b_list : mg "list" = none
  b_tuple : mg "tuple" = none
  b_ValueError : mg "ValueError" = none
  g_LONGEST_NAME : ∃ tk, mg "LONGEST_NAME" = some (.int 6 tk)
  g_LONGEST_LINE : ∃ tk, mg "LONGEST_LINE" = some (.int 400 tk)
  m_NoLine : mg "NoLine" = some (.ref (cc 0))
  m_OnceError : mg "OnceError" = some (.ref (cc 1))
  vinit : VInit K
  xat : ∀ i, i < 1 + 1 → XAt K (cc i)
  na : ∀ i, i < 1 → NoAttr K (cc i) (fldn i)
  kit : ∀ i j, i < 1 → j < 1 → W.kitOne K (.ref (cc i)) (.ref (cc j)) = some (decide (i = j))
  kitV : ∀ i, i < 1 + 1 → W.kitOne K (.ref (cc i)) (.type "ValueError") = some true
  mroO : ∀ i, i < 1 → W.mroIn K (cc i) (.ref (cc 1)) = some true
  g_NOTHING : ∃ tk, mg "NOTHING" = some (.str "-" tk)
  mro0 : W.mroIn K (cc 0) (.ref (cc 0)) = some true
def spOnce (K : W.Frag) : Sp := fun vs H Q _ => ∃ (e C : Addr) (y : V), vs = [.ref e, y] ∧ H e = some (XN e C none) ∧ XAt K C ∧ Q .non H
def spX (C : Addr) (fl : Str) : Sp := fun vs H Q _ => ∃ (e : Addr) (v : V), vs = [.ref e, v] ∧ H e = some (XN e C none) ∧ ∀ dx, H dx = none → Q .non (upd (upd H dx (.xd [(fl, v)])) e (XN e C (some dx)))
section
variable {P : Program} {w : World} {K : W.Frag} {mg : Str → Option Value} {base : Heap} {cc : Nat → Addr} {cw : Addr}
theorem ok_once {f : Addr} {fd : FuncData} (F : Fun K "__init__" "OnceError.__init__" s_OnceError_init f fd) (T : Txt K mg cc cw) : FnOk P w K mg base CX0 1 f fd ["self", "text"] (spOnce K) := by
  refine F.ok sc_OnceError_init (fun vs H Q E h => ?_) fun cdv A outer s H vs Q E hr h => ?_
  · obtain ⟨e, C, y, rfl, _⟩ := h; rfl
  · obtain ⟨e, C, y, rfl, he, c, q⟩ := h
    refine ⟨_, (pss_one (ps_expr (k_vinit (K := K) rfl T.vinit rfl T.b_ValueError boot_ValueError (pa_cons (pv 0) (pa_cons (pv 1) pa_nil))))), ?_⟩
    walk_at "vc"
    exact ⟨e, C, y, rfl, he, c, q⟩
theorem ok_NoLine {f : Addr} {fd : FuncData} (F : Fun K "__init__" "NoLine.__init__" s_NoLine_init f fd) (T : Txt K mg cc cw) (D_OnceError_init : CMethOk P w K mg base CX0 1 (cc 1) "OnceError" "__init__" ["self", "text"] (spOnce K)) :
    FnOk P w K mg base CX0 2 f fd ["self", "found"] (spX (cc 0) (fldn 0)) := by
  refine F.ok sc_NoLine_init (fun vs H Q E h => ?_) fun cdv A outer s H vs Q E hr h => ?_
  · obtain ⟨e, v, rfl, _⟩ := h; rfl
  · obtain ⟨e, v, rfl, he, q⟩ := h
    refine ⟨_, (pss_cons (ps_expr (pe_clsmQ D_OnceError_init (hm hr) (pa_cons (pv 0) (pa_cons pe_str pa_nil))))
  (pss_one (k_sfldU (K := K) rfl (pv 0) (pv 1) rfl))), ?_⟩
    walk_at "vc"
    refine ⟨e, _, _, rfl, he, T.xat 0 (by decide), ?_⟩
    walk_at "vc"
    exact .inr ⟨e, _, rfl, he, T.xat 0 (by decide), T.na 0 (by decide), q⟩
end
open PySem L2 PyProof.Rows
/- is_name: calls []; cells [] -/
abbrev s_is_name : Stmt := top 5
theorem sc_is_name : FnScope ["thing"] ["thing"] (defScope s_is_name) := ⟨rfl, rfl, rfl, by decide +kernel, rfl, by decide +kernel, by decide +kernel⟩
theorem Snew {l : Addr} {H H1 : Hp} {o : HO} (a : L2.Same H H1) (hl : H1 l = none) : L2.Same H (upd H1 l o) := fun c u e => by
  have q := a c u e
  rw [upd_ne (ne_of_none q hl)]
  exact q
theorem Supd {l : Addr} {H H1 : Hp} {o : HO} (a : L2.Same H H1) (hl : H l = none) : L2.Same H (upd H1 l o) := fun c u e => by
  rw [upd_ne (ne_of_none e hl)]
  exact a c u e
def sg (c : Nat) : Bool := if (!decide (([c] : List Nat) < ("a" : Str).cps.toList)) = true then !decide (("z" : Str).cps.toList < [c]) else false
def nameS (x : Str) : Bool := if 1 ≤ x.length ∧ x.length ≤ 6 then x.cps.toList.all sg else false
def nameV : V → Bool
  | .str x => nameS x
  | _ => false
def strV : V → Str
  | .str x => x
  | _ => ""
inductive Th (p : Addr) (H : Hp) : Nat → V → Prop
  | flat {n : Nat} {v : V} (f : flatV v = true) (l : ∀ s, v = .str s → s.length ≤ 100000) : Th p H n v
  | lst {n : Nat} {a : Addr} {xs : List V} (e : H a = some (.lst xs)) (ne : a ≠ p) (h : ∀ x ∈ xs, Th p H n x) (l : xs.length ≤ 1000) : Th p H (n + 1) (.ref a)
  | tup {n : Nat} {a : Addr} {xs : List V} (e : H a = some (.tup xs)) (ne : a ≠ p) (h : ∀ x ∈ xs, Th p H n x) (l : xs.length ≤ 1000) : Th p H (n + 1) (.ref a)
  | dct {n : Nat} {a : Addr} {kvs : List (Key × V)} (e : H a = some (.dK kvs)) (ne : a ≠ p) : Th p H n (.ref a)
theorem Th.mono {p : Addr} {H : Hp} : ∀ {n : Nat} {v : V}, Th p H n v → Th p H (n + 1) v
  | _, _, .flat f l => .flat f l
  | _, _, .lst e ne h l => .lst e ne (fun x hx => (h x hx).mono) l
  | _, _, .tup e ne h l => .tup e ne (fun x hx => (h x hx).mono) l
  | _, _, .dct e ne => .dct e ne
theorem Th.keep {p : Addr} {H H' : Hp} (k : ∀ b o, b ≠ p → H b = some o → H' b = some o) : ∀ {n : Nat} {v : V}, Th p H n v → Th p H' n v
  | _, _, .flat f l => .flat f l
  | _, _, .lst e ne h l => .lst (k _ _ ne e) ne (fun x hx => (h x hx).keep k) l
  | _, _, .tup e ne h l => .tup (k _ _ ne e) ne (fun x hx => (h x hx).keep k) l
  | _, _, .dct e ne => .dct (k _ _ ne e) ne
theorem Th.same {p : Addr} {H H' : Hp} {n : Nat} {v : V} (h : Th p H n v) (s : L2.Same H H') : Th p H' n v := h.keep fun b o _ e => s b o e
inductive Arg (p : Addr) (H : Hp) : V → Option (List V) → Prop
  | lst {a : Addr} {xs : List V} (e : H a = some (.lst xs)) (ne : a ≠ p) (h : ∀ x ∈ xs, Th p H 2 x) (l : xs.length ≤ 1000) : Arg p H (.ref a) (some xs)
  | tup {a : Addr} {xs : List V} (e : H a = some (.tup xs)) (ne : a ≠ p) (h : ∀ x ∈ xs, Th p H 2 x) (l : xs.length ≤ 1000) : Arg p H (.ref a) (some xs)
  | flat {v : V} (f : flatV v = true) (l : ∀ s, v = .str s → s.length ≤ 100000) : Arg p H v none
  | dct {a : Addr} {kvs : List (Key × V)} (e : H a = some (.dK kvs)) (ne : a ≠ p) : Arg p H (.ref a) none
def isB : V → Bool
  | .bl _ => true
  | _ => false
theorem Th.ty {K : W.Frag} {p : Addr} {H : Hp} {n : Nat} {v : V} (h : Th p H n v) : ∃ t ∈ ["NoneType", "bool", "int", "str", "list", "tuple", "dict"], TyOf K H v (.type t) ∧ (isaT t "str" = true → ∃ x, v = .str x ∧ x.length ≤ 100000) ∧ (isaT t "str" = false → nameV v = false) ∧
    (isaT t "tuple" = true → ∃ a xs, v = .ref a ∧ H a = some (.tup xs) ∧ xs.length ≤ 1000 ∧ ∀ x ∈ xs, Th p H n x) ∧ (isaT t "tuple" = false → ∀ a xs, v = .ref a → H a ≠ some (.tup xs)) ∧ isaT t "bool" = isB v := by
  have no : ∀ {P : Prop} {a b : String}, isaT a b = false → isaT a b = true → P := fun h1 h2 => by rw [h1] at h2; cases h2
  have yes : ∀ {P : Prop} {a b : String}, isaT a b = true → isaT a b = false → P := fun h1 h2 => by rw [h1] at h2; cases h2
  cases h with
  | flat f l =>
    cases v with
    | non => exact ⟨_, by simp, .non, no (by decide), fun _ => rfl, no (by decide), fun _ _ _ e => by (cases e), rfl⟩
    | bl x => exact ⟨_, by simp, .bl x, no (by decide), fun _ => rfl, no (by decide), fun _ _ _ e => by (cases e), rfl⟩
    | int x => exact ⟨_, by simp, .int x, no (by decide), fun _ => rfl, no (by decide), fun _ _ _ e => by (cases e), rfl⟩
    | str x => exact ⟨_, by simp, .str x, fun _ => ⟨x, rfl, l x rfl⟩, yes (by decide), no (by decide), fun _ _ _ e => by (cases e), rfl⟩
    | _ => cases f
  | lst e ne h l => exact ⟨_, by simp, .lst e, no (by decide), fun _ => rfl, no (by decide), fun _ _ _ z => by (cases z; rw [e]; intro y; cases y), rfl⟩
  | tup e ne h l => exact ⟨_, by simp, .tup e, no (by decide), fun _ => rfl, fun _ => ⟨_, _, rfl, e, l, fun x hx => (h x hx).mono⟩, yes (by decide), rfl⟩
  | dct e ne => exact ⟨_, by simp, .dK e, no (by decide), fun _ => rfl, no (by decide), fun _ _ _ z => by (cases z; rw [e]; intro y; cases y), rfl⟩
section
variable {P : Program} {w : World} {K : W.Frag} {mg : Str → Option Value} {base : Heap} {cc : Nat → Addr} {cw : Addr}
def spName : Sp := fun vs H Q _ => ∃ (p : Addr) (n : Nat) (v : V), vs = [v] ∧ Th p H n v ∧ ∀ H', L2.Same H H' → Q (.bl (nameV v)) H'
theorem ok_name {f : Addr} {fd : FuncData} (F : Fun K "is_name" "is_name" s_is_name f fd) (T : Txt K mg cc cw) : FnOk P w K mg base CX0 1 f fd ["thing"] spName := by
  refine F.ok sc_is_name (fun vs H Q E h => ?_) fun cdv A outer s H vs Q E hr h => ?_
  · obtain ⟨p, n, v, rfl, _⟩ := h; rfl
  · obtain ⟨p, n, v, rfl, hv, q⟩ := h
    refine ⟨_, (pss_cons (ps_if (PW.pt (pw_or (pt_not (pt_val (pe_callB (k_isiU (K := K) rfl) rfl T.b_isinstance boot_isinstance (pa_cons (pv 0) (pa_cons (pe_bltn (v := .ty "str") rfl T.b_str boot_str rfl) pa_nil))))) (pw_or1 (pt_not (pt_chain u_le u_le pe_int (pe_callB (k_len (K := K) rfl) rfl T.b_len boot_len (pa_cons (pv 0) pa_nil)) (pe_globI rfl T.g_LONGEST_NAME)))))) (pss_one (ps_ret pe_bl)) pss_nil)
  (pss_one (ps_ret (pe_callB (k_all (K := K) rfl rfl) rfl T.b_all boot_all (pa_cons (pe_comp (sc := defScope s_is_name) (XN := ["thing"]) ["sign"] 1 [] rfl rfl rfl (by decide +kernel) rfl (by decide +kernel)
   (ki_any (K := K) rfl (pv 0)) (fun _ _ _ _ => (pg_name (i := 0) (show (["sign"] : List Str).Nodup by decide +kernel) rfl (Or.inl rfl))) gk_name
   (fun _ _ _ _ => pifs_nil)
   (fun _ _ _ _ => (pe_chain u_le u_le pe_str (pv 0) pe_str))) pa_nil))))), ?_⟩
    obtain ⟨t, ht, ty, hs, hn, _, _, _⟩ := hv.ty (K := K)
    walk_at "vc"
    refine vIsiU (.inl ty) rfl (kit_tab K t ht "str" (by simp)) ?_
    walk_at "vc"
    refine ite2 (fun h => ?_) fun h => ?_
    · walk_at "vc"
      have z := q H (L2.Same.refl H)
      rw [hn (by simpa using h)] at z
      exact z
    · obtain ⟨x, rfl, hx⟩ := hs (by simpa using h)
      walk_at "vc"
      refine vLenS (Nat.le_trans hx (by decide)) ?_
      walk_at "vc"
      have q1 := q
      simp only [nameV, nameS] at q1
      have hneg : ¬ (1 ≤ x.length ∧ x.length ≤ 6) → ∀ H', L2.Same H H' → Q (.bl false) H' := fun hc H' hs => by
        have z := q1 H' hs
        rw [if_neg hc] at z
        exact z
      refine ite2 (fun h1 => ?_) fun h1 => ?_
      · walk_at "vc"
        refine ite2 (fun h2 => ?_) fun h2 => ?_
        · walk_at "vc"
          refine hneg (fun h => ?_) H (L2.Same.refl H)
          simp only [Bool.not_eq_true', decide_eq_false_iff_not] at h2
          omega
        · walk_at "vc"
          have hin : 1 ≤ x.length ∧ x.length ≤ 6 := by
            have a1 := of_decide_eq_true h1
            simp only [Bool.not_eq_true', decide_eq_false_iff_not, Classical.not_not] at h2
            omega
          rw [if_pos hin] at q1
          refine comp_str (fun i ys H' => H' = H ∧ ys = ((x.cps.toList.take i).map sg).map V.bl) ⟨rfl, by simp⟩ (fun i c ys H' hc hp => ?_) fun ys H' hp => ?_
          · obtain ⟨rfl, rfl⟩ := hp
            walk_at "vc"
            refine iteT ?_
            walk_at "vc"
            have hl : (List.map V.bl (List.map sg (List.take i x.cps.toList))).length < sizeLine := by
              rw [List.length_map, List.length_map, List.length_take]
              exact small1000 (Nat.le_trans (Nat.min_le_right _ _) (by simpa [Str.length] using (show x.length ≤ 1000 by omega)))
            have key : ∀ b, b = sg c → (List.map V.bl (List.map sg (List.take i x.cps.toList))) ++ [V.bl b] = List.map V.bl (List.map sg (List.take (i + 1) x.cps.toList)) := by
              intro b hb
              have e' : x.cps.toList[i]? = some c := by simpa using hc
              rw [hb, List.take_add_one, e']
              simp
            refine ite2 (fun h3 => ?_) fun h3 => ?_
            · walk_at "vc"
              exact ⟨hl, rfl, key _ (by unfold sg; rw [if_pos h3])⟩
            · exact ⟨hl, rfl, key _ (by unfold sg; rw [if_neg h3])⟩
          · obtain ⟨rfl, rfl⟩ := hp
            have ht : x.cps.toList.take x.cps.size = x.cps.toList := by rw [← Array.length_toList, List.take_length]
            rw [ht]
            refine ⟨?_, fun l hl => ?_⟩
            · rw [List.length_map, List.length_map]
              exact Nat.le_of_lt (small1000 (by simpa [Str.length] using (show x.length ≤ 1000 by omega)))
            · walk_at "vc"
              refine ⟨l, x.cps.toList.map sg, rfl, SqL.of upd_same, ?_⟩
              have z := q1 _ (Snew (L2.Same.refl H') (o := .lst ((x.cps.toList.map sg).map V.bl)) hl)
              rw [List.all_map]
              exact z
      · walk_at "vc"
        exact hneg (fun h => h1 (decide_eq_true (by omega))) H (L2.Same.refl H)
def numK : List Str → Nat → List (Key × V)
  | [], _ => []
  | s :: r, i => (.inr s, .int i) :: numK r (i + 1)
def placeV (ss : List Str) (v : V) : Bool := if nameV v = true then decide (strV v ∈ ss) else false
def pairV (ss : List Str) (y z : V) : Bool := placeV ss y && placeV ss z && !decide (strV y = strV z)
def tieV (H : Hp) (ss : List Str) (x : V) : Option (Str × Str) := match x with
  | .ref a => (match H a with
    | some (.tup [y, z]) => if pairV ss y z = true then some (strV y, strV z) else none
    | _ => none)
  | _ => none
end
open PySem L2 PyProof.Rows
def But (x : Addr) (H H' : Hp) : Prop := ∀ b o, b ≠ x → H b = some o → H' b = some o
theorem raise_done {K : W.Frag} {H1 : Hp} {C : Addr} {fl : Str} {y : V} {E : XK} (c : XAt K C) (q : ∀ dx H', L2.Same H1 H' → H' dx = some (.xd [(fl, y)]) → E (.ref C) (some dx) H') :
    [y].length ≤ 1000 ∧ ∀ x, H1 x = none → spX C fl (.ref x :: [y]) (upd H1 x (XN x C none)) (fun v H2 => v = .non ∧ ∃ a C' dx, (V.ref x) = .ref a ∧ H2 a = some (XN a C' dx) ∧ XAt K C' ∧ E (.ref C') dx (upd H2 a (XO a C' dx))) E0 := by
  refine ⟨by show 1 ≤ 1000; decide, fun x hx => ⟨x, y, rfl, upd_same, fun dx hdx => ⟨rfl, x, C, some dx, rfl, upd_same, c, q dx _ (fun b o e => ?_) ?_⟩⟩⟩
  · have nx : b ≠ x := fun z => by rw [z, hx] at e; cases e
    have nd : b ≠ dx := fun z => by rw [← z, upd_ne nx, e] at hdx; cases hdx
    rw [upd_ne nx, upd_ne nx, upd_ne nd, upd_ne nx]
    exact e
  · have nd : dx ≠ x := fun z => by rw [z, upd_same] at hdx; cases hdx
    rw [upd_ne nd, upd_ne nd, upd_same]
def ForR (g : TG) (t : TS) (D : Ends) (σ : L2.St) (J : It) (H1 : Hp) : Prop := ∃ W : Nat → Nat → L2.St → Hp → Prop, (∃ m, W 0 m σ H1) ∧ ∀ i m σ H, W i m σ H →
  (J.stop i H ∧ D.nx σ H) ∨ (J.go i H ∧ ∃ N : L2.St → Hp → Prop, (∀ σ' H', N σ' H' → ∃ m', m' < m ∧ W (i + 1) m' σ' H') ∧ ∀ x H', J.yld i H x H' → g x σ H' fun σ2 H2 => t { D with nx := N, ct := N, bk := D.nx } σ2 H2)
def Rz (cc : Nat → Addr) (H : Hp) (E : XK) (r : Nat × V) : Prop := ∀ dx H', L2.Same H H' → H' dx = some (.xd [(fldn r.1, r.2)]) → E (.ref (cc r.1)) (some dx) H'
theorem Rz.later {cc : Nat → Addr} {H H1 : Hp} {E : XK} {r : Nat × V} (h : Rz cc H E r) (s : L2.Same H H1) : Rz cc H1 E r := fun dx H' t e => h dx H' (s.trans t) e
section
variable {P : Program} {w : World} {K : W.Frag} {mg : Str → Option Value} {base : Heap} {cc : Nat → Addr} {cw : Addr}
end
open PySem L2 PyProof.Rows
def goT (H : Hp) (ss : List Str) : List V → List (Str × Str) → Option V
  | [], _ => none
  | x :: r, seen => match tieV H ss x with
    | none => some x
    | some t => if t ∈ seen ∨ (t.2, t.1) ∈ seen then some x else goT H ss r (seen ++ [t])
def outT (H : Hp) (ss : List Str) (v : V) : Option (List V) → Option (Nat × V)
  | none => some (3, v)
  | some xs => if 30 < xs.length then some (4, .int xs.length) else (goT H ss xs []).map fun y => (3, y)
def natV (ns : List Nat) : List V := ns.map fun (n : Nat) => .int (n : Int)
section
variable {P : Program} {w : World} {K : W.Frag} {mg : Str → Option Value} {base : Heap} {cc : Nat → Addr} {cw : Addr}
structure WOk (ss : List Str) (ns : List Nat) : Prop where
  len : ns.length = ss.length
  few : ss.length ≤ 14
  nd : ss.Nodup
  lt : ∀ a, ns.getD a 0 < 2 ^ ss.length
  nm : ∀ s ∈ ss, nameS s = true
def WebAt (cw : Addr) (H : Hp) (x : Addr) (ss : List Str) (ns : List Nat) : Prop := ∃ dx d ol n, H x = some (.ins cw dx (putF "near" (.ref n) (putF "order" (.ref ol) (putF "numbers" (.ref d) [])))) ∧ H d = some (.dK (numK ss 0)) ∧ H ol = some (.lst (ss.map V.str)) ∧ H n = some (.lst (natV ns)) ∧ WOk ss ns
def WebN (H0 : Hp) (cw : Addr) (H : Hp) (x : Addr) (ss : List Str) (ns : List Nat) : Prop := ∃ dx d ol n, H x = some (.ins cw dx (putF "near" (.ref n) (putF "order" (.ref ol) (putF "numbers" (.ref d) [])))) ∧ H d = some (.dK (numK ss 0)) ∧ H ol = some (.lst (ss.map V.str)) ∧ H n = some (.lst (natV ns)) ∧ WOk ss ns ∧ H0 d = none ∧ H0 ol = none ∧ H0 n = none
def WebP (A : Addr → Prop) (cw : Addr) (H : Hp) (x : Addr) (ss : List Str) (ns : List Nat) : Prop := ∃ dx d ol n, H x = some (.ins cw dx (putF "near" (.ref n) (putF "order" (.ref ol) (putF "numbers" (.ref d) [])))) ∧ H d = some (.dK (numK ss 0)) ∧ H ol = some (.lst (ss.map V.str)) ∧ H n = some (.lst (natV ns)) ∧ WOk ss ns ∧ ¬ A x ∧ ¬ A d ∧ ¬ A ol ∧ ¬ A n
end
open PySem L2 PyProof.Rows
section
variable {P : Program} {w : World} {K : W.Frag} {mg : Str → Option Value} {base : Heap} {cc : Nat → Addr} {cw : Addr}
end
open PySem L2 PyProof.Rows
inductive Rch (ns : List Nat) (i : Nat) : Nat → Prop
  | base : Rch ns i i
  | step {a b : Nat} (h : Rch ns i a) (t : (ns.getD a 0).testBit b = true) : Rch ns i b
structure All2 {α β : Type} (R : α → β → Prop) (l : List α) (m : List β) : Prop where
  len : l.length = m.length
  at_ : ∀ (k : Nat) a b, l[k]? = some a → m[k]? = some b → R a b
open Classical in
section
variable {P : Program} {w : World} {K : W.Frag} {mg : Str → Option Value} {base : Heap} {cc : Nat → Addr} {cw : Addr}
end
open PySem L2 PyProof.Rows
def PrAt (H H' : Hp) (l : Addr) (t : Addr) (ab : Str × Str) : Prop := H t = none ∧ t ≠ l ∧ H' t = some (.tup [.str ab.1, .str ab.2])
section
variable {P : Program} {w : World} {K : W.Frag} {mg : Str → Option Value} {base : Heap} {cc : Nat → Addr} {cw : Addr}
end
open PySem L2 PyProof.Rows
def Box (H : Hp) (p : Addr) : Prop := ∃ a b c : Int, H p = some (.lst [.int a, .int b, .int c])
def BB (p : Addr) (H H' : Hp) : Prop := (∀ b o, b ≠ p → H b = some o → H' b = some o) ∧ Box H' p
section
variable {P : Program} {w : World} {K : W.Frag} {mg : Str → Option Value} {base : Heap} {cc : Nat → Addr} {cw : Addr}
theorem cut_mem {xs : List V} {lo hi : Option Int} {y : V} (h : y ∈ cutV xs lo hi) : y ∈ xs := by
  unfold cutV at h
  exact List.mem_of_mem_drop (List.mem_of_mem_take h)
def NewH (H H' : Hp) : Hp := fun a => match H a with | none => H' a | some _ => none
theorem inV_str (c : Str) (ss : List Str) : inV (.str c) (ss.map V.str) = decide (c ∈ ss) := by
  unfold inV
  rw [List.any_map, Bool.eq_iff_iff, List.any_eq_true, decide_eq_true_iff]
  constructor
  · rintro ⟨y, hy, e⟩
    have : y = c := eq_of_beq e
    rw [← this]; exact hy
  · intro h
    exact ⟨c, h, beq_self_eq_true c⟩
theorem flat_strs (ss : List Str) : (ss.map V.str).all flatV = true := by rw [List.all_map]; exact List.all_eq_true.mpr fun _ _ => rfl
def signs : List Str := ("abcdefghijklmno" : Str).cps.toList.map fun c => ⟨#[c]⟩
end
open PySem L2 PyProof.Rows
theorem slice_ix (k n : Nat) : Builtin.Str.strSliceIndices none (some (k : Int)) 1 n = List.range (min k n) := by
  unfold Builtin.Str.strSliceIndices sliceRange
  simp only [show (1 : Int) > 0 by decide, if_true]
  rw [if_neg (show ¬ ((k : Int) < 0) by omega)]
  have e1 : max 0 (min (k : Int) n) = ((min k n : Nat) : Int) := by omega
  rw [e1]
  have e2 : (fun (j : Nat) => ((0 : Int) + 1 * (j : Int)).toNat) = id := by funext j; show _ = j; omega
  rw [e2, List.map_id]
  congr 1
  split
  · rw [Int.ediv_one]; omega
  · omega
theorem fm_take (a : Array Nat) : ∀ m, m ≤ a.size → (List.range m).filterMap (a[·]?) = a.toList.take m
  | 0, _ => rfl
  | m + 1, h => by
    rw [List.range_succ, List.filterMap_append, fm_take a m (by omega), List.take_add_one]
    congr 1
    have e : a[m]? = some a[m] := Array.getElem?_eq_getElem (by omega)
    have e' : a.toList[m]? = some a[m] := by rw [Array.getElem?_toList]; exact e
    rw [e', List.filterMap_cons, e]
    rfl
theorem slice_take (z : Str) (k : Nat) : (Txt.slice z none (some (k : Int))).cps.toList = z.cps.toList.take k := by
  unfold Txt.slice
  rw [slice_ix]
  have hz : z.length = z.cps.toList.length := by simp [Str.length]
  split
  · rename_i h
    rw [List.length_range] at h
    have : min k z.length = z.length := by simpa using h
    rw [List.take_of_length_le (by omega)]
  · show (List.filterMap _ _).toArray.toList = _
    rw [fm_take z.cps (min k z.length) (Nat.min_le_right _ _)]
    show z.cps.toList.take (min k z.length) = _
    by_cases hk : k ≤ z.length
    · rw [Nat.min_eq_left hk]
    · rw [Nat.min_eq_right (by omega), List.take_of_length_le (by omega), List.take_of_length_le (by omega)]
theorem app_list (a b : Str) : (a ++ b).cps.toList = a.cps.toList ++ b.cps.toList := by
  show (a.cps ++ b.cps).toList = _
  exact Array.toList_append
theorem sg_of {c : Nat} (h : 97 ≤ c) (h2 : c ≤ 122) : sg c = true := by
  have key : ∀ i, i < 26 → sg (97 + i) = true := by decide +kernel
  have := key (c - 97) (by omega)
  rwa [show 97 + (c - 97) = c by omega] at this
def Signs (p : Addr) (H : Hp) (i : Nat) (ys : List V) (H' : Hp) : Prop := BB p H H' ∧ ∃ xs : List Str, ys = xs.map V.str ∧ xs.length = i ∧ ∀ x ∈ xs, x.length = 1 ∧ x.cps.toList.all sg = true
def L26 : Str := "abcdefghijklmnopqrstuvwxyz"
theorem L26_at {i : Int} (h0 : 0 ≤ i) (h1 : i < 26) : atI L26.cps.toList i = some (97 + i.toNat) := by
  obtain ⟨n, rfl⟩ := Int.eq_ofNat_of_zero_le h0
  have key : ∀ n, n < 26 → L26.cps.toList[n]? = some (97 + n) := by decide +kernel
  rw [Int.toNat_natCast]
  exact atI_nat (key n (by omega))
theorem nameS_of {x : Str} {l : List Nat} (e : x.cps.toList = l) (h1 : 1 ≤ l.length) (h6 : l.length ≤ 6) (h : l.all sg = true) : nameS x = true := by
  have hl : x.length = l.length := by rw [← e]; simp [Str.length]
  unfold nameS
  rw [if_pos ⟨by omega, by omega⟩, e]
  exact h
theorem nodup_key {ss : List Str} (h : ∀ (i j : Nat) (s : Str), ss[i]? = some s → ss[j]? = some s → i = j) : ss.Nodup := by
  refine List.pairwise_iff_getElem.mpr fun i j hi hj hij e => ?_
  have := h i j ss[j] (by rw [List.getElem?_eq_getElem hi, e]) (List.getElem?_eq_getElem hj)
  omega
theorem step_inj {step sh a b : Int} (hs : step ∈ [(1 : Int), 3, 5, 7, 9, 11, 15, 25]) (ha : 0 ≤ a) (hb : 0 ≤ b) (ha' : a < 26) (hb' : b < 26) (e : (sh + step * a) % 26 = (sh + step * b) % 26) : a = b := by
  simp only [List.mem_cons, List.not_mem_nil, or_false] at hs
  rcases hs with rfl | rfl | rfl | rfl | rfl | rfl | rfl | rfl <;> omega
structure NOk (ss : List Str) : Prop where
  few : ss.length ≤ 14
  nd : ss.Nodup
  nm : ∀ s ∈ ss, nameS s = true
section
variable {P : Program} {w : World} {K : W.Frag} {mg : Str → Option Value} {base : Heap} {cc : Nat → Addr} {cw : Addr}
end
open PySem L2 PyProof.Rows
/- read_names: calls ['words_or_none', 'is_name']; cells [] -/
abbrev s_read_names : Stmt := top 12
theorem sc_read_names : FnScope ["text", "words"] ["text"] (defScope s_read_names) := ⟨rfl, rfl, rfl, by decide +kernel, rfl, by decide +kernel, by decide +kernel⟩
/- read_ties: calls ['words_or_none', 'is_written_tie']; cells [] -/
abbrev s_read_ties : Stmt := top 13
theorem sc_read_ties : FnScope ["text", "ties"] ["text"] (defScope s_read_ties) := ⟨rfl, rfl, rfl, by decide +kernel, rfl, by decide +kernel, by decide +kernel⟩
/- is_written_tie: calls ['is_name']; cells [] -/
abbrev s_is_written_tie : Stmt := top 14
theorem sc_is_written_tie : FnScope ["tie"] ["tie"] (defScope s_is_written_tie) := ⟨rfl, rfl, rfl, by decide +kernel, rfl, by decide +kernel, by decide +kernel⟩
/- words_or_none: calls []; cells [] -/
abbrev s_words_or_none : Stmt := top 15
theorem sc_words_or_none : FnScope ["text"] ["text"] (defScope s_words_or_none) := ⟨rfl, rfl, rfl, by decide +kernel, rfl, by decide +kernel, by decide +kernel⟩
theorem sp_eq : (" " : Str) = ⟨#[32]⟩ := by decide +kernel
theorem da_eq : ("-" : Str) = ⟨#[45]⟩ := by decide +kernel
theorem split_ne (x : Str) (c : Nat) : Txt.split x ⟨#[c]⟩ ≠ [] := fun e => by
  have := split_pos x ⟨#[c]⟩
  rw [e] at this
  exact absurd this (by decide)
theorem split_len (x : Str) (c : Nat) : (∀ p ∈ Txt.split x ⟨#[c]⟩, p.length ≤ x.length) ∧ (Txt.split x ⟨#[c]⟩).length ≤ x.length + 1 := by
  have hj := StrLaws.join_split x ⟨#[c]⟩
  have h2 := join_jl ⟨#[c]⟩ (Txt.split x ⟨#[c]⟩)
  rw [hj] at h2
  have key : ∀ (ls : List (List Nat)), (∀ l ∈ ls, l.length ≤ (jl [c] ls).length) ∧ ls.length ≤ (jl [c] ls).length + 1 := fun ls => by
    induction ls with
    | nil => exact ⟨(fun l h => by cases h), by simp⟩
    | cons a r ih =>
      cases r with
      | nil => exact ⟨fun l h => by rw [List.mem_singleton.mp h]; exact Nat.le_refl _, by simp⟩
      | cons b r' =>
        have e : jl [c] (a :: b :: r') = a ++ [c] ++ jl [c] (b :: r') := rfl
        rw [e]
        refine ⟨fun l h => ?_, ?_⟩
        · rw [List.length_append, List.length_append]
          rcases List.mem_cons.mp h with z | z
          · rw [z]; omega
          · have := ih.1 l z; omega
        · have := ih.2
          rw [List.length_append, List.length_append, List.length_cons]
          simp only [List.length_cons, List.length_nil] at this ⊢
          omega
  have hl : x.length = (jl [c] ((Txt.split x ⟨#[c]⟩).map (·.cps.toList))).length := by
    rw [← h2]
    simp [Str.length]
  obtain ⟨k1, k2⟩ := key ((Txt.split x ⟨#[c]⟩).map (·.cps.toList))
  refine ⟨fun p hp => ?_, ?_⟩
  · have := k1 p.cps.toList (List.mem_map.mpr ⟨p, hp, rfl⟩)
    rw [hl]
    simpa [Str.length] using this
  · rw [List.length_map] at k2
    omega
def wdsN (z : Str) : List Str := if z = "-" then [] else Txt.split z " "
theorem wdsN_len (z : Str) : (∀ p ∈ wdsN z, p.length ≤ z.length) ∧ (wdsN z).length ≤ z.length + 1 := by
  unfold wdsN
  split
  · exact ⟨(fun p h => by cases h), by simp⟩
  · rw [sp_eq]; exact split_len z 32
def wc (c : Nat) : Bool := if (!decide (([c] : List Nat) < ("!" : Str).cps.toList)) = true then !decide (("~" : Str).cps.toList < [c]) else false
def wdS (z : Str) : Bool := if z = "" then false else z.cps.toList.all wc
def rdN (z : Str) : Option (List Str) := if (wdsN z).all nameS = true then some (wdsN z) else none
def twoS (ws : List Str) : Bool := match ws with
  | [a, b] => nameS a && nameS b
  | _ => false
def rdTi (z : Str) : Option (List (List Str)) := if ((wdsN z).map fun w => Txt.split w "-").all twoS = true then some ((wdsN z).map fun w => Txt.split w "-") else none
def rdW (z : Str) : Option (List Str) := if z.length ≤ 400 ∧ (Txt.split z " ").all wdS = true then some (Txt.split z " ") else none
theorem th_long {p : Addr} {H : Hp} {n : Nat} {s : Str} (h : s.length ≤ 1000) : Th p H n (.str s) := Th.flat rfl fun z e => by cases e; omega
def spWN (cc : Nat → Addr) : Sp := fun vs H Q E => ∃ (p : Addr) (k : Nat) (v : V), vs = [v] ∧ Th p H k v ∧ ((∀ z, v ≠ .str z) → Rz cc H E (0, v)) ∧ ∀ z, v = .str z → z.length ≤ 1000 ∧ ∀ (l : Addr) (H' : Hp), L2.Same H H' → H l = none → H' l = some (.lst ((wdsN z).map V.str)) → Q (.ref l) H'
def spRN (cc : Nat → Addr) : Sp := fun vs H Q E => ∃ (p : Addr) (k : Nat) (v : V), vs = [v] ∧ Th p H k v ∧ ((∀ z, v ≠ .str z) → Rz cc H E (0, v)) ∧ ∀ z, v = .str z → z.length ≤ 1000 ∧ (rdN z = none → Rz cc H E (0, v)) ∧ ∀ ws, rdN z = some ws → ∀ (l : Addr) (H' : Hp), L2.Same H H' → H l = none → H' l = some (.lst (ws.map V.str)) → Q (.ref l) H'
def spRTi (cc : Nat → Addr) : Sp := fun vs H Q E => ∃ (p : Addr) (k : Nat) (v : V), vs = [v] ∧ Th p H k v ∧ ((∀ z, v ≠ .str z) → Rz cc H E (0, v)) ∧ ∀ z, v = .str z → z.length ≤ 1000 ∧ (rdTi z = none → Rz cc H E (0, v)) ∧ ∀ ws, rdTi z = some ws → ∀ (l : Addr) (us : List Addr) (H' : Hp), L2.Same H H' → H l = none → H' l = some (.lst (us.map V.ref)) → us.length = ws.length → (∀ (i : Nat) u w, us[i]? = some u → ws[i]? = some w → u ≠ l ∧ H' u = some (.tup (w.map V.str))) → Q (.ref l) H'
def spWO (cc : Nat → Addr) : Sp := fun vs H Q E => ∃ (p : Addr) (k : Nat) (v : V), vs = [v] ∧ Th p H k v ∧ ((∀ z, v ≠ .str z) → Rz cc H E (0, v)) ∧ ∀ z, v = .str z → z.length ≤ 1000 ∧ (rdW z = none → Rz cc H E (0, v)) ∧ ∀ ws, rdW z = some ws → ∀ (l : Addr) (H' : Hp), L2.Same H H' → H l = none → H' l = some (.lst (ws.map V.str)) → Q (.ref l) H'
def spTwoS : Sp := fun vs H Q _ => ∃ (t : Addr) (ws : List Str), vs = [.ref t] ∧ H t = some (.tup (ws.map V.str)) ∧ ws.length ≤ 1001 ∧ (∀ w ∈ ws, w.length ≤ 1000) ∧ ∀ H', L2.Same H H' → Q (.bl (twoS ws)) H'
def spWd : Sp := fun vs H Q _ => ∃ z : Str, vs = [.str z] ∧ z.length ≤ 1000 ∧ ∀ H', L2.Same H H' → Q (.bl (wdS z)) H'
def spTN : Sp := fun vs H Q _ => ∃ (l : Addr) (ws : List Str), vs = [.ref l] ∧ H l = some (.lst (ws.map V.str)) ∧ ws.length ≤ 1000 ∧ (∀ w ∈ ws, w.length ≤ 1000) ∧ Q (.str (if ws = [] then "-" else Txt.join " " ws)) H
def spTT : Sp := fun vs H Q _ => ∃ (l : Addr) (ts : List Addr) (tps : List (Str × Str)), vs = [.ref l] ∧ H l = some (.lst (ts.map V.ref)) ∧ ts.length = tps.length ∧ (∀ (i : Nat) t ab, ts[i]? = some t → tps[i]? = some ab → H t = some (.tup [.str ab.1, .str ab.2])) ∧ tps.length ≤ 100 ∧ (∀ ab ∈ tps, ab.1.length ≤ 6 ∧ ab.2.length ≤ 6) ∧
  ∀ H', L2.Same H H' → Q (.str (if tps = [] then "-" else Txt.join " " (tps.map fun ab => Txt.join "-" [ab.1, ab.2]))) H'
theorem sum_le {α : Type} (f : α → Nat) (b : Nat) : ∀ l : List α, (∀ x ∈ l, f x ≤ b) → (l.map f).sum ≤ l.length * b
  | [], _ => by simp
  | x :: r, h => by
    rw [List.map_cons, List.sum_cons, List.length_cons, Nat.add_mul]
    have := sum_le f b r fun y hy => h y (List.mem_cons_of_mem _ hy)
    have := h x List.mem_cons_self
    omega
section
variable {P : Program} {w : World} {K : W.Frag} {mg : Str → Option Value} {base : Heap} {cc : Nat → Addr} {cw : Addr}
theorem ok_wn {f : Addr} {fd : FuncData} (F : Fun K "words_or_none" "words_or_none" s_words_or_none f fd) (T : Txt K mg cc cw) (D_NoLine : XMakeOk P w K mg base 2 (cc 0) "NoLine" ["self", "found"] (spX (cc 0) (fldn 0))) : FnOk P w K mg base (CX1 P w) 4 f fd ["text"] (spWN cc) := by
  refine F.ok1 sc_words_or_none (fun vs H Q E h => ?_) fun cdv A outer s H vs Q E hr h => ?_
  · obtain ⟨p, k, v, rfl, _⟩ := h; rfl
  · obtain ⟨p, k, v, rfl, hv, hz, q⟩ := h
    have hu := u100 hr
    refine ⟨_, (pss_cons (ps_if (pt_not (pt_val (pe_callB (k_isiU (K := K) rfl) rfl T.b_isinstance boot_isinstance (pa_cons (pv 0) (pa_cons (pe_bltn (v := .ty "str") rfl T.b_str boot_str rfl) pa_nil))))) (pss_one (k_raise (K := K) rfl xok_fn (pe_xm D_NoLine (hm hr) (pa_cons (pv 0) pa_nil)))) pss_nil)
  (pss_one (ps_ret (pe_ifExp (pt_cmpR (k_eqZ (K := K) rfl hu) (pv 0) (pe_globS rfl T.g_NOTHING) (nomark _)) (pe_lst pa_nil) (k_bm (K := K) rfl PySem.F.plainAttrs_str PySem.F.slot_str_split PySem.F.type_str_split mt_split (pv 0) (pa_cons pe_str pa_nil)))))), ?_⟩
    obtain ⟨t, ht, ty, hs, hn, _, _, _⟩ := hv.ty (K := K)
    walk_at "vc"
    refine vIsiU (.inl ty) rfl (kit_tab K t ht "str" (by simp)) ?_
    walk_at "vc"
    refine ite2 (fun h => ?_) fun h => ?_
    · walk_at "vc"
      refine raise_done (T.xat 0 (by decide)) (hz fun z e => ?_)
      subst e
      cases ty
      exact absurd h (by decide)
    obtain ⟨z, rfl, _⟩ := hs (by simpa using h)
    obtain ⟨hl, q⟩ := q z rfl
    unfold wdsN at q
    walk_at "vc"
    refine .inl (.inl (.inl ⟨rfl, rfl, ?_⟩))
    rw [if_neg Bool.false_ne_true, eqV_strD]
    walk_at "vc"
    refine ite2 (fun h => ?_) fun h => ?_
    · walk_at "vc"
      rw [if_pos (of_decide_eq_true h)] at q
      exact ⟨by decide, fun l hl0 => q l _ (Snew (L2.Same.refl H) hl0) hl0 upd_same⟩
    · have hne : ¬ z = "-" := fun e => h (decide_eq_true e)
      rw [if_neg hne] at q
      walk_at "vc"
      refine ⟨rfl, ?_⟩
      walk_at "vc"
      exact ⟨z, " ", rfl, rfl, by decide +kernel, Nat.le_trans (show z.length + 2 ≤ 1002 by omega) (by decide), fun l hl0 => q l _ (Snew (L2.Same.refl H) hl0) hl0 upd_same⟩
theorem all_bl (l : List Str) (g : Str → Bool) : (l.map g).all id = l.all g := by rw [List.all_map]; rfl
theorem ok_rn {f : Addr} {fd : FuncData} (F : Fun K "read_names" "read_names" s_read_names f fd) (T : Txt K mg cc cw) (D_words_or_none : DefOk P w K mg base (CX1 P w) 4 "words_or_none" ["text"] (spWN cc)) (D_is_name : DefOk P w K mg base CX0 1 "is_name" ["thing"] spName) (D_NoLine : XMakeOk P w K mg base 2 (cc 0) "NoLine" ["self", "found"] (spX (cc 0) (fldn 0))) : FnOk P w K mg base (CX1 P w) 5 f fd ["text"] (spRN cc) := by
  refine F.ok1 sc_read_names (fun vs H Q E h => ?_) fun cdv A outer s H vs Q E hr h => ?_
  · obtain ⟨p, k, v, rfl, _⟩ := h; rfl
  · obtain ⟨p, k, v, rfl, hv, hz, q⟩ := h
    have hu := u100 hr
    refine ⟨_, (pss_cons (ps_set (i := 1) sc_read_names.nd rfl (Or.inl rfl) (pe_defS D_words_or_none (hm hr) xok_fn (pa_cons (pv 0) pa_nil)))
  (pss_cons (ps_if (pt_not (pt_val (pe_callB (k_all (K := K) rfl rfl) rfl T.b_all boot_all (pa_cons (pe_comp (sc := defScope s_read_names) (XN := ["text", "words"]) ["word"] 1 [] rfl rfl rfl (by decide +kernel) rfl (by decide +kernel)
   (ki_any (K := K) rfl (pv 1)) (fun _ _ _ _ => (pg_name (i := 0) (show (["word"] : List Str).Nodup by decide +kernel) rfl (Or.inl rfl))) gk_name
   (fun _ _ _ _ => pifs_nil)
   (fun _ _ _ _ => (pe_def D_is_name (hm hr) pass0 (pa_cons (pv 0) pa_nil)))) pa_nil)))) (pss_one (k_raise (K := K) rfl xok_fn (pe_xm D_NoLine (hm hr) (pa_cons (pv 0) pa_nil)))) pss_nil)
  (pss_one (ps_ret (pv 1))))), ?_⟩
    walk_at "vc"
    refine ⟨p, k, v, rfl, hv, hz, fun z ez => ?_⟩
    obtain ⟨hl, hno, q⟩ := q z ez
    refine ⟨hl, fun l H1 s1 hl0 hl1 => ?_⟩
    obtain ⟨wl, wn⟩ := wdsN_len z
    unfold rdN at hno q
    generalize wdsN z = ws at *
    have hv1 := hv.same s1
    walk_at "vc"
    refine .inl ⟨⟨_, SqL.of hl1⟩, comp_list (K := K) (fun i ys H' => L2.Same H1 H' ∧ ys = ((ws.take i).map nameS).map V.bl) ⟨L2.Same.refl H1, by simp⟩ (fun i ys H' _ hp => SqL.of (hp.1 _ _ hl1)) (fun i y ys H' hy hp => ?_) fun ys H' hp => ?_⟩
    · obtain ⟨s2, rfl⟩ := hp
      obtain ⟨wd, gi, rfl⟩ : ∃ wd, ws[i]? = some wd ∧ y = .str wd := by
        rw [List.getElem?_map] at hy
        cases e : ws[i]? with
        | none => rw [e] at hy; cases hy
        | some wd => rw [e] at hy; exact ⟨wd, rfl, (Option.some.inj hy).symm⟩
      have hi : i < ws.length := (List.getElem?_eq_some_iff.mp gi).1
      have hwl := wl wd (List.mem_of_getElem? gi)
      walk_at "vc"
      refine iteT ?_
      walk_at "vc"
      refine ⟨p, 0, .str wd, rfl, th_long (by omega), fun H3 s3 => ?_⟩
      refine ⟨by rw [List.length_map, List.length_map, List.length_take]; exact Nat.lt_of_le_of_lt (Nat.min_le_left _ _) (small1000 (by omega)), s2.trans s3, ?_⟩
      rw [List.take_add_one, gi]
      simp [nameV]
    · obtain ⟨s2, rfl⟩ := hp
      have etk : ws.take (ws.map V.str).length = ws := by rw [List.length_map, List.take_length]
      rw [etk]
      refine ⟨by rw [List.length_map, List.length_map]; exact Nat.le_trans wn (Nat.le_trans (Nat.add_le_add_right hl 1) (by decide)), fun c hc => ?_⟩
      have s3 := Snew s2 (o := .lst ((ws.map nameS).map V.bl)) hc
      walk_at "vc"
      refine ⟨c, ws.map nameS, rfl, SqL.of upd_same, ?_⟩
      rw [all_bl]
      generalize upd H' c (.lst ((ws.map nameS).map V.bl)) = H3 at s3 ⊢
      walk_at "vc"
      refine ite2 (fun h => ?_) fun h => ?_
      · walk_at "vc"
        have hf : ws.all nameS = false := by simpa using h
        exact raise_done (T.xat 0 (by decide)) ((hno (if_neg (by rw [hf]; exact Bool.false_ne_true))).later (s1.trans s3))
      · have ht : ws.all nameS = true := by simpa using h
        walk_at "vc"
        exact q ws (if_pos ht) l H3 (s1.trans s3) hl0 (s3 _ _ hl1)
theorem ok_twoS {f : Addr} {fd : FuncData} (F : Fun K "is_written_tie" "is_written_tie" s_is_written_tie f fd) (T : Txt K mg cc cw) (D_is_name : DefOk P w K mg base CX0 1 "is_name" ["thing"] spName) : FnOk P w K mg base CX0 2 f fd ["tie"] spTwoS := by
  refine F.ok sc_is_written_tie (fun vs H Q E h => ?_) fun cdv A outer s H vs Q E hr h => ?_
  · obtain ⟨t, ws, rfl, _⟩ := h; rfl
  · obtain ⟨t, ws, rfl, ht, hl, hw, q⟩ := h
    have hu := u100 hr
    refine ⟨_, (pss_one (ps_ret (pe_and (pe_cmpR (k_eqZ (K := K) rfl hu) (pe_callB (k_len (K := K) rfl) rfl T.b_len boot_len (pa_cons (pv 0) pa_nil)) pe_int (nomark _)) (pe_and (pe_def D_is_name (hm hr) pass0 (pa_cons (pe_ix (k_ixU (K := K) rfl hu) (pv 0) pe_int (fun _ _ => rfl)) pa_nil)) (pe_one (pe_def D_is_name (hm hr) pass0 (pa_cons (pe_ix (k_ixU (K := K) rfl hu) (pv 0) pe_int (fun _ _ => rfl)) pa_nil))))))), ?_⟩
    walk_at "vc"
    refine vLenT ht ?_
    rw [List.length_map]
    walk_at "vc"
    refine .inl (.inl (.inl ⟨rfl, rfl, ?_⟩))
    rw [if_neg Bool.false_ne_true]
    walk_at "vc"
    have h2 : eqV (V.int (ws.length : Nat)) (V.int 2) = decide (ws.length = 2) := by
      rw [Bool.eq_iff_iff]
      simp [eqV]
      omega
    rw [h2]
    refine ite2 (fun h => ?_) fun h => ?_
    · have h := of_decide_eq_true h
      match ws, h, ht, hw, q with
      | [a, b], _, ht, hw, q =>
        have ha := hw a (by simp)
        have hb := hw b (by simp)
        walk_at "vc"
        refine .inl (vIxT ht rfl ?_)
        walk_at "vc"
        refine ⟨t, 0, .str a, rfl, th_long ha, fun H1 s1 => ?_⟩
        walk_at "vc"
        have e2 : twoS [a, b] = (nameS a && nameS b) := rfl
        rw [e2] at q
        refine ite2 (fun h => ?_) fun h => ?_
        · walk_at "vc"
          refine .inl (vIxT (s1 _ _ ht) rfl ?_)
          walk_at "vc"
          refine ⟨t, 0, .str b, rfl, th_long hb, fun H2 s2 => ?_⟩
          have := q H2 (s1.trans s2)
          rw [show nameS a = true from h, Bool.true_and] at this
          exact this
        · have hf : nameS a = false := by
            cases e : nameS a with
            | true => exact absurd e h
            | false => rfl
          have := q H1 s1
          rw [hf] at this
          exact this
    · have hf : twoS ws = false := by
        match ws, h with
        | [], _ => rfl
        | [_], _ => rfl
        | [_, _], h => exact absurd rfl h
        | _ :: _ :: _ :: _, _ => rfl
      rw [hf] at q
      exact q H (L2.Same.refl H)
theorem ok_rti {f : Addr} {fd : FuncData} (F : Fun K "read_ties" "read_ties" s_read_ties f fd) (T : Txt K mg cc cw) (D_words_or_none : DefOk P w K mg base (CX1 P w) 4 "words_or_none" ["text"] (spWN cc)) (D_is_written_tie : DefOk P w K mg base CX0 2 "is_written_tie" ["tie"] spTwoS) (D_NoLine : XMakeOk P w K mg base 2 (cc 0) "NoLine" ["self", "found"] (spX (cc 0) (fldn 0))) : FnOk P w K mg base (CX1 P w) 5 f fd ["text"] (spRTi cc) := by
  refine F.ok1 sc_read_ties (fun vs H Q E h => ?_) fun cdv A outer s H vs Q E hr h => ?_
  · obtain ⟨p, k, v, rfl, _⟩ := h; rfl
  · obtain ⟨p, k, v, rfl, hv, hz, q⟩ := h
    have hu := u100 hr
    refine ⟨_, (pss_cons (ps_setC (sc := defScope s_read_ties) (XN := ["text", "ties"]) ["word"] 1 [] rfl rfl rfl (by decide +kernel) rfl (by decide +kernel) (i := 1) sc_read_ties.nd rfl rfl
   (ki_any (K := K) rfl (pe_defS D_words_or_none (hm hr) xok_fn (pa_cons (pv 0) pa_nil))) (fun _ _ _ _ => (pg_name (i := 0) (show (["word"] : List Str).Nodup by decide +kernel) rfl (Or.inl rfl))) gk_name
   (fun _ _ _ _ => pifs_nil)
   (fun _ _ _ _ => (pe_callTy (k_tupleU (K := K) rfl) rfl T.b_tuple boot_tuple (pa_cons (k_bm (K := K) rfl PySem.F.plainAttrs_str PySem.F.slot_str_split PySem.F.type_str_split mt_split (pv 0) (pa_cons pe_str pa_nil)) pa_nil))))
  (pss_cons (ps_if (pt_not (pt_val (pe_callB (k_all (K := K) rfl rfl) rfl T.b_all boot_all (pa_cons (pe_comp (sc := defScope s_read_ties) (XN := ["text", "ties"]) ["tie"] 1 [] rfl rfl rfl (by decide +kernel) rfl (by decide +kernel)
   (ki_any (K := K) rfl (pv 1)) (fun _ _ _ _ => (pg_name (i := 0) (show (["tie"] : List Str).Nodup by decide +kernel) rfl (Or.inl rfl))) gk_name
   (fun _ _ _ _ => pifs_nil)
   (fun _ _ _ _ => (pe_def D_is_written_tie (hm hr) pass0 (pa_cons (pv 0) pa_nil)))) pa_nil)))) (pss_one (k_raise (K := K) rfl xok_fn (pe_xm D_NoLine (hm hr) (pa_cons (pv 0) pa_nil)))) pss_nil)
  (pss_one (ps_ret (pv 1))))), ?_⟩
    walk_at "vc"
    refine ⟨p, k, v, rfl, hv, hz, fun z ez => ?_⟩
    obtain ⟨hl, hno, q⟩ := q z ez
    refine ⟨hl, fun l H1 s1 hl0 hl1 => ?_⟩
    obtain ⟨wl, wn⟩ := wdsN_len z
    unfold rdTi at hno q
    generalize wdsN z = ws at *
    refine .inl ⟨⟨_, SqL.of hl1⟩, comp_list (K := K) (fun i ys H' => L2.Same H1 H' ∧ ∃ us : List Addr, ys = us.map V.ref ∧ us.length = i ∧ ∀ (j : Nat) u w, us[j]? = some u → ws[j]? = some w → H1 u = none ∧ H' u = some (.tup ((Txt.split w "-").map V.str))) ⟨L2.Same.refl H1, [], rfl, rfl, fun j u w h => by simp at h⟩ (fun i ys H' _ hp => SqL.of (hp.1 _ _ hl1)) (fun i y ys H' hy hp => ?_) fun ys H' hp => ?_⟩
    · obtain ⟨s2, us, rfl, hul, hus⟩ := hp
      obtain ⟨wd, gi, rfl⟩ : ∃ wd, ws[i]? = some wd ∧ y = .str wd := by
        rw [List.getElem?_map] at hy
        cases e : ws[i]? with
        | none => rw [e] at hy; cases hy
        | some wd => rw [e] at hy; exact ⟨wd, rfl, (Option.some.inj hy).symm⟩
      have hi : i < ws.length := (List.getElem?_eq_some_iff.mp gi).1
      have hwl := wl wd (List.mem_of_getElem? gi)
      walk_at "vc"
      refine iteT ?_
      walk_at "vc"
      refine ⟨rfl, ?_⟩
      walk_at "vc"
      refine ⟨wd, "-", rfl, rfl, by decide +kernel, Nat.le_trans (show wd.length + 2 ≤ 1002 by omega) (by decide), fun c hc => ?_⟩
      have s3 := Snew s2 (o := .lst ((Txt.split wd "-").map V.str)) hc
      have ec : upd H' c (.lst ((Txt.split wd "-").map V.str)) c = some (.lst ((Txt.split wd "-").map V.str)) := upd_same
      have s23 := Snew (L2.Same.refl H') (o := .lst ((Txt.split wd "-").map V.str)) hc
      generalize upd H' c (.lst ((Txt.split wd "-").map V.str)) = H3 at s3 ec s23 ⊢
      walk_at "vc"
      refine ⟨c, _, rfl, .inl ⟨SqL.of ec, fun t ht => ?_⟩⟩
      have s34 := Snew (L2.Same.refl H3) (o := .tup ((Txt.split wd "-").map V.str)) ht
      refine ⟨by rw [List.length_map, hul]; exact small1000 (by omega), s3.trans s34, us ++ [t], by rw [List.map_append]; rfl, by rw [List.length_append, hul]; rfl, fun j u w hj gj => ?_⟩
      by_cases hji : j < us.length
      · rw [List.getElem?_append_left hji] at hj
        obtain ⟨h1, h2⟩ := hus j u w hj gj
        exact ⟨h1, s34 _ _ (s23 _ _ h2)⟩
      · rw [List.getElem?_append_right (by omega)] at hj
        have e0 : j - us.length = 0 := by
          have := (List.getElem?_eq_some_iff.mp hj).1
          simp only [List.length_cons, List.length_nil] at this
          omega
        rw [e0] at hj
        cases hj
        have : j = i := by omega
        subst this
        rw [gi] at gj
        cases gj
        exact ⟨s3.free ht, upd_same⟩
    · obtain ⟨s2, us, rfl, hul, hus⟩ := hp
      rw [List.length_map] at hul
      refine ⟨by rw [List.length_map, hul]; exact Nat.le_trans wn (Nat.le_trans (Nat.add_le_add_right hl 1) (by decide)), fun c hc => ?_⟩
      have s3 := Snew s2 (o := .lst (us.map V.ref)) hc
      have s23 := Snew (L2.Same.refl H') (o := .lst (us.map V.ref)) hc
      have ec : upd H' c (.lst (us.map V.ref)) c = some (.lst (us.map V.ref)) := upd_same
      generalize upd H' c (.lst (us.map V.ref)) = H3 at s3 s23 ec ⊢
      have hc1 : H1 c = none := s2.free hc
      have hc0 : H c = none := s1.free hc1
      have hus3 : ∀ (j : Nat) u w, us[j]? = some u → ws[j]? = some w → u ≠ c ∧ H3 u = some (.tup ((Txt.split w "-").map V.str)) := fun j u w hj gj => by
        obtain ⟨h1, h2⟩ := hus j u w hj gj
        exact ⟨(fun e => by rw [e, hc] at h2; cases h2), s23 _ _ h2⟩
      walk_at "vc"
      refine .inl ⟨⟨_, SqL.of ec⟩, comp_list (K := K) (fun i ys H' => L2.Same H3 H' ∧ ys = ((ws.take i).map fun w => twoS (Txt.split w "-")).map V.bl) ⟨L2.Same.refl H3, by simp⟩ (fun i ys H' _ hp => SqL.of (hp.1 _ _ ec)) (fun i y ys H4 hy hp => ?_) fun ys H4 hp => ?_⟩
      · obtain ⟨s4, rfl⟩ := hp
        rw [List.getElem?_map] at hy
        cases e : us[i]? with
        | none => rw [e] at hy; cases hy
        | some u =>
          rw [e] at hy
          cases hy
          have hi : i < ws.length := by rw [← hul]; exact (List.getElem?_eq_some_iff.mp e).1
          have gi : ws[i]? = some ws[i] := List.getElem?_eq_getElem hi
          have hwl := wl ws[i] (List.getElem_mem hi)
          generalize ws[i] = wd at gi hwl
          obtain ⟨_, hu3⟩ := hus3 i u wd e gi
          obtain ⟨sl1, sl2⟩ := split_len wd 45
          rw [← da_eq] at sl1 sl2
          walk_at "vc"
          refine iteT ?_
          walk_at "vc"
          refine ⟨u, _, rfl, s4 _ _ hu3, by omega, (fun x hx => by have := sl1 x hx; omega), fun H5 s5 => ?_⟩
          refine ⟨by rw [List.length_map, List.length_map, List.length_take]; exact Nat.lt_of_le_of_lt (Nat.min_le_left _ _) (small1000 (by omega)), s4.trans s5, ?_⟩
          rw [List.take_add_one, gi]
          simp
      · obtain ⟨s4, rfl⟩ := hp
        have etk : ws.take (us.map V.ref).length = ws := by rw [List.length_map, hul, List.take_length]
        rw [etk]
        refine ⟨by rw [List.length_map, List.length_map]; exact Nat.le_trans wn (Nat.le_trans (Nat.add_le_add_right hl 1) (by decide)), fun d hd => ?_⟩
        have s5 := Snew s4 (o := .lst ((ws.map fun w => twoS (Txt.split w "-")).map V.bl)) hd
        walk_at "vc"
        refine ⟨d, ws.map fun w => twoS (Txt.split w "-"), rfl, SqL.of upd_same, ?_⟩
        rw [all_bl]
        generalize upd H4 d (.lst ((ws.map fun w => twoS (Txt.split w "-")).map V.bl)) = H5 at s5 ⊢
        have eall : ((ws.map fun w => Txt.split w "-").all twoS) = ws.all fun w => twoS (Txt.split w "-") := by rw [List.all_map]; rfl
        rw [eall] at hno q
        walk_at "vc"
        have s05 := s1.trans (s3.trans s5)
        refine ite2 (fun h => ?_) fun h => ?_
        · walk_at "vc"
          have hf : (ws.all fun w => twoS (Txt.split w "-")) = false := by simpa using h
          exact raise_done (T.xat 0 (by decide)) ((hno (if_neg (by rw [hf]; exact Bool.false_ne_true))).later s05)
        · have ht : (ws.all fun w => twoS (Txt.split w "-")) = true := by simpa using h
          walk_at "vc"
          refine q _ (if_pos ht) c us H5 s05 hc0 (s5 _ _ ec) (by rw [List.length_map, hul]) fun j u w hj gj => ?_
          rw [List.getElem?_map] at gj
          cases e : ws[j]? with
          | none => rw [e] at gj; cases gj
          | some wd =>
            rw [e] at gj
            cases gj
            obtain ⟨h1, h2⟩ := hus3 j u wd hj e
            exact ⟨h1, s5 _ _ h2⟩
end
open PySem L2 PyProof.Rows
/- names_text: calls ['text_or_nothing']; cells [] -/
abbrev s_names_text : Stmt := top 9
theorem sc_names_text : FnScope ["names"] ["names"] (defScope s_names_text) := ⟨rfl, rfl, rfl, by decide +kernel, rfl, by decide +kernel, by decide +kernel⟩
/- ties_text: calls ['text_or_nothing']; cells [] -/
abbrev s_ties_text : Stmt := top 10
theorem sc_ties_text : FnScope ["ties"] ["ties"] (defScope s_ties_text) := ⟨rfl, rfl, rfl, by decide +kernel, rfl, by decide +kernel, by decide +kernel⟩
/- text_or_nothing: calls []; cells [] -/
abbrev s_text_or_nothing : Stmt := top 11
theorem sc_text_or_nothing : FnScope ["words"] ["words"] (defScope s_text_or_nothing) := ⟨rfl, rfl, rfl, by decide +kernel, rfl, by decide +kernel, by decide +kernel⟩
/- words_of: calls ['is_word']; cells [] -/
abbrev s_words_of : Stmt := top 16
theorem sc_words_of : FnScope ["line", "words"] ["line"] (defScope s_words_of) := ⟨rfl, rfl, rfl, by decide +kernel, rfl, by decide +kernel, by decide +kernel⟩
/- is_word: calls []; cells [] -/
abbrev s_is_word : Stmt := top 17
theorem sc_is_word : FnScope ["text"] ["text"] (defScope s_is_word) := ⟨rfl, rfl, rfl, by decide +kernel, rfl, by decide +kernel, by decide +kernel⟩
section
variable {P : Program} {w : World} {K : W.Frag} {mg : Str → Option Value} {base : Heap} {cc : Nat → Addr} {cw : Addr}
theorem ok_wd {f : Addr} {fd : FuncData} (F : Fun K "is_word" "is_word" s_is_word f fd) (T : Txt K mg cc cw) : FnOk P w K mg base CX0 1 f fd ["text"] spWd := by
  refine F.ok sc_is_word (fun vs H Q E h => ?_) fun cdv A outer s H vs Q E hr h => ?_
  · obtain ⟨z, rfl, _⟩ := h; rfl
  · obtain ⟨x, rfl, hx, q⟩ := h
    have hu := u100 hr
    refine ⟨_, (pss_one (ps_ret (pe_and (pe_cmpR (k_neU (K := K) rfl hu) (pv 0) pe_str (nomark _)) (pe_one (pe_callB (k_all (K := K) rfl rfl) rfl T.b_all boot_all (pa_cons (pe_comp (sc := defScope s_is_word) (XN := ["text"]) ["sign"] 1 [] rfl rfl rfl (by decide +kernel) rfl (by decide +kernel)
   (ki_any (K := K) rfl (pv 0)) (fun _ _ _ _ => (pg_name (i := 0) (show (["sign"] : List Str).Nodup by decide +kernel) rfl (Or.inl rfl))) gk_name
   (fun _ _ _ _ => pifs_nil)
   (fun _ _ _ _ => (pe_chain u_le u_le pe_str (pv 0) pe_str))) pa_nil)))))), ?_⟩
    walk_at "vc"
    refine .inl ⟨rfl, rfl, ?_⟩
    rw [if_pos rfl, eqV_strD]
    walk_at "vc"
    unfold wdS at q
    refine ite2 (fun h => ?_) fun h => ?_
    · have hne : ¬ x = "" := by simpa using h
      rw [if_neg hne] at q
      walk_at "vc"
      refine comp_str (fun i ys H' => H' = H ∧ ys = ((x.cps.toList.take i).map wc).map V.bl) ⟨rfl, by simp⟩ (fun i c ys H' hc hp => ?_) fun ys H' hp => ?_
      · obtain ⟨rfl, rfl⟩ := hp
        walk_at "vc"
        refine iteT ?_
        walk_at "vc"
        have hl : (List.map V.bl (List.map wc (List.take i x.cps.toList))).length < sizeLine := by
          rw [List.length_map, List.length_map, List.length_take]
          exact small1000 (Nat.le_trans (Nat.min_le_right _ _) (by simpa [Str.length] using (show x.length ≤ 1000 by omega)))
        have key : ∀ b, b = wc c → (List.map V.bl (List.map wc (List.take i x.cps.toList))) ++ [V.bl b] = List.map V.bl (List.map wc (List.take (i + 1) x.cps.toList)) := by
          intro b hb
          have e' : x.cps.toList[i]? = some c := by simpa using hc
          rw [hb, List.take_add_one, e']
          simp
        refine ite2 (fun h3 => ?_) fun h3 => ?_
        · walk_at "vc"
          exact ⟨hl, rfl, key _ (by unfold wc; rw [if_pos h3])⟩
        · exact ⟨hl, rfl, key _ (by unfold wc; rw [if_neg h3])⟩
      · obtain ⟨rfl, rfl⟩ := hp
        have ht : x.cps.toList.take x.cps.size = x.cps.toList := by rw [← Array.length_toList, List.take_length]
        rw [ht]
        refine ⟨?_, fun l hl => ?_⟩
        · rw [List.length_map, List.length_map]
          exact Nat.le_of_lt (small1000 (by simpa [Str.length] using (show x.length ≤ 1000 by omega)))
        · walk_at "vc"
          refine ⟨l, x.cps.toList.map wc, rfl, SqL.of upd_same, ?_⟩
          have z := q _ (Snew (L2.Same.refl H') (o := .lst ((x.cps.toList.map wc).map V.bl)) hl)
          rw [List.all_map]
          exact z
    · have he : x = "" := by simpa using h
      rw [if_pos he] at q
      exact q H (L2.Same.refl H)
theorem ok_wo {f : Addr} {fd : FuncData} (F : Fun K "words_of" "words_of" s_words_of f fd) (T : Txt K mg cc cw) (D_is_word : DefOk P w K mg base CX0 1 "is_word" ["text"] spWd) (D_NoLine : XMakeOk P w K mg base 2 (cc 0) "NoLine" ["self", "found"] (spX (cc 0) (fldn 0))) : FnOk P w K mg base (CX1 P w) 4 f fd ["line"] (spWO cc) := by
  refine F.ok1 sc_words_of (fun vs H Q E h => ?_) fun cdv A outer s H vs Q E hr h => ?_
  · obtain ⟨p, k, v, rfl, _⟩ := h; rfl
  · obtain ⟨p, k, v, rfl, hv, hz, q⟩ := h
    have hu := u100 hr
    refine ⟨_, (pss_cons (ps_if (PW.pt (pw_or (pt_not (pt_val (pe_callB (k_isiU (K := K) rfl) rfl T.b_isinstance boot_isinstance (pa_cons (pv 0) (pa_cons (pe_bltn (v := .ty "str") rfl T.b_str boot_str rfl) pa_nil))))) (pw_or1 (pt_cmpR op_gt (pe_callB (k_len (K := K) rfl) rfl T.b_len boot_len (pa_cons (pv 0) pa_nil)) (pe_globI rfl T.g_LONGEST_LINE) (nomark _))))) (pss_one (k_raise (K := K) rfl xok_fn (pe_xm D_NoLine (hm hr) (pa_cons (pv 0) pa_nil)))) pss_nil)
  (pss_cons (ps_set (i := 1) sc_words_of.nd rfl (Or.inl rfl) (k_bm (K := K) rfl PySem.F.plainAttrs_str PySem.F.slot_str_split PySem.F.type_str_split mt_split (pv 0) (pa_cons pe_str pa_nil)))
  (pss_cons (ps_if (pt_not (pt_val (pe_callB (k_all (K := K) rfl rfl) rfl T.b_all boot_all (pa_cons (pe_comp (sc := defScope s_words_of) (XN := ["line", "words"]) ["word"] 1 [] rfl rfl rfl (by decide +kernel) rfl (by decide +kernel)
   (ki_any (K := K) rfl (pv 1)) (fun _ _ _ _ => (pg_name (i := 0) (show (["word"] : List Str).Nodup by decide +kernel) rfl (Or.inl rfl))) gk_name
   (fun _ _ _ _ => pifs_nil)
   (fun _ _ _ _ => (pe_def D_is_word (hm hr) pass0 (pa_cons (pv 0) pa_nil)))) pa_nil)))) (pss_one (k_raise (K := K) rfl xok_fn (pe_xm D_NoLine (hm hr) (pa_cons (pv 0) pa_nil)))) pss_nil)
  (pss_one (ps_ret (pv 1)))))), ?_⟩
    obtain ⟨t, ht, ty, hs, hn, _, _, _⟩ := hv.ty (K := K)
    walk_at "vc"
    refine vIsiU (.inl ty) rfl (kit_tab K t ht "str" (by simp)) ?_
    walk_at "vc"
    refine ite2 (fun h => ?_) fun h => ?_
    · refine iteT ?_
      walk_at "vc"
      refine raise_done (T.xat 0 (by decide)) (hz fun z e => ?_)
      subst e
      cases ty
      exact absurd h (by decide)
    obtain ⟨z, rfl, _⟩ := hs (by simpa using h)
    obtain ⟨hl, hno, q⟩ := q z rfl
    unfold rdW at hno q
    walk_at "vc"
    refine vLenS (Nat.le_trans hl (by decide)) ?_
    walk_at "vc"
    refine ite2 (fun h => ?_) fun h => ?_
    · have hlt : ¬ z.length ≤ 400 := by have := of_decide_eq_true h; omega
      walk_at "vc"
      exact raise_done (T.xat 0 (by decide)) (hno (if_neg fun e => hlt e.1))
    have hle : z.length ≤ 400 := by
      refine Nat.le_of_not_lt fun e => h (decide_eq_true ?_)
      omega
    walk_at "vc"
    refine ⟨rfl, ?_⟩
    walk_at "vc"
    refine ⟨z, " ", rfl, rfl, by decide +kernel, Nat.le_trans (show z.length + 2 ≤ 1002 by omega) (by decide), fun l hl0 => ?_⟩
    obtain ⟨wl, wn⟩ := split_len z 32
    rw [← sp_eq] at wl wn
    generalize Txt.split z " " = ws at *
    have s1 := Snew (L2.Same.refl H) (o := .lst (ws.map V.str)) hl0
    have hl1 : upd H l (.lst (ws.map V.str)) l = some (.lst (ws.map V.str)) := upd_same
    generalize upd H l (.lst (ws.map V.str)) = H1 at s1 hl1 ⊢
    walk_at "vc"
    refine .inl ⟨⟨_, SqL.of hl1⟩, comp_list (K := K) (fun i ys H' => L2.Same H1 H' ∧ ys = ((ws.take i).map wdS).map V.bl) ⟨L2.Same.refl H1, by simp⟩ (fun i ys H' _ hp => SqL.of (hp.1 _ _ hl1)) (fun i y ys H' hy hp => ?_) fun ys H' hp => ?_⟩
    · obtain ⟨s2, rfl⟩ := hp
      obtain ⟨wd, gi, rfl⟩ : ∃ wd, ws[i]? = some wd ∧ y = .str wd := by
        rw [List.getElem?_map] at hy
        cases e : ws[i]? with
        | none => rw [e] at hy; cases hy
        | some wd => rw [e] at hy; exact ⟨wd, rfl, (Option.some.inj hy).symm⟩
      have hi : i < ws.length := (List.getElem?_eq_some_iff.mp gi).1
      have hwl := wl wd (List.mem_of_getElem? gi)
      walk_at "vc"
      refine iteT ?_
      walk_at "vc"
      refine ⟨wd, rfl, by omega, fun H3 s3 => ?_⟩
      refine ⟨by rw [List.length_map, List.length_map, List.length_take]; exact Nat.lt_of_le_of_lt (Nat.min_le_left _ _) (small1000 (by omega)), s2.trans s3, ?_⟩
      rw [List.take_add_one, gi]
      simp
    · obtain ⟨s2, rfl⟩ := hp
      have etk : ws.take (ws.map V.str).length = ws := by rw [List.length_map, List.take_length]
      rw [etk]
      refine ⟨by rw [List.length_map, List.length_map]; exact Nat.le_trans wn (Nat.le_trans (Nat.add_le_add_right hl 1) (by decide)), fun c hc => ?_⟩
      have s3 := Snew s2 (o := .lst ((ws.map wdS).map V.bl)) hc
      walk_at "vc"
      refine ⟨c, ws.map wdS, rfl, SqL.of upd_same, ?_⟩
      rw [all_bl]
      generalize upd H' c (.lst ((ws.map wdS).map V.bl)) = H3 at s3 ⊢
      walk_at "vc"
      refine ite2 (fun h => ?_) fun h => ?_
      · walk_at "vc"
        have hf : ws.all wdS = false := by simpa using h
        exact raise_done (T.xat 0 (by decide)) ((hno (if_neg (fun e => by rw [hf] at e; exact Bool.false_ne_true e.2))).later (s1.trans s3))
      · have ht : ws.all wdS = true := by simpa using h
        walk_at "vc"
        exact q ws (if_pos ⟨hle, ht⟩) l H3 (s1.trans s3) hl0 (s3 _ _ hl1)
theorem ok_ton {f : Addr} {fd : FuncData} (F : Fun K "text_or_nothing" "text_or_nothing" s_text_or_nothing f fd) (T : Txt K mg cc cw) : FnOk P w K mg base CX0 1 f fd ["words"] spTN := by
  refine F.ok sc_text_or_nothing (fun vs H Q E h => ?_) fun cdv A outer s H vs Q E hr h => ?_
  · obtain ⟨l, ws, rfl, _⟩ := h; rfl
  · obtain ⟨l, ws, rfl, hl, few, hw, q⟩ := h
    have hu := u100 hr
    refine ⟨_, (pss_one (ps_ret (pe_ifExp (pt_cmpR (k_eqZ (K := K) rfl hu) (pe_callB (k_len (K := K) rfl) rfl T.b_len boot_len (pa_cons (pv 0) pa_nil)) pe_int (nomark _)) (pe_globS rfl T.g_NOTHING) (k_bm (K := K) rfl PySem.F.plainAttrs_str PySem.F.slot_str_join PySem.F.type_str_join (k_joinU (K := K) rfl) pe_str (pa_cons (pv 0) pa_nil))))), ?_⟩
    walk_at "vc"
    refine vLenL hl ?_
    rw [List.length_map]
    walk_at "vc"
    refine .inl (.inl (.inl ⟨rfl, rfl, ?_⟩))
    rw [if_neg Bool.false_ne_true]
    walk_at "vc"
    refine ite2 (fun h => ?_) fun h => ?_
    · have he : ws = [] := by
        have := of_decide_eq_true (show decide ((ws.length : Int) = 0) = true by simpa [eqV] using h)
        exact List.length_eq_zero_iff.mp (by omega)
      rw [if_pos he] at q
      walk_at "vc"
      exact q
    · have he : ¬ ws = [] := fun e => h (by rw [e]; rfl)
      rw [if_neg he] at q
      walk_at "vc"
      refine ⟨rfl, ?_⟩
      walk_at "vc"
      refine ⟨" ", l, ws, rfl, rfl, .inl (SqL.of hl), ?_, q⟩
      have h1 := sum_le (fun x : Str => x.length) 1000 ws hw
      have h2 : ws.length * 1000 ≤ 1000 * 1000 := Nat.mul_le_mul_right _ few
      have h3 : (" " : Str).length = 1 := by decide +kernel
      rw [h3]
      omega
theorem ok_nt {f : Addr} {fd : FuncData} (F : Fun K "names_text" "names_text" s_names_text f fd) (D_text_or_nothing : DefOk P w K mg base CX0 1 "text_or_nothing" ["words"] spTN) : FnOk P w K mg base CX0 2 f fd ["names"] spTN := by
  refine F.ok sc_names_text (fun vs H Q E h => ?_) fun cdv A outer s H vs Q E hr h => ?_
  · obtain ⟨l, ws, rfl, _⟩ := h; rfl
  · obtain ⟨l, ws, rfl, hl, few, hw, q⟩ := h
    refine ⟨_, (pss_one (ps_ret (pe_def D_text_or_nothing (hm hr) pass0 (pa_cons (pv 0) pa_nil)))), ?_⟩
    walk_at "vc"
    exact ⟨l, ws, rfl, hl, few, hw, q⟩
theorem join2_len {a b : Str} (ha : a.length ≤ 6) (hb : b.length ≤ 6) : (Txt.join "-" [a, b]).length ≤ 14 := by
  have h := join_len_le "-" [a, b]
  have h3 : ("-" : Str).length = 1 := by decide +kernel
  rw [h3] at h
  simp at h
  omega
theorem ok_tt {f : Addr} {fd : FuncData} (F : Fun K "ties_text" "ties_text" s_ties_text f fd) (D_text_or_nothing : DefOk P w K mg base CX0 1 "text_or_nothing" ["words"] spTN) : FnOk P w K mg base CX0 2 f fd ["ties"] spTT := by
  refine F.ok sc_ties_text (fun vs H Q E h => ?_) fun cdv A outer s H vs Q E hr h => ?_
  · obtain ⟨l, ts, tps, rfl, _⟩ := h; rfl
  · obtain ⟨l, ts, tps, rfl, hl, hlen, hts, few, hab, q⟩ := h
    refine ⟨_, (pss_one (ps_ret (pe_def D_text_or_nothing (hm hr) pass0 (pa_cons (pe_comp (sc := defScope s_ties_text) (XN := ["ties"]) ["tie"] 1 [] rfl rfl rfl (by decide +kernel) rfl (by decide +kernel)
   (ki_any (K := K) rfl (pv 0)) (fun _ _ _ _ => (pg_name (i := 0) (show (["tie"] : List Str).Nodup by decide +kernel) rfl (Or.inl rfl))) gk_name
   (fun _ _ _ _ => pifs_nil)
   (fun _ _ _ _ => (k_bm (K := K) rfl PySem.F.plainAttrs_str PySem.F.slot_str_join PySem.F.type_str_join (k_joinU (K := K) rfl) pe_str (pa_cons (pv 0) pa_nil)))) pa_nil)))), ?_⟩
    walk_at "vc"
    refine .inl ⟨⟨_, SqL.of hl⟩, comp_list (K := K) (fun i ys H' => H' = H ∧ ys = ((tps.take i).map fun ab => Txt.join "-" [ab.1, ab.2]).map V.str) ⟨rfl, by simp⟩ (fun i ys H' _ hp => by rw [hp.1]; exact SqL.of hl) (fun i y ys H' hy hp => ?_) fun ys H' hp => ?_⟩
    · obtain ⟨rfl, rfl⟩ := hp
      rw [List.getElem?_map] at hy
      cases e : ts[i]? with
      | none => rw [e] at hy; cases hy
      | some t =>
        rw [e] at hy
        cases hy
        have hi : i < tps.length := by rw [← hlen]; exact (List.getElem?_eq_some_iff.mp e).1
        have gi : tps[i]? = some tps[i] := List.getElem?_eq_getElem hi
        have hm := List.getElem_mem hi
        generalize tps[i] = ab at gi hm
        obtain ⟨h1, h2⟩ := hab ab hm
        walk_at "vc"
        refine iteT ?_
        walk_at "vc"
        refine ⟨rfl, ?_⟩
        walk_at "vc"
        refine ⟨"-", t, [ab.1, ab.2], rfl, rfl, .inr (SqT.of (hts i t ab e gi)), ?_, ?_⟩
        · have h3 : ("-" : Str).length = 1 := by decide +kernel
          rw [h3]
          simp
          omega
        refine ⟨by rw [List.length_map, List.length_map, List.length_take]; exact small1000 (by omega), rfl, ?_⟩
        rw [List.take_add_one, gi]
        simp
    · obtain ⟨rfl, rfl⟩ := hp
      have etk : tps.take (ts.map V.ref).length = tps := by rw [List.length_map, hlen, List.take_length]
      rw [etk]
      refine ⟨by rw [List.length_map, List.length_map]; exact Nat.le_of_lt (small1000 (by omega)), fun c hc => ?_⟩
      walk_at "vc"
      refine ⟨c, tps.map fun ab => Txt.join "-" [ab.1, ab.2], rfl, upd_same, by rw [List.length_map]; omega, (fun x hx => ?_), ?_⟩
      · obtain ⟨ab, hm, rfl⟩ := List.mem_map.mp hx
        obtain ⟨h1, h2⟩ := hab ab hm
        have := join2_len h1 h2
        omega
      · have := q _ (Snew (L2.Same.refl H') (o := .lst ((tps.map fun ab => Txt.join "-" [ab.1, ab.2]).map V.str)) hc)
        have e : (tps.map fun ab => Txt.join "-" [ab.1, ab.2]) = [] ↔ tps = [] := List.map_eq_nil_iff
        simp only [e]
        exact this
end
open PySem L2 PyProof.Rows
/- _law_cell: calls []; cells [] -/
abbrev s_l_cell : Stmt := top 19
theorem sc_l_cell : FnScope ["_law_script", "_law_k"] ["_law_script", "_law_k"] (defScope s_l_cell) := ⟨rfl, rfl, rfl, by decide +kernel, rfl, by decide +kernel, by decide +kernel⟩
/- _law_numbers: calls []; cells [] -/
abbrev s_l_numbers : Stmt := top 20
theorem sc_l_numbers : FnScope ["_law_cell_here", "_law_bases", "_law_prime", "_law_great", "_law_number", "_law_found", "_law_base"] ["_law_cell_here", "_law_bases", "_law_prime"] (defScope s_l_numbers) := ⟨rfl, rfl, rfl, by decide +kernel, rfl, by decide +kernel, by decide +kernel⟩
def spCl (K : W.Frag) : Sp := fun vs H Q _ => ∃ (a : Addr) (ns : List Int) (k : Int), vs = [.ref a, .int k] ∧ SqL K H a (ns.map V.int) ∧ 0 ≤ k ∧ k < 1000 ∧ ∀ i : Int, Q (.int i) H
def spNs : Sp := fun vs H Q _ => ∃ (b : Addr) (c pr : Int) (bs : List Int), vs = [.int c, .ref b, .int pr] ∧ H b = some (.lst (bs.map V.int)) ∧ 0 < pr ∧ pr < 2147483648 ∧ bs.length ≤ 100 ∧ (∀ x ∈ bs, 0 < x ∧ x < 1073741824) ∧
  ∀ (l : Addr) (ns : List Int) (H' : Hp), L2.Same H H' → H l = none → H' l = some (.lst (ns.map V.int)) → ns.length = bs.length → (∀ (i : Nat) n x, ns[i]? = some n → bs[i]? = some x → 0 ≤ n ∧ n < x) → Q (.ref l) H'
section
variable {P : Program} {w : World} {K : W.Frag} {mg : Str → Option Value} {base : Heap} {cc : Nat → Addr} {cw : Addr}
theorem ok_cl {f : Addr} {fd : FuncData} (F : Fun K "_law_cell" "_law_cell" s_l_cell f fd) (T : Txt K mg cc cw) : FnOk P w K mg base CX0 1 f fd ["_law_script", "_law_k"] (spCl K) := by
  refine F.ok sc_l_cell (fun vs H Q E h => ?_) fun cdv A outer s H vs Q E hr h => ?_
  · obtain ⟨a, ns, k, rfl, _⟩ := h; rfl
  · obtain ⟨a, ns, k, rfl, hS, h0, h1, q⟩ := h
    have hu := u100 hr
    refine ⟨_, (pss_cons (ps_if (pt_cmpR (k_eqZ (K := K) rfl hu) (pe_callB (k_len (K := K) rfl) rfl T.b_len boot_len (pa_cons (pv 0) pa_nil)) pe_int (nomark _)) (pss_one (ps_ret pe_int)) pss_nil)
  (pss_one (ps_ret (pe_ix (k_ixU (K := K) rfl hu) (pv 0) (pe_op op_mod (pv 1) (pe_callB (k_len (K := K) rfl) rfl T.b_len boot_len (pa_cons (pv 0) pa_nil))) (fun _ _ => rfl))))), ?_⟩
    walk_at "vc"
    refine vLenLs hS ?_
    rw [List.length_map]
    walk_at "vc"
    refine .inl (.inl (.inl ⟨rfl, rfl, ?_⟩))
    rw [if_neg Bool.false_ne_true]
    walk_at "vc"
    refine ite2 (fun hc => ?_) (fun hc => ?_)
    · walk_at "vc"
      exact q 0
    · have hpos : 0 < ns.length := by
        refine Nat.pos_of_ne_zero fun e => hc ?_
        rw [e]
        rfl
      walk_at "vc"
      refine vLenLs hS ?_
      rw [List.length_map]
      walk_at "vc"
      refine vI (show (0 : Int) < (ns.length : Int) by omega) ?_
      have e1 := Int.emod_nonneg k (show (ns.length : Int) ≠ 0 by omega)
      have e2 := Int.emod_lt_of_pos k (show (0 : Int) < (ns.length : Int) by omega)
      obtain ⟨v, i1, i2⟩ := atI_lt (xs := ns.map V.int) e1 (by rw [List.length_map]; exact e2)
      rw [List.getElem?_map] at i2
      cases e3 : ns[(k % (ns.length : Int)).toNat]? with
      | none => rw [e3] at i2; cases i2
      | some i =>
        rw [e3] at i2
        cases i2
        exact .inl (vIxLs hS i1 (q i))
theorem ok_ns {f : Addr} {fd : FuncData} (F : Fun K "_law_numbers" "_law_numbers" s_l_numbers f fd) (T : Txt K mg cc cw) : FnOk P w K mg base CX0 1 f fd ["_law_cell_here", "_law_bases", "_law_prime"] spNs := by
  refine F.ok sc_l_numbers (fun vs H Q E h => ?_) fun cdv A outer s H vs Q E hr h => ?_
  · obtain ⟨b, c, pr, bs, rfl, _⟩ := h; rfl
  · obtain ⟨b, c, pr, bs, rfl, hb, p0, p1, few, hbs, q⟩ := h
    have hu := u100 hr
    refine ⟨_, (pss_cons (ps_set (i := 3) sc_l_numbers.nd rfl (Or.inl rfl) (pe_cmpR op_ge (pv 0) (pe_op op_pow pe_int pe_int) (nomark _)))
  (pss_cons (ps_set (i := 4) sc_l_numbers.nd rfl (Or.inl rfl) (pe_op (k_add (K := K) rfl) (pe_op op_mod (pe_op u_mul (pe_op op_mod (pv 0) (pv 2)) pe_int) (pv 2)) pe_int))
  (pss_cons (ps_set (i := 5) sc_l_numbers.nd rfl (Or.inl rfl) (pe_lst pa_nil))
  (pss_cons (ps_for PassesOwn.never rfl (ki_any (K := K) rfl (pv 1)) (pg_name (i := 6) sc_l_numbers.nd rfl (Or.inl rfl))
  (pss_cons (ps_set (i := 4) sc_l_numbers.nd rfl (Or.inl rfl) (pe_op op_mod (pe_op (k_add (K := K) rfl) (pe_op u_mul (pv 4) pe_int) pe_int) (pv 2)))
  (pss_one (ps_if (pt_val (pv 3)) (pss_cons (ps_expr (k_bm (K := K) rfl PySem.F.plainAttrs_list PySem.F.slot_list_append PySem.F.type_list_append mtR_append (pv 5) (pa_cons (pe_op op_mod (pv 0) (pv 6)) pa_nil)))
  (pss_one (ps_set (i := 0) sc_l_numbers.nd rfl (Or.inl rfl) (pe_op op_fdiv (pv 0) (pv 6))))) (pss_one (ps_expr (k_bm (K := K) rfl PySem.F.plainAttrs_list PySem.F.slot_list_append PySem.F.type_list_append mtR_append (pv 5) (pa_cons (pe_op op_mod (pe_op op_mod (pe_op u_mul (pv 4) (pe_op (k_add (K := K) rfl) (pe_op op_fdiv (pv 4) pe_int) pe_int)) pe_int) (pv 6)) pa_nil))))))))
  (pss_one (ps_ret (pv 5))))))), ?_⟩
    walk_at "vc"
    refine vI ⟨by decide, by decide, by decide⟩ ?_
    walk_at "vc"
    generalize decide (c ≥ 10 ^ (18 : Int).toNat) = g
    refine vI p0 ?_
    walk_at "vc"
    refine vMulI (.inr (by decide)) ?_
    walk_at "vc"
    refine vI p0 ?_
    walk_at "vc"
    refine ⟨by decide, fun l hl0 => ?_⟩
    have s1 := Snew (L2.Same.refl H) (o := .lst []) hl0
    have el : upd H l (.lst []) l = some (.lst []) := upd_same
    have nbl : b ≠ l := ne_of_none hb hl0
    generalize upd H l (.lst []) = H1 at s1 el ⊢
    walk_at "vc"
    have n1 := Int.emod_nonneg (c % pr * 48271) (show pr ≠ 0 by omega)
    have n2 := Int.emod_lt_of_pos (c % pr * 48271) p0
    generalize c % pr * 48271 % pr = z0 at n1 n2
    refine .inl ⟨⟨_, SqL.of (s1 _ _ hb)⟩, for_list (K := K) (fun i σ H' => ∃ (c' num : Int) (ns : List Int) (x6 : Option V), σ = [some (.int c'), some (.ref b), some (.int pr), some (.bl g), some (.int num), some (.ref l), x6] ∧ L2.Same H H' ∧ H' l = some (.lst (ns.map V.int)) ∧ 0 ≤ num ∧ num < 2147500000 ∧ ns.length = i ∧ ∀ (j : Nat) n x, ns[j]? = some n → bs[j]? = some x → 0 ≤ n ∧ n < x) ⟨c, z0 + 8191, [], none, rfl, s1, el, by omega, by omega, rfl, fun j n x h => by simp at h⟩ (fun i σ H' _ hp => by obtain ⟨_, _, _, _, _, z, _⟩ := hp; exact SqL.of (z _ _ hb)) (fun i y σ H2 hy hp => ?_) fun σ H2 hp => ?_⟩
    · obtain ⟨c', num, ns, x6, rfl, s2, hl2, m0, m1, hnl, hns⟩ := hp
      rw [List.getElem?_map] at hy
      cases e : bs[i]? with
      | none => rw [e] at hy; cases hy
      | some x =>
        rw [e] at hy
        cases hy
        have hi : i < bs.length := (List.getElem?_eq_some_iff.mp e).1
        obtain ⟨x0, x1⟩ := hbs x (List.mem_of_getElem? e)
        have more : ∀ r : Int, 0 ≤ r → r < x → ∀ (j : Nat) n y, (ns ++ [r])[j]? = some n → bs[j]? = some y → 0 ≤ n ∧ n < y := fun r r0 r1 j n y hj gj => by
          by_cases hji : j < ns.length
          · rw [List.getElem?_append_left hji] at hj
            exact hns j n y hj gj
          · rw [List.getElem?_append_right (by omega)] at hj
            have e0 : j - ns.length = 0 := by
              have := (List.getElem?_eq_some_iff.mp hj).1
              simp only [List.length_cons, List.length_nil] at this
              omega
            rw [e0] at hj
            cases hj
            have : j = i := by omega
            subst this
            rw [e] at gj
            cases gj
            exact ⟨r0, r1⟩
        walk_at "vc"
        refine vMulI (.inr (by decide)) ?_
        walk_at "vc"
        refine vI p0 ?_
        walk_at "vc"
        have k1 := Int.emod_nonneg (num * 69621 + 4099) (show pr ≠ 0 by omega)
        have k2 := Int.emod_lt_of_pos (num * 69621 + 4099) p0
        generalize (num * 69621 + 4099) % pr = z at k1 k2 ⊢
        refine ite2 (fun hg => ?_) fun hg => ?_
        · walk_at "vc"
          refine ⟨.inl ⟨rfl, _, SqL.of hl2⟩, ?_⟩
          walk_at "vc"
          refine vI x0 ?_
          walk_at "vc"
          refine ⟨l, _, _, rfl, rfl, hl2, by rw [List.length_map]; exact small1000 (by omega), ?_⟩
          walk_at "vc"
          refine vI ⟨x0, x1⟩ ?_
          walk_at "vc"
          exact ⟨_, _, ns ++ [c' % x], _, rfl, Supd s2 hl0, by rw [upd_same, List.map_append]; rfl, k1, by omega, by rw [List.length_append, hnl]; rfl, more _ (Int.emod_nonneg _ (by omega)) (Int.emod_lt_of_pos _ x0)⟩
        · walk_at "vc"
          refine ⟨.inl ⟨rfl, _, SqL.of hl2⟩, ?_⟩
          walk_at "vc"
          refine vI ⟨by decide, by decide⟩ ?_
          walk_at "vc"
          refine vMulI (.inl ⟨by omega, by omega⟩) ?_
          walk_at "vc"
          refine vI (by decide) ?_
          walk_at "vc"
          refine vI x0 ?_
          walk_at "vc"
          refine ⟨l, _, _, rfl, rfl, hl2, by rw [List.length_map]; exact small1000 (by omega), ?_⟩
          exact ⟨_, _, ns ++ [z * (z / 977 + 3) % 2147483629 % x], _, rfl, Supd s2 hl0, by rw [upd_same, List.map_append]; rfl, k1, by omega, by rw [List.length_append, hnl]; rfl, more _ (Int.emod_nonneg _ (by omega)) (Int.emod_lt_of_pos _ x0)⟩
    · obtain ⟨c', num, ns, x6, rfl, s2, hl2, m0, m1, hnl, hns⟩ := hp
      walk_at "vc"
      exact q l ns H2 s2 hl0 hl2 (by rw [hnl, List.length_map]) hns
end
theorem pss_cut {X : L2.Cx} {st : List PySem.Stmt} {t : L2.TS} (t' : L2.TS) (h : L2.PSs X st t) (k : ∀ D σ H, t' D σ H → t D σ H) : L2.PSs X st t' := fun pins s σ H D I q => h pins s σ H D I (k D σ H q)
open PySem L2 PyProof.Rows
/- _law_names: calls ['_law_numbers']; cells ['_law_end', '_law_letters', '_law_start', '_law_step'] -/
abbrev s_l_names : Stmt := top 21
theorem sc_l_names : FnScope ["_law_cell_here", "_law_long", "_law_few", "_law_many", "_law_start", "_law_step", "_law_tail", "_law_rest", "_law_size", "_law_letters", "_law_end"] ["_law_cell_here"] (defScope s_l_names) := ⟨rfl, rfl, rfl, by decide +kernel, rfl, by decide +kernel, by decide +kernel⟩
theorem rep_ok {c : Nat} {n : Int} (h : n = 1 ∨ n = 2 ∨ n = 3) : MulOk ⟨#[c]⟩ n ∧ (Txt.mul ⟨#[c]⟩ n).cps.toList = List.replicate n.toNat c ∧ (Txt.mul ⟨#[c]⟩ n).length = n.toNat := by
  rcases h with rfl | rfl | rfl
  · exact ⟨⟨by decide, fun _ _ => by show ¬ ((1 : Int) > (2 ^ 63 - 1) / 1); decide, fun _ _ => by show Builtin.Str.tooLong (1 * 1) = false; decide⟩, rfl, rfl⟩
  · exact ⟨⟨by decide, fun _ _ => by show ¬ ((1 : Int) > (2 ^ 63 - 1) / 2); decide, fun _ _ => by show Builtin.Str.tooLong (1 * 2) = false; decide⟩, rfl, rfl⟩
  · exact ⟨⟨by decide, fun _ _ => by show ¬ ((1 : Int) > (2 ^ 63 - 1) / 3); decide, fun _ _ => by show Builtin.Str.tooLong (1 * 3) = false; decide⟩, rfl, rfl⟩
theorem L26_sg : L26.cps.toList.all sg = true := by decide +kernel
theorem L26_len : L26.length = 26 := by decide +kernel
def spNm : Sp := fun vs H Q _ => ∃ c : Int, vs = [.int c] ∧ ∀ (l : Addr) (ss : List Str) (H' : Hp), L2.Same H H' → H l = none → H' l = some (.lst (ss.map V.str)) → NOk ss → Q (.ref l) H'
section
variable {P : Program} {w : World} {K : W.Frag} {mg : Str → Option Value} {base : Heap} {cc : Nat → Addr} {cw : Addr}
theorem ok_nm {f : Addr} {fd : FuncData} (F : Fun K "_law_names" "_law_names" s_l_names f fd) (T : Txt K mg cc cw) (D_l_numbers : DefOk P w K mg base CX0 1 "_law_numbers" ["_law_cell_here", "_law_bases", "_law_prime"] spNs) : FnOk P w K mg base CX0 2 f fd ["_law_cell_here"] spNm := by
  refine F.ok sc_l_names (fun vs H Q E h => ?_) fun cdv A outer s H vs Q E hr h => ?_
  · obtain ⟨c, rfl, _⟩ := h; rfl
  · obtain ⟨c, rfl, q⟩ := h
    have hu := u100 hr
    obtain ⟨TC3, hTC3⟩ : ∃ t : TS, t = fun D σ H' => (∀ u H', Q u H' → D.rt u H') ∧ ∃ x0 x1 x2 x3 x9 x10 start step tail rest size, σ = [x0, x1, x2, x3, some (.int start), some (.int step), some (.int tail), some (.int rest), some (.int size), x9, x10] ∧ L2.Same H H' ∧ (0 ≤ start ∧ start < 26) ∧ (0 ≤ step ∧ step < 6) ∧ (0 ≤ tail ∧ tail < 4) ∧ (0 ≤ rest ∧ rest < 26) ∧ 0 ≤ size ∧ size < 15 := ⟨_, rfl⟩
    refine ⟨_, (pss_cons (ps_asg (pe_def D_l_numbers (hm hr) pass0 (pa_cons (pv 0) (pa_cons (pe_lst (pa_cons pe_int (pa_cons pe_int (pa_cons pe_int (pa_cons pe_int (pa_cons pe_int (pa_cons pe_int (pa_cons pe_int pa_nil)))))))) (pa_cons pe_int pa_nil)))) (pg_tupU rfl (pgs_cons (pg_name (i := 1) sc_l_names.nd rfl (Or.inl rfl)) (pgs_cons (pg_name (i := 2) sc_l_names.nd rfl (Or.inl rfl)) (pgs_cons (pg_name (i := 3) sc_l_names.nd rfl (Or.inl rfl)) (pgs_cons (pg_name (i := 4) sc_l_names.nd rfl (Or.inr rfl)) (pgs_cons (pg_name (i := 5) sc_l_names.nd rfl (Or.inr rfl)) (pgs_cons (pg_name (i := 6) sc_l_names.nd rfl (Or.inl rfl)) (pgs_cons (pg_name (i := 7) sc_l_names.nd rfl (Or.inl rfl)) pgs_nil)))))))))
  (pss_cons (ps_set (i := 8) sc_l_names.nd rfl (Or.inl rfl) (pv 2))
  (pss_cons (ps_if (pt_cmpR (k_eqZ (K := K) rfl hu) (pv 1) pe_int (nomark _)) (pss_one (ps_set (i := 8) sc_l_names.nd rfl (Or.inl rfl) (pv 3))) pss_nil)
  (pss_cut TC3 (pss_cons (ps_set (i := 9) sc_l_names.nd rfl (Or.inr rfl) pe_str)
  (pss_cons (ps_set (i := 10) sc_l_names.nd rfl (Or.inr rfl) (pe_slice (k_sl (K := K) rfl) (pe_op (k_add (K := K) rfl) (pe_slice (k_sl (K := K) rfl) (pv 9) (po_some (pv 7)) po_none) (pv 9)) po_none (po_some (pv 6))))
  (pss_one (ps_ret (pe_comp (sc := defScope s_l_names) (XN := ["_law_cell_here", "_law_long", "_law_few", "_law_many", "_law_start", "_law_step", "_law_tail", "_law_rest", "_law_size", "_law_letters", "_law_end"]) ["_law_k", "_law_end", "_law_letters", "_law_start", "_law_step"] 1 [10, 9, 4, 5] rfl rfl rfl (by decide +kernel) rfl (by decide +kernel)
   (pi_range1 rfl T.b_range (pa_cons (pv 8) pa_nil)) (fun _ _ _ _ => (pg_name (i := 0) (show (["_law_k", "_law_end", "_law_letters", "_law_start", "_law_step"] : List Str).Nodup by decide +kernel) rfl (Or.inl rfl))) gk_name
   (fun _ _ _ _ => pifs_nil)
   (fun _ _ _ _ => (pe_op (k_add (K := K) rfl) (pe_op u_mul (pe_ix (k_ixU (K := K) rfl hu) (pv 2) (pe_op op_mod (pe_op (k_add (K := K) rfl) (pv 3) (pe_op u_mul (pe_ix (k_ixU (K := K) rfl hu) (pe_lst (pa_cons pe_int (pa_cons pe_int (pa_cons pe_int (pa_cons pe_int (pa_cons pe_int (pa_cons pe_int pa_nil))))))) (pv 4) (fun _ _ => rfl)) (pv 0))) pe_int) (fun _ _ => rfl)) (pe_op (k_add (K := K) rfl) pe_int (pe_op op_mod (pv 0) pe_int))) (pv 1)))))))) ?cut3)))), ?_⟩
    case cut3 =>
      intro D σ H1 h
      rw [hTC3] at h
      obtain ⟨hD, x0, x1, x2, x3, x9, x10, start, step, tail, rest, size, rfl, s1, ⟨a0, a1⟩, ⟨st0, st1⟩, ⟨t0, t1⟩, ⟨r0, r1⟩, z0, z1⟩ := h
      walk_at "vc"
      refine vSlS (by decide +kernel) ?_
      have hsl : (Txt.slice L26 (some rest) none).cps.toList = L26.cps.toList.drop rest.toNat := by
        have := slice_drop L26 rest.toNat
        rw [show ((rest.toNat : Nat) : Int) = rest by omega] at this
        exact this
      have hsn : (Txt.slice L26 (some rest) none).length ≤ 26 := by have := slice_len L26 (some rest) none; rw [L26_len] at this; exact this
      walk_at "vc"
      refine vAddS (by show (Txt.slice L26 (some rest) none).length + L26.length ≤ sizeLine; rw [L26_len]; exact Nat.le_trans (Nat.add_le_add_right hsn 26) (by decide)) ?_
      walk_at "vc"
      have hal := app_list (Txt.slice L26 (some rest) none) L26
      have hall : (Txt.slice L26 (some rest) none ++ L26).length ≤ 52 := by
        have e : (Txt.slice L26 (some rest) none ++ L26).length = (Txt.slice L26 (some rest) none ++ L26).cps.toList.length := by simp [Str.length]
        have e1 : (Txt.slice L26 (some rest) none).length = (Txt.slice L26 (some rest) none).cps.toList.length := by simp [Str.length]
        have e2 : L26.length = L26.cps.toList.length := by simp [Str.length]
        rw [e, hal, List.length_append, ← e1, ← e2, L26_len]
        omega
      refine vSlS (Nat.le_trans hall (by decide)) ?_
      walk_at "vc"
      have htk : (Txt.slice (Txt.slice L26 (some rest) none ++ L26) none (some tail)).cps.toList = (L26.cps.toList.drop rest.toNat ++ L26.cps.toList).take tail.toNat := by
        have := slice_take (Txt.slice L26 (some rest) none ++ L26) tail.toNat
        rw [show ((tail.toNat : Nat) : Int) = tail by omega, hal, hsl] at this
        exact this
      have hend : ∃ E1 : Str, Txt.slice (Txt.slice L26 (some rest) none ++ L26) none (some tail) = E1 ∧ E1.cps.toList.all sg = true ∧ E1.cps.toList.length ≤ 3 := by
        refine ⟨_, rfl, ?_, ?_⟩
        · rw [htk]
          refine List.all_eq_true.mpr fun x hx => ?_
          have := List.mem_of_mem_take hx
          rcases List.mem_append.mp this with z | z
          · exact List.all_eq_true.mp L26_sg x (List.mem_of_mem_drop z)
          · exact List.all_eq_true.mp L26_sg x z
        · rw [htk, List.length_take]
          omega
      obtain ⟨E1, eE, hE, hE3⟩ := hend
      have eE' : Txt.slice (Txt.slice (Str.ofString "abcdefghijklmnopqrstuvwxyz") (some rest) none ++ Str.ofString "abcdefghijklmnopqrstuvwxyz") none (some tail) = E1 := eE
      rw [eE']
      refine ⟨size, rfl, by omega, by omega, comp_range (lo := 0) (fun i ys H' => L2.Same H1 H' ∧ ∃ ss : List Str, ys = ss.map V.str ∧ ss.length = i ∧ ∃ sp ∈ [(1 : Int), 3, 5, 7, 9, 11, 15, 25], (sp = [1, 3, 5, 7, 9, 11].getD step.toNat 0) ∧ ∀ (j : Nat) s, ss[j]? = some s → nameS s = true ∧ s.cps.toList.head? = some (97 + ((start + sp * j) % 26).toNat)) ⟨L2.Same.refl H1, [], rfl, rfl, ?_⟩ (fun i ys H' hi hp => ?_) fun ys H' hp => ?_⟩
      · have : ∀ k : Nat, k < 6 → ([1, 3, 5, 7, 9, 11] : List Int).getD k 0 ∈ [(1 : Int), 3, 5, 7, 9, 11, 15, 25] := by decide
        exact ⟨_, this step.toNat (by omega), rfl, fun j s h => by simp at h⟩
      · obtain ⟨s2, ss, rfl, hsl, sp, hsp, esp, hss⟩ := hp
        walk_at "vc"
        refine iteT ?_
        walk_at "vc"
        refine ⟨by show 6 ≤ sizeLine; decide, fun m hm => ?_⟩
        have s3 := Snew s2 (o := .lst [V.int 1, V.int 3, V.int 5, V.int 7, V.int 9, V.int 11]) hm
        have em : upd H' m (.lst [V.int 1, V.int 3, V.int 5, V.int 7, V.int 9, V.int 11]) m = some (.lst [V.int 1, V.int 3, V.int 5, V.int 7, V.int 9, V.int 11]) := upd_same
        generalize upd H' m (.lst [V.int 1, V.int 3, V.int 5, V.int 7, V.int 9, V.int 11]) = H3 at s3 em ⊢
        have hat : atI [V.int 1, V.int 3, V.int 5, V.int 7, V.int 9, V.int 11] step = some (.int sp) := by
          obtain ⟨k, rfl⟩ := Int.eq_ofNat_of_zero_le st0
          rw [esp, Int.toNat_natCast]
          have hk : k < 6 := by omega
          have : ∀ k : Nat, k < 6 → ([V.int 1, V.int 3, V.int 5, V.int 7, V.int 9, V.int 11] : List V)[k]? = some (.int (([1, 3, 5, 7, 9, 11] : List Int).getD k 0)) := fun k hk => by
            match k, hk with
            | 0, _ => rfl
            | 1, _ => rfl
            | 2, _ => rfl
            | 3, _ => rfl
            | 4, _ => rfl
            | 5, _ => rfl
          exact atI_nat (this k hk)
        walk_at "vc"
        refine .inl (vIxL em hat ?_)
        have spb : 0 ≤ sp ∧ sp ≤ 25 := by
          simp only [List.mem_cons, List.not_mem_nil, or_false] at hsp
          rcases hsp with rfl | rfl | rfl | rfl | rfl | rfl | rfl | rfl <;> decide
        walk_at "vc"
        rw [Int.zero_add]
        refine vMulI (.inl ⟨by omega, by omega⟩) ?_
        walk_at "vc"
        refine vI (by decide) ?_
        have c1 := Int.emod_nonneg (start + sp * (i : Int)) (show (26 : Int) ≠ 0 by decide)
        have c2 := Int.emod_lt_of_pos (start + sp * (i : Int)) (show (0 : Int) < 26 by decide)
        refine .inl (vIxS (by decide +kernel) (L26_at c1 c2) ?_)
        walk_at "vc"
        refine vI (by decide) ?_
        walk_at "vc"
        have hn : 1 + (i : Int) % 3 = 1 ∨ 1 + (i : Int) % 3 = 2 ∨ 1 + (i : Int) % 3 = 3 := by omega
        obtain ⟨mo, ml, mn⟩ := rep_ok (c := 97 + ((start + sp * (i : Int)) % 26).toNat) hn
        refine ⟨mo, ?_⟩
        walk_at "vc"
        have hE0 : E1.length = E1.cps.toList.length := by simp [Str.length]
        have hE1 : E1.length ≤ 3 := by omega
        refine vAddS (by rw [mn]; exact Nat.le_trans (show _ ≤ 6 by omega) (by decide)) ?_
        refine ⟨by rw [List.length_map, hsl]; exact small1000 (by omega), s3, ss ++ [_], by rw [List.map_append]; rfl, by rw [List.length_append, hsl]; rfl, sp, hsp, esp, fun j s hj => ?_⟩
        by_cases hji : j < ss.length
        · rw [List.getElem?_append_left hji] at hj
          exact hss j s hj
        · rw [List.getElem?_append_right (by omega)] at hj
          have e0 : j - ss.length = 0 := by
            have := (List.getElem?_eq_some_iff.mp hj).1
            simp only [List.length_cons, List.length_nil] at this
            omega
          rw [e0] at hj
          cases hj
          have hjeq : j = i := by omega
          subst hjeq
          have ea := app_list (Txt.mul ⟨#[97 + ((start + sp * (j : Int)) % 26).toNat]⟩ (1 + (j : Int) % 3)) E1
          rw [ml] at ea
          refine ⟨nameS_of ea ?_ ?_ ?_, ?_⟩
          · rw [List.length_append, List.length_replicate]; omega
          · rw [List.length_append, List.length_replicate]; omega
          · rw [List.all_append, hE, Bool.and_true]
            refine List.all_eq_true.mpr fun x hx => ?_
            rw [(List.mem_replicate.mp hx).2]
            exact sg_of (by omega) (by omega)
          · rw [ea]
            obtain ⟨k, hk⟩ : ∃ k, (1 + (j : Int) % 3).toNat = k + 1 := ⟨(1 + (j : Int) % 3).toNat - 1, by omega⟩
            rw [hk]
            rfl
      · obtain ⟨s2, ss, rfl, hsl, sp, hsp, esp, hss⟩ := hp
        refine ⟨by rw [List.length_map, hsl]; exact Nat.le_of_lt (small1000 (by omega)), fun l hl0 => hD _ _ ?_⟩
        refine q l ss _ ((s1.trans s2).trans (Snew (L2.Same.refl H') hl0)) ((s1.trans s2).free hl0) upd_same ⟨by omega, nodup_key fun j k s hj hk => ?_, fun s hs => ?_⟩
        · have ej := (hss j s hj).2
          have ek := (hss k s hk).2
          rw [ej] at ek
          have e := Option.some.inj ek
          have hj' : j < ss.length := (List.getElem?_eq_some_iff.mp hj).1
          have hk' : k < ss.length := (List.getElem?_eq_some_iff.mp hk).1
          have q1 := Int.emod_nonneg (start + sp * (j : Int)) (show (26 : Int) ≠ 0 by decide)
          have q2 := Int.emod_nonneg (start + sp * (k : Int)) (show (26 : Int) ≠ 0 by decide)
          have := step_inj (a := j) (b := k) hsp (by omega) (by omega) (by omega) (by omega) (sh := start) (by omega)
          omega
        · obtain ⟨j, hj⟩ := List.getElem?_of_mem hs
          exact (hss j s hj).1
    walk_at "vc"
    refine vAsgU ?_
    walk_at "vc"
    refine ⟨by show 7 ≤ sizeLine; decide, fun b hb => ?_⟩
    have s1 := Snew (L2.Same.refl H) (o := .lst [V.int 8, V.int 8, V.int 15, V.int 26, V.int 6, V.int 4, V.int 26]) hb
    have eb : upd H b (.lst [V.int 8, V.int 8, V.int 15, V.int 26, V.int 6, V.int 4, V.int 26]) b = some (.lst ([8, 8, 15, 26, 6, 4, 26].map V.int)) := upd_same
    generalize upd H b (.lst [V.int 8, V.int 8, V.int 15, V.int 26, V.int 6, V.int 4, V.int 26]) = H1 at s1 eb ⊢
    walk_at "vc"
    refine ⟨b, c, 2147483647, [8, 8, 15, 26, 6, 4, 26], rfl, eb, by decide, by decide, by decide, by decide, fun l ns H2 s2 hl0 hl hlen hns => ?_⟩
    match ns, hlen, hl, hns with
    | [n1, n2, n3, n4, n5, n6, n7], _, hl, hns =>
      have e1 := hns 0 n1 8 rfl rfl
      have e2 := hns 1 n2 8 rfl rfl
      have e3 := hns 2 n3 15 rfl rfl
      have e4 := hns 3 n4 26 rfl rfl
      have e5 := hns 4 n5 6 rfl rfl
      have e6 := hns 5 n6 4 rfl rfl
      have e7 := hns 6 n7 26 rfl rfl
      refine ⟨l, _, rfl, .inr (SqL.of hl), rfl, _, _, rfl, _, _, rfl, _, _, rfl, _, _, rfl, _, _, rfl, _, _, rfl, _, _, rfl, rfl, ?_⟩
      walk_at "vc"
      refine .inl (.inl (.inl ⟨rfl, rfl, ?_⟩))
      walk_at "vc"
      refine ite2 (fun h => ?_) fun h => ?_
      · walk_at "vc"
        rw [hTC3]
        exact ⟨fun _ _ z => z, _, _, _, _, _, _, n4, n5, n6, n7, n3, rfl, s1.trans s2, e4, e5, e6, e7, e3.1, e3.2⟩
      · walk_at "vc"
        rw [hTC3]
        exact ⟨fun _ _ z => z, _, _, _, _, _, _, n4, n5, n6, n7, n2, rfl, s1.trans s2, e4, e5, e6, e7, e2.1, by omega⟩
end
open PySem L2 PyProof.Rows
/- _law_is_name: calls []; cells [] -/
abbrev s_l_is_name : Stmt := top 22
theorem sc_l_is_name : FnScope ["_law_word"] ["_law_word"] (defScope s_l_is_name) := ⟨rfl, rfl, rfl, by decide +kernel, rfl, by decide +kernel, by decide +kernel⟩
/- _law_parts: calls []; cells [] -/
abbrev s_l_parts : Stmt := top 23
theorem sc_l_parts : FnScope ["_law_text", "_law_mark", "_law_parts_here", "_law_sign"] ["_law_text", "_law_mark"] (defScope s_l_parts) := ⟨rfl, rfl, rfl, by decide +kernel, rfl, by decide +kernel, by decide +kernel⟩
theorem for_str {x : Str} {g : TG} {tb : TS} {D : Ends} {σ : L2.St} {H : Hp} (Pv : Nat → L2.St → Hp → Prop) (h0 : Pv 0 σ H)
    (hs : ∀ i c σ H, x.cps[i]? = some c → Pv i σ H → g (.str ⟨#[c]⟩) σ H fun σ2 H2 => tb { D with nx := Pv (i + 1), ct := Pv (i + 1), bk := D.nx } σ2 H2) (hd : ∀ σ H, Pv x.cps.size σ H → D.nx σ H) : ForR g tb D σ (Its x) H := by
  refine ⟨fun i m σ H => m = x.cps.size - i ∧ i ≤ x.cps.size ∧ Pv i σ H, ⟨x.cps.size, by simp, Nat.zero_le _, h0⟩, ?_⟩
  rintro i m σ H ⟨rfl, hi, p⟩
  by_cases hlt : i < x.cps.size
  · refine .inr ⟨hlt, Pv (i + 1), fun σ' H' p' => ⟨x.cps.size - (i + 1), by omega, rfl, hlt, p'⟩, fun v H' y => ?_⟩
    obtain ⟨e, c, hc, ev⟩ := y
    subst e ev
    exact hs i c σ _ hc p
  · have e : i = x.cps.size := by omega
    subst e
    exact .inl ⟨rfl, hd σ H p⟩
theorem L26_mem (c : Nat) : decide (c ∈ L26.cps.toList) = sg c := by
  rw [Bool.eq_iff_iff, decide_eq_true_iff]
  constructor
  · intro h
    exact List.all_eq_true.mp L26_sg c h
  · intro h
    have e : sg c = true := h
    have h27 : 97 ≤ c ∧ c ≤ 122 := by
      unfold sg at e
      split at e
      · rename_i h1
        have e1 : ("a" : Str).cps.toList = [97] := by decide +kernel
        have e2 : ("z" : Str).cps.toList = [122] := by decide +kernel
        rw [e1] at h1
        rw [e2] at e
        simp only [Bool.not_eq_true', decide_eq_false_iff_not] at h1 e
        exact ⟨Nat.le_of_not_lt fun z => h1 (List.Lex.rel z), Nat.le_of_not_lt fun z => e (List.Lex.rel z)⟩
      · cases e
    have key : ∀ n, n < 26 → 97 + n ∈ L26.cps.toList := by decide +kernel
    have := key (c - 97) (by omega)
    rwa [show 97 + (c - 97) = c by omega] at this
theorem not_L26 (c : Nat) : (!(!(Builtin.Str.occurrences L26 ⟨#[c]⟩ 0 L26.length 1).isEmpty)) = !sg c := by
  rw [StrLaws.found_one, L26_mem]
def spIsN : Sp := fun vs H Q _ => ∃ z : Str, vs = [.str z] ∧ z.length ≤ 1000 ∧ ∀ H', L2.Same H H' → Q (.bl (nameS z)) H'
theorem jl_snoc (c : List Nat) : ∀ (ws : List (List Nat)), ws ≠ [] → jl c (ws ++ [[]]) = jl c ws ++ c
  | [], h => absurd rfl h
  | [a], _ => by show a ++ c ++ jl c [[]] = a ++ c; show a ++ c ++ [] = a ++ c; rw [List.append_nil]
  | a :: b :: r, _ => by
    have ih := jl_snoc c (b :: r) (by simp)
    show a ++ c ++ jl c ((b :: r) ++ [[]]) = a ++ c ++ jl c (b :: r) ++ c
    rw [ih]
    simp [List.append_assoc]
theorem jl_last (c : List Nat) (l y : List Nat) : ∀ (ws : List (List Nat)), jl c (ws ++ [l ++ y]) = jl c (ws ++ [l]) ++ y
  | [] => rfl
  | [a] => by show a ++ c ++ (l ++ y) = a ++ c ++ l ++ y; simp [List.append_assoc]
  | a :: b :: r => by
    have ih := jl_last c l y (b :: r)
    show a ++ c ++ jl c ((b :: r) ++ [l ++ y]) = a ++ c ++ jl c ((b :: r) ++ [l]) ++ y
    rw [ih]
    simp [List.append_assoc]
theorem split_is {x : Str} {c : Nat} {ws : List Str} (ne : ws ≠ []) (hf : ∀ l ∈ ws, c ∉ l.cps.toList) (hj : jl [c] (ws.map (·.cps.toList)) = x.cps.toList) : Txt.split x ⟨#[c]⟩ = ws := by
  have e : Txt.join ⟨#[c]⟩ ws = x := by
    rw [join_eq]
    exact str_ext (by rw [join_jl]; exact hj)
  have := split_of ne hf
  rw [e] at this
  exact this
def spPts : Sp := fun vs H Q _ => ∃ (z : Str) (c : Nat), vs = [.str z, .str ⟨#[c]⟩] ∧ z.length ≤ 1000 ∧ ∀ (l : Addr) (H' : Hp), L2.Same H H' → H l = none → H' l = some (.lst ((Txt.split z ⟨#[c]⟩).map V.str)) → Q (.ref l) H'
section
variable {P : Program} {w : World} {K : W.Frag} {mg : Str → Option Value} {base : Heap} {cc : Nat → Addr} {cw : Addr}
theorem ok_isn {f : Addr} {fd : FuncData} (F : Fun K "_law_is_name" "_law_is_name" s_l_is_name f fd) (T : Txt K mg cc cw) : FnOk P w K mg base CX0 1 f fd ["_law_word"] spIsN := by
  refine F.ok sc_l_is_name (fun vs H Q E h => ?_) fun cdv A outer s H vs Q E hr h => ?_
  · obtain ⟨z, rfl, _⟩ := h; rfl
  · obtain ⟨x, rfl, hx, q⟩ := h
    have hu := u100 hr
    refine ⟨_, (pss_cons (ps_if (PW.pt (pw_or (pt_cmpR op_lt (pe_callB (k_len (K := K) rfl) rfl T.b_len boot_len (pa_cons (pv 0) pa_nil)) pe_int (nomark _)) (pw_or1 (pt_cmpR op_gt (pe_callB (k_len (K := K) rfl) rfl T.b_len boot_len (pa_cons (pv 0) pa_nil)) pe_int (nomark _))))) (pss_one (ps_ret pe_bl)) pss_nil)
  (pss_one (ps_ret (pe_cmpR (k_eqZ (K := K) rfl hu) (pe_comp (sc := defScope s_l_is_name) (XN := ["_law_word"]) ["_law_sign"] 1 [] rfl rfl rfl (by decide +kernel) rfl (by decide +kernel)
   (ki_any (K := K) rfl (pv 0)) (fun _ _ _ _ => (pg_name (i := 0) (show (["_law_sign"] : List Str).Nodup by decide +kernel) rfl (Or.inl rfl))) gk_name
   (fun _ _ _ _ => (pifs_one (pt_cmpR k_notinS (pv 0) pe_str (by with_unfolding_all rfl))))
   (fun _ _ _ _ => (pv 0))) (pe_lst pa_nil) (nomark _))))), ?_⟩
    unfold nameS at q
    walk_at "vc"
    refine vLenS (Nat.le_trans hx (by decide)) ?_
    walk_at "vc"
    have no : ¬ (1 ≤ x.length ∧ x.length ≤ 6) → Q (.bl false) H := fun hc => by
      have := q H (L2.Same.refl H)
      rw [if_neg hc] at this
      exact this
    refine ite2 (fun h => ?_) fun h => ?_
    · refine iteT ?_
      walk_at "vc"
      exact no fun e => by have := of_decide_eq_true h; omega
    have h1 : 1 ≤ x.length := by
      refine Nat.le_of_not_lt fun e => h (decide_eq_true ?_)
      omega
    walk_at "vc"
    refine vLenS (Nat.le_trans hx (by decide)) ?_
    walk_at "vc"
    refine ite2 (fun h => ?_) fun h => ?_
    · walk_at "vc"
      exact no fun e => by have := of_decide_eq_true h; omega
    have h6 : x.length ≤ 6 := by
      refine Nat.le_of_not_lt fun e => h (decide_eq_true ?_)
      omega
    rw [if_pos ⟨h1, h6⟩] at q
    walk_at "vc"
    refine comp_str (fun i ys H' => H' = H ∧ ∃ cs : List Nat, ys = cs.map (fun c => V.str ⟨#[c]⟩) ∧ cs = (x.cps.toList.take i).filter fun c => !sg c) ⟨rfl, [], rfl, by simp⟩ (fun i c ys H' hc hp => ?_) fun ys H' hp => ?_
    · obtain ⟨rfl, cs, rfl, ecs⟩ := hp
      have e' : x.cps.toList[i]? = some c := by simpa using hc
      have hi : i < x.cps.toList.length := (List.getElem?_eq_some_iff.mp e').1
      have hcl : cs.length ≤ i := by rw [ecs]; exact Nat.le_trans (List.length_filter_le _ _) (by rw [List.length_take]; omega)
      have hxl : x.cps.toList.length = x.length := by simp [Str.length]
      walk_at "vc"
      refine ⟨_, _, rfl, rfl, ?_⟩
      have nl := not_L26 c
      unfold L26 at nl
      rw [nl]
      walk_at "vc"
      refine ite2 (fun hb => ?_) fun hb => ?_
      · walk_at "vc"
        refine ⟨by rw [List.length_map]; exact small1000 (by omega), rfl, cs ++ [c], by rw [List.map_append]; rfl, ?_⟩
        rw [List.take_add_one, e', List.filter_append, ecs]
        simp [hb]
      · refine ⟨rfl, cs, rfl, ?_⟩
        have hb' : sg c = true := by simpa using hb
        rw [List.take_add_one, e', List.filter_append, ecs]
        simp [hb']
    · obtain ⟨rfl, cs, rfl, ecs⟩ := hp
      have ht : x.cps.toList.take x.cps.size = x.cps.toList := by rw [← Array.length_toList, List.take_length]
      rw [ht] at ecs
      have hcl : cs.length ≤ 6 := by rw [ecs]; exact Nat.le_trans (List.length_filter_le _ _) (by simpa [Str.length] using h6)
      refine ⟨by rw [List.length_map]; exact Nat.le_of_lt (small1000 (by omega)), fun l hl => ?_⟩
      have s1 := Snew (L2.Same.refl H') (o := .lst (cs.map (fun c => V.str ⟨#[c]⟩))) hl
      have el : upd H' l (.lst (cs.map (fun c => V.str ⟨#[c]⟩))) l = some (.lst (cs.map (fun c => V.str ⟨#[c]⟩))) := upd_same
      generalize upd H' l (.lst (cs.map (fun c => V.str ⟨#[c]⟩))) = H1 at s1 el ⊢
      walk_at "vc"
      refine ⟨by decide, fun z hz => ?_⟩
      have s2 := Snew (L2.Same.refl H1) (o := .lst []) hz
      have hb : x.cps.toList.all sg = (cs.map (fun c => V.str ⟨#[c]⟩)).isEmpty := by
        rw [Bool.eq_iff_iff, List.isEmpty_iff, List.map_eq_nil_iff, ecs, List.filter_eq_nil_iff, List.all_eq_true]
        simp
      have hend := q _ (s1.trans s2)
      rw [hb] at hend
      refine .inl (.inl ?_)
      cases cs with
      | nil => exact .inr (.inl ⟨l, z, true, 1, rfl, rfl, by decide, EqT.lst (n := 0) (e := fun _ => true) (SqL.of (s2 _ _ el)) (SqL.of upd_same) rfl (fun j x y h => by simp at h), hend⟩)
      | cons a r => exact .inr (.inl ⟨l, z, false, 1, rfl, rfl, by decide, .lstL (SqL.of (s2 _ _ el)) (SqL.of upd_same) (by simp), hend⟩)
theorem ok_pts {f : Addr} {fd : FuncData} (F : Fun K "_law_parts" "_law_parts" s_l_parts f fd) (T : Txt K mg cc cw) : FnOk P w K mg base CX0 1 f fd ["_law_text", "_law_mark"] spPts := by
  refine F.ok sc_l_parts (fun vs H Q E h => ?_) fun cdv A outer s H vs Q E hr h => ?_
  · obtain ⟨z, c, rfl, _⟩ := h; rfl
  · obtain ⟨x, c, rfl, hx, q⟩ := h
    have hu := u100 hr
    refine ⟨_, (pss_cons (ps_set (i := 2) sc_l_parts.nd rfl (Or.inl rfl) (pe_lst (pa_cons pe_str pa_nil)))
  (pss_cons (ps_for PassesOwn.never rfl (ki_any (K := K) rfl (pv 0)) (pg_name (i := 3) sc_l_parts.nd rfl (Or.inl rfl))
  (pss_one (ps_if (pt_cmpR (k_eqZ (K := K) rfl hu) (pv 3) (pv 1) (nomark _)) (pss_one (ps_expr (k_bm (K := K) rfl PySem.F.plainAttrs_list PySem.F.slot_list_append PySem.F.type_list_append mtR_append (pv 2) (pa_cons pe_str pa_nil)))) (pss_one (ps_asg (pe_op (k_add (K := K) rfl) (pe_ix (k_ixU (K := K) rfl hu) (pv 2) (pe_un un_neg pe_int) (fun _ _ => rfl)) (pv 3)) (pg_sub (pv 2) (pe_un un_neg pe_int) (k_setU hu)))))))
  (pss_one (ps_ret (pv 2))))), ?_⟩
    walk_at "vc"
    refine ⟨by show 1 ≤ sizeLine; decide, fun l hl0 => ?_⟩
    have s1 := Snew (L2.Same.refl H) (o := .lst [V.str ""]) hl0
    have el : upd H l (.lst [V.str ""]) l = some (.lst [V.str ""]) := upd_same
    generalize upd H l (.lst [V.str ""]) = H1 at s1 el ⊢
    walk_at "vc"
    have e0 : ("" : Str).cps.toList = [] := by decide +kernel
    refine for_str (fun i σ H' => ∃ (ws : List Str) (lw : Str) (x3 : Option V), σ = [some (.str x), some (.str ⟨#[c]⟩), some (.ref l), x3] ∧ L2.Same H H' ∧ H' l = some (.lst ((ws ++ [lw]).map V.str)) ∧ ws.length ≤ i ∧ lw.length ≤ i ∧ (∀ l ∈ ws ++ [lw], c ∉ l.cps.toList) ∧ jl [c] ((ws ++ [lw]).map (·.cps.toList)) = x.cps.toList.take i) ⟨[], "", none, rfl, s1, el, Nat.le_refl _, by decide +kernel, (fun l hl => by rw [List.mem_singleton.mp hl, e0]; simp), by show ("" : Str).cps.toList = _; rw [e0]; simp⟩ (fun i d σ H2 hd hp => ?_) fun σ H2 hp => ?_
    · obtain ⟨ws, lw, x3, rfl, s2, hl2, hwl, hlw, hf, hj⟩ := hp
      have e' : x.cps.toList[i]? = some d := by simpa using hd
      have hi : i < x.cps.toList.length := (List.getElem?_eq_some_iff.mp e').1
      have hxl : x.cps.toList.length = x.length := by simp [Str.length]
      have htk : x.cps.toList.take (i + 1) = x.cps.toList.take i ++ [d] := by rw [List.take_add_one, e']; rfl
      walk_at "vc"
      refine .inl (.inl (.inl ⟨rfl, rfl, ?_⟩))
      rw [if_neg Bool.false_ne_true, eqV_strD]
      walk_at "vc"
      have edc : ((⟨#[d]⟩ : Str) = ⟨#[c]⟩) ↔ d = c := ⟨fun e => by have := congrArg Str.cps e; simpa using this, fun e => by rw [e]⟩
      refine ite2 (fun h => ?_) fun h => ?_
      · have hdc : d = c := edc.mp (of_decide_eq_true h)
        subst hdc
        walk_at "vc"
        refine ⟨.inl ⟨rfl, _, SqL.of hl2⟩, ?_⟩
        walk_at "vc"
        refine ⟨l, _, _, rfl, rfl, hl2, by rw [List.length_map, List.length_append]; exact small1000 (by simp; omega), ?_⟩
        refine ⟨ws ++ [lw], "", _, rfl, Supd s2 hl0, by rw [upd_same, List.map_append (l₁ := ws ++ [lw])]; rfl, by rw [List.length_append]; simp; omega, by rw [show ("" : Str).length = 0 by decide +kernel]; omega, (fun y hy => ?_), ?_⟩
        · rcases List.mem_append.mp hy with z | z
          · exact hf y z
          · rw [List.mem_singleton.mp z, e0]; simp
        · rw [List.map_append (l₁ := ws ++ [lw])]
          show jl [d] ((ws ++ [lw]).map (·.cps.toList) ++ [("" : Str).cps.toList]) = _
          rw [e0, jl_snoc _ _ (by simp), hj, htk]
      · have hdc : ¬ d = c := fun e => h (decide_eq_true (edc.mpr e))
        have hlen : ((ws ++ [lw]).map V.str).length = ws.length + 1 := by rw [List.length_map, List.length_append]; rfl
        have hix : ixN ((ws ++ [lw]).map V.str).length (-1) = some ws.length := by
          rw [hlen]
          unfold ixN
          rw [if_neg (by decide), if_pos (by omega)]
          congr 1
          omega
        have hat : atI ((ws ++ [lw]).map V.str) (-1) = some (.str lw) := by
          unfold atI
          rw [hix]
          show ((ws ++ [lw]).map V.str)[ws.length]? = _
          rw [List.getElem?_map, List.getElem?_append_right (Nat.le_refl _), Nat.sub_self]
          rfl
        have hset : ((ws ++ [lw]).map V.str).set ws.length (.str (lw ++ ⟨#[d]⟩)) = (ws ++ [lw ++ ⟨#[d]⟩]).map V.str := by
          rw [List.map_append, List.map_append, List.set_append_right _ _ (by rw [List.length_map]; exact Nat.le_refl _), List.length_map, Nat.sub_self]
          rfl
        have hap := app_list lw ⟨#[d]⟩
        have hapl : (lw ++ (⟨#[d]⟩ : Str)).length = lw.length + 1 := by
          have e1 : (lw ++ (⟨#[d]⟩ : Str)).length = (lw ++ (⟨#[d]⟩ : Str)).cps.toList.length := by simp [Str.length]
          have e2 : lw.length = lw.cps.toList.length := by simp [Str.length]
          rw [e1, hap, List.length_append, e2]
          rfl
        walk_at "vc"
        refine vU ?_
        walk_at "vc"
        refine .inl (vIxL hl2 hat ?_)
        walk_at "vc"
        refine vAddS (Nat.le_trans (show lw.length + 1 ≤ 1002 by omega) (by decide)) ?_
        walk_at "vc"
        refine vU ?_
        refine .inl (vSetL hl2 hix ?_)
        rw [hset]
        refine ⟨ws, lw ++ ⟨#[d]⟩, _, rfl, Supd s2 hl0, upd_same, by omega, by omega, (fun y hy => ?_), ?_⟩
        · rcases List.mem_append.mp hy with z | z
          · exact hf y (List.mem_append_left _ z)
          · rw [List.mem_singleton.mp z, hap]
            intro hm
            rcases List.mem_append.mp hm with z' | z'
            · exact hf lw (List.mem_append_right _ (by simp)) z'
            · have z' : c ∈ [d] := z'
              exact hdc (List.mem_singleton.mp z').symm
        · rw [List.map_append]
          show jl [c] (ws.map (·.cps.toList) ++ [(lw ++ (⟨#[d]⟩ : Str)).cps.toList]) = _
          rw [hap, jl_last, htk, ← hj, List.map_append]
          rfl
    · obtain ⟨ws, lw, x3, rfl, s2, hl2, hwl, hlw, hf, hj⟩ := hp
      walk_at "vc"
      have ht : x.cps.toList.take x.cps.size = x.cps.toList := by rw [← Array.length_toList, List.take_length]
      rw [ht] at hj
      have := split_is (by simp) hf hj
      exact q l H2 s2 hl0 (by rw [this]; exact hl2)
end
open PySem L2 PyProof.Rows
/- _law_due_names: calls ['_law_parts', '_law_is_name']; cells [] -/
abbrev s_l_due_names : Stmt := top 24
theorem sc_l_due_names : FnScope ["_law_text", "_law_words"] ["_law_text"] (defScope s_l_due_names) := ⟨rfl, rfl, rfl, by decide +kernel, rfl, by decide +kernel, by decide +kernel⟩
/- _law_due_words: calls ['_law_parts']; cells [] -/
abbrev s_l_due_words : Stmt := top 26
theorem sc_l_due_words : FnScope ["_law_text", "_law_words"] ["_law_text"] (defScope s_l_due_words) := ⟨rfl, rfl, rfl, by decide +kernel, rfl, by decide +kernel, by decide +kernel⟩
def PrintS (z : Str) : Prop := ∀ c ∈ z.cps.toList, (32 ≤ c ∧ c ≤ 126) ∨ c = 10
theorem wc_iff (c : Nat) : wc c = true ↔ 33 ≤ c ∧ c ≤ 126 := by
  have e1 : ("!" : Str).cps.toList = [33] := by decide +kernel
  have e2 : ("~" : Str).cps.toList = [126] := by decide +kernel
  unfold wc
  rw [e1, e2]
  have l1 : ([c] : List Nat) < [33] ↔ c < 33 := by
    constructor
    · intro h
      cases h with
      | rel h => exact h
      | cons h => cases h
    · intro h; exact List.Lex.rel h
  have l2 : ([126] : List Nat) < [c] ↔ 126 < c := by
    constructor
    · intro h
      cases h with
      | rel h => exact h
      | cons h => cases h
    · intro h; exact List.Lex.rel h
  simp only [l1, l2]
  by_cases h : c < 33
  · simp [h]
    omega
  · simp [h]
    omega
theorem mem_jl {c x : Nat} : ∀ {ls : List (List Nat)}, x ∈ jl [c] ls → x = c ∨ ∃ l ∈ ls, x ∈ l
  | [], h => by cases h
  | [a], h => .inr ⟨a, by simp, h⟩
  | a :: b :: r, h => by
    have h : x ∈ a ++ [c] ++ jl [c] (b :: r) := h
    rcases List.mem_append.mp h with z | z
    · rcases List.mem_append.mp z with z | z
      · exact .inr ⟨a, by simp, z⟩
      · exact .inl (List.mem_singleton.mp z)
    · rcases mem_jl z with z | ⟨l, hl, hx⟩
      · exact .inl z
      · exact .inr ⟨l, List.mem_cons_of_mem _ hl, hx⟩
theorem jl_mem {c x : Nat} : ∀ {ls : List (List Nat)} {l : List Nat}, l ∈ ls → x ∈ l → x ∈ jl [c] ls
  | [], _, h, _ => by cases h
  | [a], l, h, hx => by rw [List.mem_singleton.mp h] at hx; exact hx
  | a :: b :: r, l, h, hx => by
    show x ∈ a ++ [c] ++ jl [c] (b :: r)
    rcases List.mem_cons.mp h with z | z
    · rw [z] at hx; exact List.mem_append_left _ (List.mem_append_left _ hx)
    · exact List.mem_append_right _ (jl_mem z hx)
theorem split_mem (z : Str) (c x : Nat) : (x ∈ z.cps.toList → x = c ∨ ∃ p ∈ Txt.split z ⟨#[c]⟩, x ∈ p.cps.toList) ∧ (∀ p ∈ Txt.split z ⟨#[c]⟩, x ∈ p.cps.toList → x ∈ z.cps.toList ∧ x ≠ c) := by
  have hj := StrLaws.join_split z ⟨#[c]⟩
  have h2 := join_jl ⟨#[c]⟩ (Txt.split z ⟨#[c]⟩)
  rw [hj] at h2
  refine ⟨fun h => ?_, fun p hp hx => ⟨?_, fun e => ?_⟩⟩
  · rw [h2] at h
    rcases mem_jl h with e | ⟨l, hl, hx⟩
    · exact .inl e
    · obtain ⟨p, hp, rfl⟩ := List.mem_map.mp hl
      exact .inr ⟨p, hp, hx⟩
  · rw [h2]
    exact jl_mem (List.mem_map.mpr ⟨p, hp, rfl⟩) hx
  · subst e
    exact StrLaws.split_free z x p hp hx
theorem words_print {z : Str} (hp : PrintS z) : (Txt.split z " ").all wdS = (!decide (10 ∈ z.cps.toList) && !decide (("" : Str) ∈ Txt.split z " ")) := by
  rw [sp_eq, Bool.eq_iff_iff, List.all_eq_true, Bool.and_eq_true, Bool.not_eq_true', Bool.not_eq_true', decide_eq_false_iff_not, decide_eq_false_iff_not]
  constructor
  · intro h
    refine ⟨fun h10 => ?_, fun he => ?_⟩
    · rcases (split_mem z 32 10).1 h10 with e | ⟨p, hp', hx⟩
      · cases e
      · have := h p hp'
        unfold wdS at this
        split at this
        · cases this
        · have := (wc_iff 10).mp (List.all_eq_true.mp this 10 hx)
          omega
    · have := h _ he
      unfold wdS at this
      rw [if_pos rfl] at this
      cases this
  · intro ⟨h10, he⟩ p hp'
    unfold wdS
    have hpe : ¬ p = "" := fun e => he (by rw [← e]; exact hp')
    rw [if_neg hpe]
    refine List.all_eq_true.mpr fun x hx => (wc_iff x).mpr ?_
    obtain ⟨h1, h2⟩ := (split_mem z 32 x).2 p hp' hx
    rcases hp x h1 with h3 | h3
    · omega
    · exact absurd (h3 ▸ h1) h10
inductive Ot
  | ws (l : List Str)
  | ts (l : List (List Str))
def outK (kind : Int) (z : Str) : Option Ot := if kind = 0 then (rdN z).map .ws else if kind = 1 then (rdTi z).map .ts else (rdW z).map .ws
def ToldL (H : Hp) (l : Addr) : Ot → Prop
  | .ws ws => H l = some (.lst (ws.map V.str))
  | .ts wss => ∃ us : List Addr, H l = some (.lst (us.map V.ref)) ∧ us.length = wss.length ∧ ∀ (i : Nat) u w, us[i]? = some u → wss[i]? = some w → u ≠ l ∧ H u = some (.tup (w.map V.str))
theorem ToldL.same {H H' : Hp} {l : Addr} : ∀ {o : Ot}, ToldL H l o → L2.Same H H' → ToldL H' l o
  | .ws ws, h, s => s _ _ h
  | .ts wss, ⟨us, h1, h2, h3⟩, s => ⟨us, s _ _ h1, h2, fun i u w a b => ⟨(h3 i u w a b).1, s _ _ (h3 i u w a b).2⟩⟩
def spDu (kind : Int) : Sp := fun vs H Q _ => ∃ z : Str, vs = [.str z] ∧ z.length ≤ 1000 ∧ PrintS z ∧ (outK kind z = none → ∀ H', L2.Same H H' → Q .non H') ∧ ∀ o, outK kind z = some o → ∀ (l : Addr) (H' : Hp), L2.Same H H' → H l = none → ToldL H' l o → Q (.ref l) H'
section
variable {P : Program} {w : World} {K : W.Frag} {mg : Str → Option Value} {base : Heap} {cc : Nat → Addr} {cw : Addr}
theorem ok_dn {f : Addr} {fd : FuncData} (F : Fun K "_law_due_names" "_law_due_names" s_l_due_names f fd) (T : Txt K mg cc cw) (D_l_parts : DefOk P w K mg base CX0 1 "_law_parts" ["_law_text", "_law_mark"] spPts) (D_l_is_name : DefOk P w K mg base CX0 1 "_law_is_name" ["_law_word"] spIsN) : FnOk P w K mg base CX0 2 f fd ["_law_text"] (spDu 0) := by
  refine F.ok sc_l_due_names (fun vs H Q E h => ?_) fun cdv A outer s H vs Q E hr h => ?_
  · obtain ⟨z, rfl, _⟩ := h; rfl
  · obtain ⟨z, rfl, hz, hp, hno, hyes⟩ := h
    have hu := u100 hr
    refine ⟨_, (pss_cons (ps_set (i := 1) sc_l_due_names.nd rfl (Or.inl rfl) (pe_def D_l_parts (hm hr) pass0 (pa_cons (pv 0) (pa_cons pe_str pa_nil))))
  (pss_cons (ps_if (pt_cmpR (k_eqZ (K := K) rfl hu) (pv 0) pe_str (nomark _)) (pss_one (ps_ret (pe_lst pa_nil))) pss_nil)
  (pss_cons (ps_if (pt_not (pt_val (pe_callB (k_all (K := K) rfl rfl) rfl T.b_all boot_all (pa_cons (pe_comp (sc := defScope s_l_due_names) (XN := ["_law_text", "_law_words"]) ["_law_word"] 1 [] rfl rfl rfl (by decide +kernel) rfl (by decide +kernel)
   (ki_any (K := K) rfl (pv 1)) (fun _ _ _ _ => (pg_name (i := 0) (show (["_law_word"] : List Str).Nodup by decide +kernel) rfl (Or.inl rfl))) gk_name
   (fun _ _ _ _ => pifs_nil)
   (fun _ _ _ _ => (pe_def D_l_is_name (hm hr) pass0 (pa_cons (pv 0) pa_nil)))) pa_nil)))) (pss_one (ps_ret pe_non)) pss_nil)
  (pss_one (ps_ret (pv 1)))))), ?_⟩
    have eo : outK 0 z = (rdN z).map .ws := rfl
    rw [eo] at hno hyes
    unfold rdN at hno hyes
    walk_at "vc"
    refine ⟨z, 32, by rw [← sp_eq]; rfl, hz, fun l H1 s1 hl0 hl1 => ?_⟩
    rw [← sp_eq] at hl1
    walk_at "vc"
    refine .inl (.inl (.inl ⟨rfl, rfl, ?_⟩))
    rw [if_neg Bool.false_ne_true, eqV_strD]
    walk_at "vc"
    refine ite2 (fun h => ?_) fun h => ?_
    · have e : z = "-" := of_decide_eq_true h
      walk_at "vc"
      have ew : wdsN z = [] := by unfold wdsN; rw [if_pos e]
      rw [ew] at hyes
      exact ⟨by decide, fun c hc => hyes _ rfl c _ (s1.trans (Snew (L2.Same.refl H1) hc)) (s1.free hc) upd_same⟩
    have hne : ¬ z = "-" := fun e => h (decide_eq_true e)
    have ew : wdsN z = Txt.split z " " := by unfold wdsN; rw [if_neg hne]
    obtain ⟨wl, wn⟩ := wdsN_len z
    rw [ew] at wl wn hno hyes
    generalize Txt.split z " " = ws at *
    walk_at "vc"
    refine .inl ⟨⟨_, SqL.of hl1⟩, comp_list (K := K) (fun i ys H' => L2.Same H1 H' ∧ ys = ((ws.take i).map nameS).map V.bl) ⟨L2.Same.refl H1, by simp⟩ (fun i ys H' _ hp => SqL.of (hp.1 _ _ hl1)) (fun i y ys H' hy hp => ?_) fun ys H' hp => ?_⟩
    · obtain ⟨s2, rfl⟩ := hp
      obtain ⟨wd, gi, rfl⟩ : ∃ wd, ws[i]? = some wd ∧ y = .str wd := by
        rw [List.getElem?_map] at hy
        cases e : ws[i]? with
        | none => rw [e] at hy; cases hy
        | some wd => rw [e] at hy; exact ⟨wd, rfl, (Option.some.inj hy).symm⟩
      have hi : i < ws.length := (List.getElem?_eq_some_iff.mp gi).1
      have hwl := wl wd (List.mem_of_getElem? gi)
      walk_at "vc"
      refine iteT ?_
      walk_at "vc"
      refine ⟨wd, rfl, by omega, fun H3 s3 => ?_⟩
      refine ⟨by rw [List.length_map, List.length_map, List.length_take]; exact Nat.lt_of_le_of_lt (Nat.min_le_left _ _) (small1000 (by omega)), s2.trans s3, ?_⟩
      rw [List.take_add_one, gi]
      simp
    · obtain ⟨s2, rfl⟩ := hp
      have etk : ws.take (ws.map V.str).length = ws := by rw [List.length_map, List.take_length]
      rw [etk]
      refine ⟨by rw [List.length_map, List.length_map]; exact Nat.le_trans wn (Nat.le_trans (Nat.add_le_add_right hz 1) (by decide)), fun c hc => ?_⟩
      have s3 := Snew s2 (o := .lst ((ws.map nameS).map V.bl)) hc
      walk_at "vc"
      refine ⟨c, ws.map nameS, rfl, SqL.of upd_same, ?_⟩
      rw [all_bl]
      generalize upd H' c (.lst ((ws.map nameS).map V.bl)) = H3 at s3 ⊢
      walk_at "vc"
      refine ite2 (fun h => ?_) fun h => ?_
      · walk_at "vc"
        have hf : ws.all nameS = false := by simpa using h
        exact hno (by rw [if_neg (by rw [hf]; exact Bool.false_ne_true)]; rfl) H3 (s1.trans s3)
      · have ht : ws.all nameS = true := by simpa using h
        walk_at "vc"
        exact hyes (.ws ws) (by rw [if_pos ht]; rfl) l H3 (s1.trans s3) hl0 (s3 _ _ hl1)
theorem ok_dw {f : Addr} {fd : FuncData} (F : Fun K "_law_due_words" "_law_due_words" s_l_due_words f fd) (T : Txt K mg cc cw) (D_l_parts : DefOk P w K mg base CX0 1 "_law_parts" ["_law_text", "_law_mark"] spPts) : FnOk P w K mg base CX0 2 f fd ["_law_text"] (spDu 2) := by
  refine F.ok sc_l_due_words (fun vs H Q E h => ?_) fun cdv A outer s H vs Q E hr h => ?_
  · obtain ⟨z, rfl, _⟩ := h; rfl
  · obtain ⟨z, rfl, hz, hp, hno, hyes⟩ := h
    have hu := u100 hr
    refine ⟨_, (pss_cons (ps_set (i := 1) sc_l_due_words.nd rfl (Or.inl rfl) (pe_def D_l_parts (hm hr) pass0 (pa_cons (pv 0) (pa_cons pe_str pa_nil))))
  (pss_cons (ps_if (PW.pt (pw_or (pt_cmpR op_gt (pe_callB (k_len (K := K) rfl) rfl T.b_len boot_len (pa_cons (pv 0) pa_nil)) pe_int (nomark _)) (pw_or (pt_cmpR k_inS pe_str (pv 0) (by with_unfolding_all rfl)) (pw_or1 (pt_cmpR (k_inU (K := K) rfl hu) pe_str (pv 1) (by with_unfolding_all rfl)))))) (pss_one (ps_ret pe_non)) pss_nil)
  (pss_one (ps_ret (pv 1))))), ?_⟩
    have eo : outK 2 z = (rdW z).map .ws := rfl
    rw [eo] at hno hyes
    unfold rdW at hno hyes
    have hwp := words_print hp
    walk_at "vc"
    refine ⟨z, 32, by rw [← sp_eq]; rfl, hz, fun l H1 s1 hl0 hl1 => ?_⟩
    rw [← sp_eq] at hl1
    generalize Txt.split z " " = ws at *
    walk_at "vc"
    refine vLenS (Nat.le_trans hz (by decide)) ?_
    walk_at "vc"
    refine ite2 (fun h => ?_) fun h => ?_
    · have hlt : ¬ z.length ≤ 400 := by have := of_decide_eq_true h; omega
      refine iteT ?_
      walk_at "vc"
      exact hno (by rw [if_neg (fun e => hlt e.1)]; rfl) H1 s1
    have hle : z.length ≤ 400 := by
      refine Nat.le_of_not_lt fun e => h (decide_eq_true ?_)
      omega
    walk_at "vc"
    refine ⟨_, _, rfl, rfl, ?_⟩
    have enl : ("\n" : Str) = ⟨#[10]⟩ := by decide +kernel
    rw [enl, StrLaws.found_one]
    walk_at "vc"
    refine ite2 (fun h => ?_) fun h => ?_
    · refine iteT ?_
      walk_at "vc"
      exact hno (by rw [if_neg (fun e => by rw [hwp, h] at e; exact Bool.false_ne_true e.2)]; rfl) H1 s1
    have h10 : decide (10 ∈ z.cps.toList) = false := by simpa using h
    walk_at "vc"
    refine .inl ⟨l, _, rfl, .inl (SqL.of hl1), rfl, flat_strs ws, ?_⟩
    rw [inV_str, if_neg Bool.false_ne_true]
    walk_at "vc"
    refine ite2 (fun h => ?_) fun h => ?_
    · walk_at "vc"
      exact hno (by rw [if_neg (fun e => by rw [hwp, h10, h] at e; exact Bool.false_ne_true e.2)]; rfl) H1 s1
    have he : decide (("" : Str) ∈ ws) = false := by simpa using h
    walk_at "vc"
    exact hyes (.ws ws) (by rw [if_pos ⟨hle, by rw [hwp, h10, he]; rfl⟩]; rfl) l H1 s1 hl0 hl1
end
open PySem L2 PyProof.Rows
/- _law_due_ties: calls ['_law_parts', '_law_is_name']; cells [] -/
abbrev s_l_due_ties : Stmt := top 25
theorem sc_l_due_ties : FnScope ["_law_text", "_law_found", "_law_word", "_law_two"] ["_law_text"] (defScope s_l_due_ties) := ⟨rfl, rfl, rfl, by decide +kernel, rfl, by decide +kernel, by decide +kernel⟩
/- _law_read: calls ['read_names', 'read_ties', 'words_of']; cells [] -/
abbrev s_l_read : Stmt := top 27
theorem sc_l_read : FnScope ["_law_kind", "_law_text", "_law_told", "e"] ["_law_kind", "_law_text"] (defScope s_l_read) := ⟨rfl, rfl, rfl, by decide +kernel, rfl, by decide +kernel, by decide +kernel⟩
theorem all_no {wss : List (List Str)} {i : Nat} {w : List Str} (h : wss[i]? = some w) (hf : twoS w = false) : wss.all twoS = false := by
  cases e : wss.all twoS with
  | false => rfl
  | true =>
    have := List.all_eq_true.mp e w (List.mem_of_getElem? h)
    rw [hf] at this
    cases this
def spRd : Sp := fun vs H Q _ => ∃ (p : Addr) (k : Nat) (kind : Int) (v : V), vs = [.int kind, v] ∧ Th p H k v ∧ (kind = 0 ∨ kind = 1 ∨ kind = 2) ∧ (∀ z, v = .str z → z.length ≤ 1000) ∧
  ((∀ z, v = .str z → outK kind z = none) → ∀ (r : Addr) (H' : Hp), L2.Same H H' → H r = none → H' r = some (.lst [.bl false, v]) → Q (.ref r) H') ∧
  ∀ z o, v = .str z → outK kind z = some o → ∀ (r l : Addr) (H' : Hp), L2.Same H H' → H r = none → H l = none → l ≠ r → H' r = some (.lst [.bl true, .ref l]) → ToldL H' l o → Q (.ref r) H'
section
variable {P : Program} {w : World} {K : W.Frag} {mg : Str → Option Value} {base : Heap} {cc : Nat → Addr} {cw : Addr}
theorem ok_dt {f : Addr} {fd : FuncData} (F : Fun K "_law_due_ties" "_law_due_ties" s_l_due_ties f fd) (T : Txt K mg cc cw) (D_l_parts : DefOk P w K mg base CX0 1 "_law_parts" ["_law_text", "_law_mark"] spPts) (D_l_is_name : DefOk P w K mg base CX0 1 "_law_is_name" ["_law_word"] spIsN) : FnOk P w K mg base CX0 2 f fd ["_law_text"] (spDu 1) := by
  refine F.ok sc_l_due_ties (fun vs H Q E h => ?_) fun cdv A outer s H vs Q E hr h => ?_
  · obtain ⟨z, rfl, _⟩ := h; rfl
  · obtain ⟨z, rfl, hz, hp, hno, hyes⟩ := h
    have hu := u100 hr
    refine ⟨_, (pss_cons (ps_if (pt_cmpR (k_eqZ (K := K) rfl hu) (pv 0) pe_str (nomark _)) (pss_one (ps_ret (pe_lst pa_nil))) pss_nil)
  (pss_cons (ps_set (i := 1) sc_l_due_ties.nd rfl (Or.inl rfl) (pe_lst pa_nil))
  (pss_cons (ps_for PassesOwn.never rfl (ki_any (K := K) rfl (pe_def D_l_parts (hm hr) pass0 (pa_cons (pv 0) (pa_cons pe_str pa_nil)))) (pg_name (i := 2) sc_l_due_ties.nd rfl (Or.inl rfl))
  (pss_cons (ps_set (i := 3) sc_l_due_ties.nd rfl (Or.inl rfl) (pe_def D_l_parts (hm hr) pass0 (pa_cons (pv 2) (pa_cons pe_str pa_nil))))
  (pss_cons (ps_if (PW.pt (pw_or (pt_cmpR (k_neU (K := K) rfl hu) (pe_callB (k_len (K := K) rfl) rfl T.b_len boot_len (pa_cons (pv 3) pa_nil)) pe_int (nomark _)) (pw_or (pt_not (pt_val (pe_def D_l_is_name (hm hr) pass0 (pa_cons (pe_ix (k_ixU (K := K) rfl hu) (pv 3) pe_int (fun _ _ => rfl)) pa_nil)))) (pw_or1 (pt_not (pt_val (pe_def D_l_is_name (hm hr) pass0 (pa_cons (pe_ix (k_ixU (K := K) rfl hu) (pv 3) pe_int (fun _ _ => rfl)) pa_nil)))))))) (pss_one (ps_ret pe_non)) pss_nil)
  (pss_one (ps_expr (k_bm (K := K) rfl PySem.F.plainAttrs_list PySem.F.slot_list_append PySem.F.type_list_append mtR_append (pv 1) (pa_cons (pe_tup (pa_cons (pe_ix (k_ixU (K := K) rfl hu) (pv 3) pe_int (fun _ _ => rfl)) (pa_cons (pe_ix (k_ixU (K := K) rfl hu) (pv 3) pe_int (fun _ _ => rfl)) pa_nil))) pa_nil)))))))
  (pss_one (ps_ret (pv 1)))))), ?_⟩
    have eo : outK 1 z = (rdTi z).map .ts := rfl
    rw [eo] at hno hyes
    unfold rdTi at hno hyes
    walk_at "vc"
    refine .inl (.inl (.inl ⟨rfl, rfl, ?_⟩))
    rw [if_neg Bool.false_ne_true, eqV_strD]
    walk_at "vc"
    refine ite2 (fun h => ?_) fun h => ?_
    · have e : z = "-" := of_decide_eq_true h
      walk_at "vc"
      have ew : wdsN z = [] := by unfold wdsN; rw [if_pos e]
      rw [ew] at hyes
      exact ⟨by decide, fun c hc => hyes _ rfl c _ (Snew (L2.Same.refl H) hc) hc ⟨[], upd_same, rfl, fun i u w h => by simp at h⟩⟩
    have hne : ¬ z = "-" := fun e => h (decide_eq_true e)
    have ew : wdsN z = Txt.split z " " := by unfold wdsN; rw [if_neg hne]
    obtain ⟨wl, wn⟩ := wdsN_len z
    rw [ew] at wl wn hno hyes
    walk_at "vc"
    refine ⟨by decide, fun c hc0 => ?_⟩
    have s1 := Snew (L2.Same.refl H) (o := .lst []) hc0
    have ec : upd H c (.lst []) c = some (.lst []) := upd_same
    generalize upd H c (.lst []) = H1 at s1 ec ⊢
    walk_at "vc"
    refine ⟨z, 32, by rw [← sp_eq]; rfl, hz, fun l H2 s12 hl1 hl2 => ?_⟩
    rw [← sp_eq] at hl2
    generalize Txt.split z " " = ws at *
    have nlc : l ≠ c := fun e => by rw [e, ec] at hl1; cases hl1
    have s2 := s1.trans s12
    refine .inl ⟨⟨_, SqL.of hl2⟩, for_list (K := K) (fun i σ H' => ∃ (us : List Addr) (x2 x3 : Option V), σ = [some (.str z), some (.ref c), x2, x3] ∧ L2.Same H H' ∧ H' l = some (.lst (ws.map V.str)) ∧ H' c = some (.lst (us.map V.ref)) ∧ us.length = i ∧ (∀ j wd, j < i → ws[j]? = some wd → twoS (Txt.split wd "-") = true) ∧ ∀ (j : Nat) u wd, us[j]? = some u → ws[j]? = some wd → u ≠ c ∧ H' u = some (.tup ((Txt.split wd "-").map V.str))) ⟨[], none, none, rfl, s2, hl2, s12 _ _ ec, rfl, (fun j wd h => by omega), fun j u wd h => by simp at h⟩ (fun i σ H' _ hp => by obtain ⟨_, _, _, _, _, z, _⟩ := hp; exact SqL.of z) (fun i y σ H3 hy hp => ?_) fun σ H3 hp => ?_⟩
    · obtain ⟨us, x2, x3, rfl, s3, hl3, hc3, hul, htw, hus⟩ := hp
      obtain ⟨wd, gi, rfl⟩ : ∃ wd, ws[i]? = some wd ∧ y = .str wd := by
        rw [List.getElem?_map] at hy
        cases e : ws[i]? with
        | none => rw [e] at hy; cases hy
        | some wd => rw [e] at hy; exact ⟨wd, rfl, (Option.some.inj hy).symm⟩
      have hi : i < ws.length := (List.getElem?_eq_some_iff.mp gi).1
      have hwl := wl wd (List.mem_of_getElem? gi)
      have gi' : (ws.map fun w => Txt.split w "-")[i]? = some (Txt.split wd "-") := by rw [List.getElem?_map, gi]; rfl
      have bad : twoS (Txt.split wd "-") = false → ∀ H', L2.Same H H' → Q .non H' := fun hf H' s' => hno (by rw [if_neg (by rw [all_no gi' hf]; exact Bool.false_ne_true)]; rfl) H' s'
      obtain ⟨sl1, sl2⟩ := split_len wd 45
      rw [← da_eq] at sl1 sl2
      walk_at "vc"
      refine ⟨wd, 45, by rw [← da_eq]; rfl, by omega, fun t H4 s34 ht3 ht4 => ?_⟩
      rw [← da_eq] at ht4
      have s4 := s3.trans s34
      generalize hps : Txt.split wd "-" = ps at *
      walk_at "vc"
      refine vLenL ht4 ?_
      rw [List.length_map]
      walk_at "vc"
      refine .inl ⟨rfl, rfl, ?_⟩
      rw [if_pos rfl]
      walk_at "vc"
      have h2 : (!eqV (V.int (ps.length : Nat)) (V.int 2)) = !decide (ps.length = 2) := by
        congr 1
        rw [Bool.eq_iff_iff]
        simp [eqV]
        omega
      rw [h2]
      refine ite2 (fun h => ?_) fun h => ?_
      · refine iteT ?_
        walk_at "vc"
        have hne2 : ¬ ps.length = 2 := by simpa using h
        refine bad ?_ H4 s4
        match ps, hne2 with
        | [], _ => rfl
        | [_], _ => rfl
        | [_, _], h => exact absurd rfl h
        | _ :: _ :: _ :: _, _ => rfl
      have he2 : ps.length = 2 := by simpa using h
      match ps, he2, ht4, sl1, bad, hps with
      | [a, b], _, ht4, sl1, bad, hps =>
        have ha := sl1 a (by simp)
        have hb := sl1 b (by simp)
        have e2 : twoS [a, b] = (nameS a && nameS b) := rfl
        rw [e2] at bad
        walk_at "vc"
        refine .inl (vIxL ht4 rfl ?_)
        walk_at "vc"
        refine ⟨a, rfl, by omega, fun H5 s45 => ?_⟩
        have s5 := s4.trans s45
        walk_at "vc"
        refine ite2 (fun h => ?_) fun h => ?_
        · refine iteT ?_
          walk_at "vc"
          have hf : nameS a = false := by simpa using h
          exact bad (by rw [hf]; rfl) H5 s5
        have hna : nameS a = true := by simpa using h
        walk_at "vc"
        refine .inl (vIxL (s45 _ _ ht4) rfl ?_)
        walk_at "vc"
        refine ⟨b, rfl, by omega, fun H6 s56 => ?_⟩
        have s46 := s45.trans s56
        have s6 := s4.trans s46
        have s36 := s34.trans s46
        walk_at "vc"
        refine ite2 (fun h => ?_) fun h => ?_
        · walk_at "vc"
          have hf : nameS b = false := by simpa using h
          exact bad (by rw [hf, Bool.and_false]) H6 s6
        have hnb : nameS b = true := by simpa using h
        have hc6 := s36 _ _ hc3
        walk_at "vc"
        refine ⟨.inl ⟨rfl, _, SqL.of hc6⟩, ?_⟩
        walk_at "vc"
        refine .inl (vIxL (s46 _ _ ht4) rfl ?_)
        walk_at "vc"
        refine .inl (vIxL (s46 _ _ ht4) rfl ?_)
        walk_at "vc"
        refine ⟨by show 2 ≤ sizeLine; decide, fun u hu0 => ?_⟩
        have s67 := Snew (L2.Same.refl H6) (o := .tup [V.str a, V.str b]) hu0
        have eu : upd H6 u (.tup [V.str a, V.str b]) u = some (.tup [V.str a, V.str b]) := upd_same
        have nuc : u ≠ c := fun e => by rw [e, hc6] at hu0; cases hu0
        generalize upd H6 u (.tup [V.str a, V.str b]) = H7 at s67 eu ⊢
        have s37 := s36.trans s67
        walk_at "vc"
        refine ⟨c, _, _, rfl, rfl, s67 _ _ hc6, by rw [List.length_map, hul]; exact small1000 (by omega), ?_⟩
        refine ⟨us ++ [u], _, _, rfl, Supd (s3.trans s37) hc0, by rw [upd_ne nlc]; exact s37 _ _ hl3, by rw [upd_same, List.map_append]; rfl, by rw [List.length_append, hul]; rfl, (fun j wd' hj gj => ?_), fun j u' wd' hj gj => ?_⟩
        · by_cases hji : j < i
          · exact htw j wd' hji gj
          · have : j = i := by omega
            subst this
            rw [gi] at gj
            cases gj
            rw [hps, e2, hna, hnb]
            rfl
        · by_cases hji : j < us.length
          · rw [List.getElem?_append_left hji] at hj
            obtain ⟨h1, h2⟩ := hus j u' wd' hj gj
            exact ⟨h1, by rw [upd_ne h1]; exact s37 _ _ h2⟩
          · rw [List.getElem?_append_right (by omega)] at hj
            have e0 : j - us.length = 0 := by
              have := (List.getElem?_eq_some_iff.mp hj).1
              simp only [List.length_cons, List.length_nil] at this
              omega
            rw [e0] at hj
            cases hj
            have : j = i := by omega
            subst this
            rw [gi] at gj
            cases gj
            exact ⟨nuc, by rw [upd_ne nuc, hps]; exact eu⟩
    · obtain ⟨us, x2, x3, rfl, s3, hl3, hc3, hul, htw, hus⟩ := hp
      rw [List.length_map] at hul
      have hall : (ws.map fun w => Txt.split w "-").all twoS = true := by
        rw [List.all_map]
        refine List.all_eq_true.mpr fun x hx => ?_
        obtain ⟨j, hj⟩ := List.getElem?_of_mem hx
        exact htw j x (by rw [List.length_map]; exact (List.getElem?_eq_some_iff.mp hj).1) hj
      walk_at "vc"
      refine hyes (.ts (ws.map fun w => Txt.split w "-")) (by rw [if_pos hall]; rfl) c H3 s3 hc0 ⟨us, hc3, by rw [hul, List.length_map], fun j u w' hj gj => ?_⟩
      rw [List.getElem?_map] at gj
      cases e : ws[j]? with
      | none => rw [e] at gj; cases gj
      | some wd =>
        rw [e] at gj
        cases gj
        exact hus j u wd hj e
theorem ok_rd {f : Addr} {fd : FuncData} (F : Fun K "_law_read" "_law_read" s_l_read f fd) (T : Txt K mg cc cw) (D_read_names : DefOk P w K mg base (CX1 P w) 5 "read_names" ["text"] (spRN cc)) (D_read_ties : DefOk P w K mg base (CX1 P w) 5 "read_ties" ["text"] (spRTi cc)) (D_words_of : DefOk P w K mg base (CX1 P w) 4 "words_of" ["line"] (spWO cc)) : FnOk P w K mg base CX0 6 f fd ["_law_kind", "_law_text"] spRd := by
  refine F.ok sc_l_read (fun vs H Q E h => ?_) fun cdv A outer s H vs Q E hr h => ?_
  · obtain ⟨p, k, kind, v, rfl, _⟩ := h; rfl
  · obtain ⟨p, k, kind, v, rfl, hv, hk, hz, qno, qyes⟩ := h
    have hu := u100 hr
    refine ⟨_, (pss_one (ps_try rfl rfl rfl (pss_one (ps_ret (pe_lst (pa_cons pe_bl (pa_cons (pv 2) pa_nil))))))), ?_⟩
    walk_at "vc"
    refine ⟨fun σ c dxo H' => ∃ dy, c = .ref (cc 0) ∧ dxo = some dy ∧ L2.Same H H' ∧ H' dy = some (.xd [(fldn 0, v)]) ∧ (∀ z, v = .str z → outK kind z = none) ∧ ∃ x2 x3, σ = [some (.int kind), some v, x2, x3], _, fun pn xe xok_fn => (pss_one (ps_if (pt_cmpR (k_eqZ (K := K) rfl hu) (pv 0) pe_int (nomark _)) (pss_one (ps_set (i := 2) sc_l_read.nd rfl (Or.inl rfl) (pe_defS D_read_names (hm hr) xok_fn (pa_cons (pv 1) pa_nil)))) (pss_one (ps_if (pt_cmpR (k_eqZ (K := K) rfl hu) (pv 0) pe_int (nomark _)) (pss_one (ps_set (i := 2) sc_l_read.nd rfl (Or.inl rfl) (pe_defS D_read_ties (hm hr) xok_fn (pa_cons (pv 1) pa_nil)))) (pss_one (ps_set (i := 2) sc_l_read.nd rfl (Or.inl rfl) (pe_defS D_words_of (hm hr) xok_fn (pa_cons (pv 1) pa_nil)))))))), ?_, fun a C dx' σ' H' hE ha' => ?_⟩
    · have no1 : ∀ {σ : L2.St}, (∃ x2 x3, σ = [some (.int kind), some v, x2, x3]) → (∀ z, v = .str z → outK kind z = none) → Rz cc H (fun c dxo H' => ∃ dy, c = .ref (cc 0) ∧ dxo = some dy ∧ L2.Same H H' ∧ H' dy = some (.xd [(fldn 0, v)]) ∧ (∀ z, v = .str z → outK kind z = none) ∧ ∃ x2 x3, σ = [some (.int kind), some v, x2, x3]) (0, v) := fun hσ ho dy H' s' hy => ⟨dy, rfl, rfl, s', hy, ho, hσ⟩
      have nos : (∀ z, v ≠ .str z) → ∀ z, v = .str z → outK kind z = none := fun h z e => absurd e (h z)
      have fin : ∀ (z : Str) (o : Ot) (l : Addr) (H1 : Hp), v = .str z → outK kind z = some o → L2.Same H H1 → H l = none → ToldL H1 l o → ∀ r, H1 r = none → Q (.ref r) (upd H1 r (.lst [.bl true, .ref l])) := fun z o l H1 ev eo s1 hl0 ht r hr0 => by
        refine qyes z o ev eo r l _ (Snew s1 hr0) (s1.free hr0) hl0 (fun e => ?_) upd_same (ht.same (Snew (L2.Same.refl H1) hr0))
        subst e
        cases o with
        | ws ws => rw [show H1 l = some _ from ht] at hr0; cases hr0
        | ts wss => obtain ⟨us, h1, _⟩ := ht; rw [h1] at hr0; cases hr0
      walk_at "vc"
      refine .inl (.inl (.inl ⟨rfl, rfl, ?_⟩))
      walk_at "vc"
      rcases hk with rfl | rfl | rfl
      · refine ite2 (fun _ => ?_) fun h => absurd (by decide) h
        walk_at "vc"
        refine ⟨p, k, v, rfl, hv, (fun h => no1 ⟨_, _, rfl⟩ (nos h)), fun z ez => ⟨hz z ez, (fun e => no1 ⟨_, _, rfl⟩ fun z' ez' => ?_), fun ws e l H1 s1 hl0 hl1 => ?_⟩⟩
        · rw [ez] at ez'
          cases ez'
          show (rdN z).map Ot.ws = none
          rw [e]
          rfl
        · walk_at "vc"
          exact ⟨by show 2 ≤ sizeLine; decide, fin z (.ws ws) l H1 ez (by show (rdN z).map Ot.ws = _; rw [e]; rfl) s1 hl0 hl1⟩
      · refine ite2 (fun h => absurd h (by decide)) fun _ => ?_
        walk_at "vc"
        refine .inl (.inl (.inl ⟨rfl, rfl, ?_⟩))
        walk_at "vc"
        refine ite2 (fun _ => ?_) fun h => absurd (by decide) h
        walk_at "vc"
        refine ⟨p, k, v, rfl, hv, (fun h => no1 ⟨_, _, rfl⟩ (nos h)), fun z ez => ⟨hz z ez, (fun e => no1 ⟨_, _, rfl⟩ fun z' ez' => ?_), fun ws e l us H1 s1 hl0 hl1 hlen hus => ?_⟩⟩
        · rw [ez] at ez'
          cases ez'
          show (rdTi z).map Ot.ts = none
          rw [e]
          rfl
        · walk_at "vc"
          exact ⟨by show 2 ≤ sizeLine; decide, fin z (.ts ws) l H1 ez (by show (rdTi z).map Ot.ts = _; rw [e]; rfl) s1 hl0 ⟨us, hl1, hlen, hus⟩⟩
      · refine ite2 (fun h => absurd h (by decide)) fun _ => ?_
        walk_at "vc"
        refine .inl (.inl (.inl ⟨rfl, rfl, ?_⟩))
        walk_at "vc"
        refine ite2 (fun h => absurd h (by decide)) fun _ => ?_
        walk_at "vc"
        refine ⟨p, k, v, rfl, hv, (fun h => no1 ⟨_, _, rfl⟩ (nos h)), fun z ez => ⟨hz z ez, (fun e => no1 ⟨_, _, rfl⟩ fun z' ez' => ?_), fun ws e l H1 s1 hl0 hl1 => ?_⟩⟩
        · rw [ez] at ez'
          cases ez'
          show (rdW z).map Ot.ws = none
          rw [e]
          rfl
        · walk_at "vc"
          exact ⟨by show 2 ≤ sizeLine; decide, fin z (.ws ws) l H1 ez (by show (rdW z).map Ot.ws = _; rw [e]; rfl) s1 hl0 hl1⟩
    · obtain ⟨dy, hc, rfl, s1, hy, ho, x2, x3, rfl⟩ := hE
      cases hc
      refine ⟨_, (ph_as (K := K) rfl sc_l_read.nd (i := 3) rfl rfl rfl T.m_NoLine (pss_one (ps_ret (pe_lst (pa_cons pe_bl (pa_cons (k_fldU (K := K) rfl (pv 3) rfl) pa_nil))))) ph_nil), ?_⟩
      refine ⟨true, T.mro0, T.xat 0 (by decide), T.xat 0 (by decide), iteT ?_⟩
      walk_at "vc"
      refine .inr ⟨a, cc 0, dy, _, v, rfl, .inr ha', T.xat 0 (by decide), T.na 0 (by decide), hy, rfl, ?_⟩
      walk_at "vc"
      exact ⟨by show 2 ≤ sizeLine; decide, fun r hr0 => qno ho r _ (Snew s1 hr0) (s1.free hr0) upd_same⟩
end
open PySem L2 PyProof.Rows
/- _law_reads_right: calls ['_law_due_words', '_law_due_ties', '_law_due_names', '_law_read']; cells [] -/
abbrev s_l_reads_right : Stmt := top 28
theorem sc_l_reads_right : FnScope ["_law_text", "_law_dues", "_law_kind", "_law_turn", "_law_good", "_law_told"] ["_law_text"] (defScope s_l_reads_right) := ⟨rfl, rfl, rfl, by decide +kernel, rfl, by decide +kernel, by decide +kernel⟩
def DueV (H : Hp) (v : V) (o : Option Ot) : Prop := (v = .non ∧ o = none) ∨ ∃ l ot, v = .ref l ∧ o = some ot ∧ ToldL H l ot
theorem DueV.same {H H' : Hp} {v : V} {o : Option Ot} (h : DueV H v o) (s : L2.Same H H') : DueV H' v o := by
  rcases h with h | ⟨l, ot, h1, h2, h3⟩
  · exact .inl h
  · exact .inr ⟨l, ot, h1, h2, h3.same s⟩
theorem du_one {kind : Int} {z : Str} {H : Hp} {Q : VK} {E : XK} (hz : z.length ≤ 1000) (hp : PrintS z) (q : ∀ v H', L2.Same H H' → DueV H' v (outK kind z) → Q v H') : spDu kind [.str z] H Q E :=
  ⟨z, rfl, hz, hp, fun e H' s => q _ H' s (.inl ⟨rfl, e⟩), fun o e l H' s _ ht => q _ H' s (.inr ⟨l, o, rfl, e, ht⟩)⟩
def RdV (H H' : Hp) (kind : Int) (z : Str) (b : Bool) (v : V) (r : Addr) : Prop := (outK kind z = none ∧ b = false ∧ v = .str z) ∨ ∃ o l, outK kind z = some o ∧ b = true ∧ v = .ref l ∧ H l = none ∧ l ≠ r ∧ ToldL H' l o
theorem rd_one {kind : Int} {z : Str} {H : Hp} {Q : VK} {E : XK} (hk : kind = 0 ∨ kind = 1 ∨ kind = 2) (hz : z.length ≤ 1000) (q : ∀ r b v H', L2.Same H H' → H r = none → H' r = some (.lst [.bl b, v]) → RdV H H' kind z b v r → Q (.ref r) H') : spRd [.int kind, .str z] H Q E :=
  ⟨0, 0, kind, .str z, rfl, th_long hz, hk, (fun z' e => by cases e; exact hz), (fun ho r H' s hr0 hr => q r _ _ H' s hr0 hr (.inl ⟨ho z rfl, rfl, rfl⟩)), fun z' o e ho r l H' s hr0 hl0 hlr hr ht => by cases e; exact q r _ _ H' s hr0 hr (.inr ⟨o, l, ho, rfl, rfl, hl0, hlr, ht⟩)⟩
def otLen : Ot → Nat
  | .ws l => l.length
  | .ts l => l.length
theorem ToldL.lst {H : Hp} {l : Addr} : ∀ {o : Ot}, ToldL H l o → ∃ xs : List V, H l = some (.lst xs) ∧ xs.length = otLen o
  | .ws _, h => ⟨_, h, by rw [List.length_map]; rfl⟩
  | .ts _, ⟨_, h, h2, _⟩ => ⟨_, h, by rw [List.length_map, h2]; rfl⟩
theorem ot_len {kind : Int} {z : Str} {o : Ot} (h : outK kind z = some o) : otLen o ≤ z.length + 1 := by
  unfold outK at h
  split at h
  · obtain ⟨ws, h1, rfl⟩ := Option.map_eq_some_iff.mp h
    unfold rdN at h1
    split at h1
    · cases h1; exact (wdsN_len z).2
    · cases h1
  · split at h
    · obtain ⟨ws, h1, rfl⟩ := Option.map_eq_some_iff.mp h
      unfold rdTi at h1
      split at h1
      · cases h1
        show (List.map _ _).length ≤ _
        rw [List.length_map]
        exact (wdsN_len z).2
      · cases h1
    · obtain ⟨ws, h1, rfl⟩ := Option.map_eq_some_iff.mp h
      unfold rdW at h1
      split at h1
      · cases h1
        have := (split_len z 32).2
        rw [← sp_eq] at this
        exact this
      · cases h1
theorem vIsNN {H : Hp} {Q : VK} (h : Q (.bl true) H) : rIsU .non .non H Q := by
  show Q (.bl (decide (V.non = V.non))) H
  rw [decide_eq_true rfl]
  exact h
theorem vIsRN {H : Hp} {Q : VK} {a : Addr} (h : Q (.bl false) H) : rIsU (.ref a) .non H Q := by
  show Q (.bl (decide (V.ref a = V.non))) H
  rw [decide_eq_false (fun e => by cases e)]
  exact h
section
variable {P : Program} {w : World} {K : W.Frag} {mg : Str → Option Value} {base : Heap} {cc : Nat → Addr} {cw : Addr}
theorem strs_eqD {H : Hp} {m : Nat} {ss : List Str} : ∀ x ∈ ss.map V.str, EqD K H m x x true := fun x hx => by
  obtain ⟨s, _, rfl⟩ := List.mem_map.mp hx
  have e := EqD.flat (K := K) (H := H) (n := m) (x := .str s) (y := .str s) rfl rfl
  rw [eqV_strD, decide_eq_true rfl] at e
  exact e
theorem allT (n : Nat) : (List.range n).all (fun _ => true) = true := by simp
theorem ToldL.eqT {H : Hp} {l r : Addr} : ∀ {o : Ot}, ToldL H l o → ToldL H r o → EqT K H 2 l r true
  | .ws ws, h, g => by
    have z := EqT.lst (K := K) (H := H) (n := 1) (e := fun _ => true) (SqL.of h) (SqL.of g) rfl fun j x y h1 h2 => by
      rw [h1] at h2
      cases h2
      exact strs_eqD x (List.mem_of_getElem? h1)
    rw [allT] at z
    exact z
  | .ts wss, ⟨us, h1, h2, h3⟩, ⟨vs, g1, g2, g3⟩ => by
    have z := EqT.lst (K := K) (H := H) (n := 1) (e := fun _ => true) (SqL.of h1) (SqL.of g1) (by rw [List.length_map, List.length_map, h2, g2]) fun j x y hx hy => by
      rw [List.getElem?_map] at hx hy
      cases e1 : us[j]? with
      | none => rw [e1] at hx; cases hx
      | some u =>
        cases e2 : vs[j]? with
        | none => rw [e2] at hy; cases hy
        | some v =>
          rw [e1] at hx
          rw [e2] at hy
          cases hx
          cases hy
          have hj : j < wss.length := by rw [← h2]; exact (List.getElem?_eq_some_iff.mp e1).1
          have gj : wss[j]? = some wss[j] := List.getElem?_eq_getElem hj
          have a1 := (h3 j u _ e1 gj).2
          have a2 := (g3 j v _ e2 gj).2
          by_cases e : u = v
          · subst e; exact .self
          · have z := EqT.tup (K := K) (H := H) (n := 0) (e := fun _ => true) (SqT.of a1) (SqT.of a2) fun j x y h1 h2 => by
              rw [h1] at h2
              cases h2
              exact strs_eqD x (List.mem_of_getElem? h1)
            rw [allT, beq_self_eq_true] at z
            exact .deep z e
    rw [allT] at z
    exact z
def spRR : Sp := fun vs H Q _ => ∃ z : Str, vs = [.str z] ∧ z.length ≤ 1000 ∧ PrintS z ∧ ∀ H', L2.Same H H' → Q (.bl true) H'
theorem ok_rr {f : Addr} {fd : FuncData} (F : Fun K "_law_reads_right" "_law_reads_right" s_l_reads_right f fd) (T : Txt K mg cc cw) (D_l_due_names : DefOk P w K mg base CX0 2 "_law_due_names" ["_law_text"] (spDu 0)) (D_l_due_ties : DefOk P w K mg base CX0 2 "_law_due_ties" ["_law_text"] (spDu 1)) (D_l_due_words : DefOk P w K mg base CX0 2 "_law_due_words" ["_law_text"] (spDu 2)) (D_l_read : DefOk P w K mg base CX0 6 "_law_read" ["_law_kind", "_law_text"] spRd) : FnOk P w K mg base CX0 7 f fd ["_law_text"] spRR := by
  refine F.ok sc_l_reads_right (fun vs H Q E h => ?_) fun cdv A outer s H vs Q E hr h => ?_
  · obtain ⟨z, rfl, _⟩ := h; rfl
  · obtain ⟨z, rfl, hz, hp, q⟩ := h
    have hu := u100 hr
    refine ⟨_, (pss_cons (ps_set (i := 1) sc_l_reads_right.nd rfl (Or.inl rfl) (pe_lst (pa_cons (pe_def D_l_due_names (hm hr) pass0 (pa_cons (pv 0) pa_nil)) (pa_cons (pe_def D_l_due_ties (hm hr) pass0 (pa_cons (pv 0) pa_nil)) (pa_cons (pe_def D_l_due_words (hm hr) pass0 (pa_cons (pv 0) pa_nil)) pa_nil)))))
  (pss_cons (ps_for PassesOwn.never rfl (pi_range1 rfl T.b_range (pa_cons pe_int pa_nil)) (pg_name (i := 2) sc_l_reads_right.nd rfl (Or.inl rfl))
  (pss_one (ps_for PassesOwn.never rfl (pi_range1 rfl T.b_range (pa_cons pe_int pa_nil)) (pg_name (i := 3) sc_l_reads_right.nd rfl (Or.inl rfl))
  (pss_cons (ps_asg (pe_def D_l_read (hm hr) pass0 (pa_cons (pv 2) (pa_cons (pv 0) pa_nil))) (pg_tupU rfl (pgs_cons (pg_name (i := 4) sc_l_reads_right.nd rfl (Or.inl rfl)) (pgs_cons (pg_name (i := 5) sc_l_reads_right.nd rfl (Or.inl rfl)) pgs_nil))))
  (pss_one (ps_if (pt_cmpR u_is (pe_ix (k_ixU (K := K) rfl hu) (pv 1) (pv 2) (fun _ _ => rfl)) pe_non (nomark _)) (pss_one (ps_if (PW.pt (pw_or (pt_val (pv 4)) (pw_or1 (pt_cmpR (k_neU (K := K) rfl hu) (pv 5) (pv 0) (nomark _))))) (pss_one (ps_ret pe_bl)) pss_nil)) (pss_one (ps_if (PW.pt (pw_or (pt_not (pt_val (pv 4))) (pw_or (pt_not (pt_val (pe_callB (k_isiU (K := K) rfl) rfl T.b_isinstance boot_isinstance (pa_cons (pv 5) (pa_cons (pe_bltn (v := .ty "list") rfl T.b_list boot_list rfl) pa_nil))))) (pw_or1 (pt_cmpR (k_neU (K := K) rfl hu) (pv 5) (pe_ix (k_ixU (K := K) rfl hu) (pv 1) (pv 2) (fun _ _ => rfl)) (nomark _)))))) (pss_one (ps_ret pe_bl)) (pss_one (ps_expr (k_bm (K := K) rfl PySem.F.plainAttrs_list PySem.F.slot_list_append PySem.F.type_list_append mtR_append (pv 5) (pa_cons pe_str pa_nil))))))))))))
  (pss_one (ps_ret pe_bl)))), ?_⟩
    walk_at "vc"
    refine du_one hz hp fun v0 H1 s1 d0 => ?_
    walk_at "vc"
    refine du_one hz hp fun v1 H2 s12 d1 => ?_
    walk_at "vc"
    refine du_one hz hp fun v2 H3 s23 d2 => ?_
    walk_at "vc"
    refine ⟨by show 3 ≤ sizeLine; decide, fun d hd => ?_⟩
    have s34 := Snew (L2.Same.refl H3) (o := .lst [v0, v1, v2]) hd
    have ed : upd H3 d (.lst [v0, v1, v2]) d = some (.lst [v0, v1, v2]) := upd_same
    replace d0 := d0.same (s12.trans (s23.trans s34))
    replace d1 := d1.same (s23.trans s34)
    replace d2 := d2.same s34
    have s4 := s1.trans (s12.trans (s23.trans s34))
    generalize upd H3 d (.lst [v0, v1, v2]) = H4 at ed d0 d1 d2 s4 ⊢
    clear s34 s1 s12 s23
    have dues : ∀ i : Nat, i < 3 → ∃ v, atI [v0, v1, v2] (i : Int) = some v ∧ DueV H4 v (outK i z) := fun i hi => by
      match i, hi with
      | 0, _ => exact ⟨v0, rfl, d0⟩
      | 1, _ => exact ⟨v1, rfl, d1⟩
      | 2, _ => exact ⟨v2, rfl, d2⟩
    walk_at "vc"
    refine ⟨3, rfl, by decide, by decide, for_range (fun i σ H' => L2.Same H4 H' ∧ ∃ x2 x3 x4 x5, σ = [some (.str z), some (.ref d), x2, x3, x4, x5]) ⟨L2.Same.refl H4, none, none, none, none, rfl⟩ (fun i σ H5 hi hp => ?_) fun σ H5 hp => ?_⟩
    · obtain ⟨s5, x2, x3, x4, x5, rfl⟩ := hp
      have hi : i < 3 := hi
      obtain ⟨dv, hat, hdv⟩ := dues i hi
      have hk : (i : Int) = 0 ∨ (i : Int) = 1 ∨ (i : Int) = 2 := by omega
      walk_at "vc"
      refine ⟨2, rfl, by decide, by decide, for_range (fun j σ H' => L2.Same H4 H' ∧ ∃ x3 x4 x5, σ = [some (.str z), some (.ref d), some (.int (i : Nat)), x3, x4, x5]) ⟨s5, _, _, _, by rw [Int.zero_add]; rfl⟩ (fun j σ H6 hj hp => ?_) fun σ H6 hp => ?_⟩
      · obtain ⟨s6, y3, y4, y5, rfl⟩ := hp
        walk_at "vc"
        refine vAsgU ?_
        walk_at "vc"
        refine rd_one hk hz fun r b v H7 s67 hr0 hr1 hrd => ?_
        have s7 := s6.trans s67
        refine ⟨r, _, rfl, .inr (SqL.of hr1), rfl, _, _, rfl, _, _, rfl, rfl, ?_⟩
        walk_at "vc"
        refine .inl (vIxL (s7 _ _ ed) hat ?_)
        rcases hdv with ⟨rfl, eo⟩ | ⟨dl, ot, rfl, eo, hdl⟩
        · rcases hrd with ⟨_, rfl, rfl⟩ | ⟨o, l, e, _⟩
          · walk_at "vc"
            refine vIsNN ?_
            walk_at "vc"
            refine iteT ?_
            walk_at "vc"
            refine ite2 (fun h => by cases h) fun _ => ?_
            walk_at "vc"
            refine .inl ⟨rfl, rfl, ?_⟩
            walk_at "vc"
            refine ite2 (fun h => absurd h (by simp [eqV])) fun _ => ?_
            exact ⟨s7, _, _, _, rfl⟩
          · rw [eo] at e; cases e
        · rcases hrd with ⟨e, _⟩ | ⟨o, l, e, rfl, rfl, hl0, hlr, hl⟩
          · rw [eo] at e; cases e
          · rw [eo] at e
            cases e
            obtain ⟨xs, hxs, hxl⟩ := hl.lst
            have hlen := ot_len eo
            walk_at "vc"
            refine vIsRN ?_
            walk_at "vc"
            refine ite2 (fun h => by cases h) fun _ => ?_
            walk_at "vc"
            refine ite2 (fun h => by cases h) fun _ => ?_
            walk_at "vc"
            refine vIsiU (.inl (.lst hxs)) rfl (kit_tab K "list" (by simp) "list" (by simp)) ?_
            walk_at "vc"
            refine ite2 (fun h => absurd h (by decide)) fun _ => ?_
            walk_at "vc"
            refine .inl (vIxL (s7 _ _ ed) hat ?_)
            refine .inr (.inl ⟨l, dl, true, 2, rfl, rfl, by decide, hl.eqT (hdl.same s7), ?_⟩)
            walk_at "vc"
            refine ite2 (fun h => by cases h) fun _ => ?_
            walk_at "vc"
            refine ⟨.inl ⟨rfl, _, SqL.of hxs⟩, ?_⟩
            walk_at "vc"
            refine ⟨l, xs, _, rfl, rfl, hxs, by rw [hxl]; exact Nat.lt_of_le_of_lt hlen (Nat.lt_of_le_of_lt (Nat.add_le_add_right hz 1) (by decide)), ?_⟩
            exact ⟨Supd s7 (s6.free hl0), _, _, _, rfl⟩
      · obtain ⟨s6, y3, y4, y5, rfl⟩ := hp
        exact ⟨s6, _, _, _, _, rfl⟩
    · obtain ⟨s5, x2, x3, x4, x5, rfl⟩ := hp
      walk_at "vc"
      exact q _ (s4.trans s5)
end
open PySem L2 PyProof.Rows
/- _law_spoilt: calls []; cells [] -/
abbrev s_l_spoilt : Stmt := top 29
theorem sc_l_spoilt : FnScope ["_law_text", "_law_way", "_law_place", "_law_pick", "_law_at", "_law_words"] ["_law_text", "_law_way", "_law_place", "_law_pick"] (defScope s_l_spoilt) := ⟨rfl, rfl, rfl, by decide +kernel, rfl, by decide +kernel, by decide +kernel⟩
theorem len_list (x : Str) : x.length = x.cps.toList.length := by simp [Str.length]
theorem jl_len (c : Nat) : ∀ ls : List (List Nat), ls ≠ [] → (jl [c] ls).length + 1 = (ls.map List.length).sum + ls.length
  | [], h => absurd rfl h
  | [a], _ => by simp [jl]
  | a :: b :: r, _ => by
    have ih := jl_len c (b :: r) (by simp)
    show (a ++ [c] ++ jl [c] (b :: r)).length + 1 = _
    rw [List.length_append, List.length_append, List.map_cons, List.sum_cons, List.length_cons]
    simp only [List.length_cons, List.length_nil] at ih ⊢
    omega
theorem split_sum (z : Str) (c : Nat) : ((Txt.split z ⟨#[c]⟩).map (·.length)).sum ≤ z.length := by
  have hj := StrLaws.join_split z ⟨#[c]⟩
  have h2 := join_jl ⟨#[c]⟩ (Txt.split z ⟨#[c]⟩)
  rw [hj] at h2
  have h3 := jl_len c ((Txt.split z ⟨#[c]⟩).map (·.cps.toList)) (by simpa using split_ne z c)
  have h2 : z.cps.toList = jl [c] ((Txt.split z ⟨#[c]⟩).map (·.cps.toList)) := h2
  rw [← h2, ← len_list] at h3
  have e : ((Txt.split z ⟨#[c]⟩).map (·.cps.toList)).map List.length = (Txt.split z ⟨#[c]⟩).map (·.length) := by
    rw [List.map_map]
    refine List.map_congr_left fun x _ => (len_list x).symm
  rw [e, List.length_map] at h3
  have : 0 < (Txt.split z ⟨#[c]⟩).length := List.length_pos_iff.mpr (split_ne z c)
  omega
theorem join_print {ws : List Str} (h : ∀ w ∈ ws, PrintS w) : PrintS (Txt.join " " ws) := fun c hc => by
  rw [join_eq, sp_eq, join_jl] at hc
  rcases mem_jl (c := 32) hc with e | ⟨l, hl, hx⟩
  · exact .inl ⟨by omega, by omega⟩
  · obtain ⟨w, hw, rfl⟩ := List.mem_map.mp hl
    exact h w hw c hx
theorem split_print {z : Str} (h : PrintS z) : ∀ p ∈ Txt.split z " ", PrintS p := fun p hp c hc => by
  rw [sp_eq] at hp
  exact h c ((split_mem z 32 c).2 p hp hc).1
theorem app_print {a b : Str} (ha : PrintS a) (hb : PrintS b) : PrintS (a ++ b) := fun c hc => by
  rw [app_list] at hc
  rcases List.mem_append.mp hc with z | z
  · exact ha c z
  · exact hb c z
theorem app_len (a b : Str) : (a ++ b).length = a.length + b.length := by
  rw [len_list, app_list, List.length_append, ← len_list, ← len_list]
theorem take_print {z : Str} (h : PrintS z) (k : Nat) : PrintS (Txt.slice z none (some (k : Int))) := fun c hc => by
  rw [slice_take] at hc
  exact h c (List.mem_of_mem_take hc)
theorem drop_print {z : Str} (h : PrintS z) (k : Nat) : PrintS (Txt.slice z (some (k : Int)) none) := fun c hc => by
  rw [slice_drop] at hc
  exact h c (List.mem_of_mem_drop hc)
theorem fold_app : ∀ (ls : List (Array Nat)) (i : Array Nat), (ls.foldl (· ++ ·) i).toList = i.toList ++ (ls.map Array.toList).flatten
  | [], i => by simp
  | a :: r, i => by
    rw [List.foldl_cons, fold_app r (i ++ a), Array.toList_append, List.map_cons, List.flatten_cons, List.append_assoc]
theorem mul_list {x : Str} {n : Int} (h : 1 ≤ n) : (Txt.mul x n).cps.toList = (List.replicate n.toNat x.cps.toList).flatten := by
  unfold Txt.mul
  rw [if_neg (by omega)]
  split
  · rename_i hc
    rw [Bool.or_eq_true] at hc
    rcases hc with hc | hc
    · have : n = 1 := by simpa using hc
      subst this
      simp
    · have hl : x.length = 0 := by simpa using hc
      have : x.cps.toList = [] := List.length_eq_zero_iff.mp (by rw [← len_list]; exact hl)
      rw [this]
      simp
  · show ((List.replicate n.toNat x.cps).foldl (· ++ ·) #[]).toList = _
    rw [fold_app, List.map_replicate]
    rfl
theorem mul_len {x : Str} {n : Int} (h : 1 ≤ n) : (Txt.mul x n).length = n.toNat * x.length := by
  rw [len_list, mul_list h, List.length_flatten, List.map_replicate, List.sum_replicate_nat, ← len_list]
theorem mul_print {x : Str} {n : Int} (h : 1 ≤ n) (hx : PrintS x) : PrintS (Txt.mul x n) := fun c hc => by
  rw [mul_list h] at hc
  obtain ⟨l, hl, hcl⟩ := List.mem_flatten.mp hc
  rw [(List.mem_replicate.mp hl).2] at hcl
  exact hx c hcl
theorem mul_ok {x : Str} {n : Int} (h : 1 ≤ n) (h2 : n ≤ 1000) (hx : x.length ≤ 1000) : MulOk x n := by
  refine ⟨?_, fun _ _ => ?_, fun _ _ => ?_⟩
  · rw [decide_eq_false (by omega), decide_eq_false (by omega)]
    rfl
  · have : (1000 : Int) ≤ (2 ^ 63 - 1) / n := (Int.le_ediv_iff_mul_le (by omega)).mpr (by omega)
    omega
  · unfold Builtin.Str.tooLong
    have h3 : x.length * n.toNat ≤ 1000 * 1000 := Nat.mul_le_mul hx (by omega)
    exact decide_eq_false fun e => absurd (Nat.lt_of_lt_of_le e h3) (by decide)
def addS : List Str := [" ", "-", "A", "7", "\n", "_", "x", ">", "--", "  ", "abcdefg", "|"]
theorem addS_ok : ∀ y ∈ addS, y.length ≤ 7 ∧ PrintS y := by
  have h : ∀ y ∈ addS, y.length ≤ 7 ∧ ∀ c ∈ y.cps.toList, (32 ≤ c ∧ c ≤ 126) ∨ c = 10 := by decide +kernel
  exact h
def spSpl : Sp := fun vs H Q _ => ∃ (z : Str) (way place pick : Int), vs = [.str z, .int way, .int place, .int pick] ∧ z.length ≤ 200 ∧ PrintS z ∧ 0 ≤ way ∧ 0 ≤ place ∧ 0 ≤ pick ∧ ∀ (z' : Str) (H' : Hp), L2.Same H H' → z'.length ≤ 1000 → PrintS z' → Q (.str z') H'
section
variable {P : Program} {w : World} {K : W.Frag} {mg : Str → Option Value} {base : Heap} {cc : Nat → Addr} {cw : Addr}
theorem ok_spl {f : Addr} {fd : FuncData} (F : Fun K "_law_spoilt" "_law_spoilt" s_l_spoilt f fd) (T : Txt K mg cc cw) : FnOk P w K mg base CX0 1 f fd ["_law_text", "_law_way", "_law_place", "_law_pick"] spSpl := by
  refine F.ok sc_l_spoilt (fun vs H Q E h => ?_) fun cdv A outer s H vs Q E hr h => ?_
  · obtain ⟨z, way, place, pick, rfl, _⟩ := h; rfl
  · obtain ⟨z, way, place, pick, rfl, hz, hp, w0, p0, k0, q⟩ := h
    have hu := u100 hr
    have zL : z.length ≤ sizeLine := Nat.le_trans hz (by decide)
    refine ⟨_, (pss_cons (ps_set (i := 4) sc_l_spoilt.nd rfl (Or.inl rfl) (pe_op op_mod (pv 2) (pe_op (k_add (K := K) rfl) (pe_callB (k_len (K := K) rfl) rfl T.b_len boot_len (pa_cons (pv 0) pa_nil)) pe_int)))
  (pss_cons (ps_set (i := 5) sc_l_spoilt.nd rfl (Or.inl rfl) (k_bm (K := K) rfl PySem.F.plainAttrs_str PySem.F.slot_str_split PySem.F.type_str_split mt_split (pv 0) (pa_cons pe_str pa_nil)))
  (pss_cons (ps_if (pt_cmpR op_lt (pv 1) pe_int (nomark _)) (pss_one (ps_ret (pe_op (k_add (K := K) rfl) (pe_op (k_add (K := K) rfl) (pe_slice (k_sl (K := K) rfl) (pv 0) po_none (po_some (pv 4))) (pe_ix (k_ixU (K := K) rfl hu) (pe_lst (pa_cons pe_str (pa_cons pe_str (pa_cons pe_str (pa_cons pe_str (pa_cons pe_str (pa_cons pe_str (pa_cons pe_str (pa_cons pe_str (pa_cons pe_str (pa_cons pe_str (pa_cons pe_str (pa_cons pe_str pa_nil))))))))))))) (pe_op op_mod (pv 3) pe_int) (fun _ _ => rfl))) (pe_slice (k_sl (K := K) rfl) (pv 0) (po_some (pv 4)) po_none)))) pss_nil)
  (pss_cons (ps_if (pt_cmpR (k_eqZ (K := K) rfl hu) (pv 1) pe_int (nomark _)) (pss_one (ps_ret (k_bm (K := K) rfl PySem.F.plainAttrs_str PySem.F.slot_str_join PySem.F.type_str_join (k_joinU (K := K) rfl) pe_str (pa_cons (pe_op (k_add (K := K) rfl) (pe_slice (k_sl (K := K) rfl) (pv 5) po_none (po_some pe_int)) (pv 5)) pa_nil)))) pss_nil)
  (pss_cons (ps_if (pt_cmpR (k_eqZ (K := K) rfl hu) (pv 1) pe_int (nomark _)) (pss_one (ps_ret (k_bm (K := K) rfl PySem.F.plainAttrs_str PySem.F.slot_str_join PySem.F.type_str_join (k_joinU (K := K) rfl) pe_str (pa_cons (pe_slice (k_sl (K := K) rfl) (pv 5) (po_some pe_int) po_none) pa_nil)))) pss_nil)
  (pss_cons (ps_if (pt_cmpR (k_eqZ (K := K) rfl hu) (pv 1) pe_int (nomark _)) (pss_one (ps_ret (pe_op u_mul (pe_slice (k_sl (K := K) rfl) (pv 0) po_none (po_some pe_int)) (pe_op (k_add (K := K) rfl) pe_int (pe_op op_mod (pv 3) pe_int))))) pss_nil)
  (pss_cons (ps_if (pt_cmpR (k_eqZ (K := K) rfl hu) (pv 1) pe_int (nomark _)) (pss_one (ps_ret (pe_op (k_add (K := K) rfl) (pe_op u_mul pe_str (pe_op (k_add (K := K) rfl) pe_int (pe_op op_mod (pv 3) pe_int))) (pe_op u_mul pe_str (pe_op (k_add (K := K) rfl) pe_int (pe_op op_mod (pv 3) pe_int)))))) pss_nil)
  (pss_one (ps_ret (pv 0)))))))))), ?_⟩
    walk_at "vc"
    refine vLenS zL ?_
    walk_at "vc"
    refine vI (show (0 : Int) < (z.length : Int) + 1 by omega) ?_
    have a1 := Int.emod_nonneg place (show (z.length : Int) + 1 ≠ 0 by omega)
    have a2 := Int.emod_lt_of_pos place (show (0 : Int) < (z.length : Int) + 1 by omega)
    generalize place % ((z.length : Int) + 1) = at_ at a1 a2
    obtain ⟨atn, rfl⟩ := Int.eq_ofNat_of_zero_le a1
    walk_at "vc"
    refine ⟨rfl, ?_⟩
    walk_at "vc"
    refine ⟨z, " ", rfl, rfl, by decide +kernel, Nat.le_trans (show z.length + 2 ≤ 1002 by omega) (by decide), fun l hl0 => ?_⟩
    have s1 := Snew (L2.Same.refl H) (o := .lst ((Txt.split z " ").map V.str)) hl0
    have el : upd H l (.lst ((Txt.split z " ").map V.str)) l = some (.lst ((Txt.split z " ").map V.str)) := upd_same
    generalize upd H l (.lst ((Txt.split z " ").map V.str)) = H1 at s1 el ⊢
    have sl := split_len z 32
    have ss := split_sum z 32
    have spp := split_print hp
    rw [← sp_eq] at sl ss
    generalize Txt.split z " " = ws at *
    have h1s : (" " : Str).length = 1 := by decide +kernel
    have jl1 : ∀ xs : List Str, (Txt.join " " xs).length ≤ (xs.map (·.length)).sum + xs.length := fun xs => by
      have := join_len_le " " xs
      rw [h1s, Nat.mul_one] at this
      exact this
    walk_at "vc"
    refine ite2 (fun h => ?_) fun h => ?_
    · walk_at "vc"
      refine vSlS zL ?_
      walk_at "vc"
      refine ⟨by show 12 ≤ sizeLine; decide, fun m hm => ?_⟩
      have eL : [V.str (Str.ofString " "), V.str (Str.ofString "-"), V.str (Str.ofString "A"), V.str (Str.ofString "7"), V.str (Str.ofString "\n"), V.str (Str.ofString "_"), V.str (Str.ofString "x"), V.str (Str.ofString ">"), V.str (Str.ofString "--"), V.str (Str.ofString "  "), V.str (Str.ofString "abcdefg"), V.str (Str.ofString "|")] = addS.map V.str := rfl
      rw [eL]
      have s2 := Snew s1 (o := .lst (addS.map V.str)) hm
      have em : upd H1 m (.lst (addS.map V.str)) m = some (.lst (addS.map V.str)) := upd_same
      generalize upd H1 m (.lst (addS.map V.str)) = H2 at s2 em ⊢
      clear eL
      walk_at "vc"
      refine vI (by decide) ?_
      have c1 := Int.emod_nonneg pick (show (12 : Int) ≠ 0 by decide)
      have c2 := Int.emod_lt_of_pos pick (show (0 : Int) < 12 by decide)
      obtain ⟨y, iy, hy⟩ := atI_lt (xs := addS.map V.str) c1 (by rw [List.length_map]; exact c2)
      obtain ⟨ya, hya, rfl⟩ := List.mem_map.mp (List.mem_of_getElem? hy)
      obtain ⟨yl, yp⟩ := addS_ok ya hya
      refine .inl (vIxL em iy ?_)
      have l1 := slice_len z none (some (atn : Int))
      have l2 := slice_len z (some (atn : Int)) none
      refine vAddS (Nat.le_trans (show _ ≤ 1000 by omega) (by decide)) ?_
      walk_at "vc"
      refine vSlS zL ?_
      have l3 := app_len (Txt.slice z none (some (atn : Int))) ya
      refine vAddS (Nat.le_trans (show _ ≤ 1000 by omega) (by decide)) ?_
      have l4 := app_len (Txt.slice z none (some (atn : Int)) ++ ya) (Txt.slice z (some (atn : Int)) none)
      exact q _ H2 s2 (by omega) (app_print (app_print (take_print hp atn) yp) (drop_print hp atn))
    walk_at "vc"
    refine .inl (.inl (.inl ⟨rfl, rfl, ?_⟩))
    walk_at "vc"
    refine ite2 (fun h => ?_) fun h => ?_
    · have ec1 : cutV (ws.map V.str) none (some 1) = (ws.take 1).map V.str := by
        have := cutV_take (ws.map V.str) 1
        rw [← List.map_take] at this
        exact this
      walk_at "vc"
      refine ⟨rfl, ?_⟩
      walk_at "vc"
      refine .inl ⟨l, _, rfl, SqL.of el, fun c hc => ?_⟩
      rw [ec1]
      have s2 := Snew s1 (o := .lst ((ws.take 1).map V.str)) hc
      have s12 := Snew (L2.Same.refl H1) (o := .lst ((ws.take 1).map V.str)) hc
      have ec : upd H1 c (.lst ((ws.take 1).map V.str)) c = some (.lst ((ws.take 1).map V.str)) := upd_same
      replace el := s12 _ _ el
      generalize upd H1 c (.lst ((ws.take 1).map V.str)) = H2 at s2 ec el ⊢
      walk_at "vc"
      have htl : (ws.take 1).length ≤ 1 := by rw [List.length_take]; omega
      refine .inl ⟨c, l, _, _, rfl, rfl, ec, el, Nat.le_trans (show _ ≤ 1000 by rw [List.length_map, List.length_map]; omega) (by decide), fun e he => ?_⟩
      have s3 := Snew s2 (o := .lst ((ws.take 1).map V.str ++ ws.map V.str)) he
      have ee : upd H2 e (.lst ((ws.take 1).map V.str ++ ws.map V.str)) e = some (.lst ((ws.take 1 ++ ws).map V.str)) := by rw [upd_same, List.map_append]
      generalize upd H2 e (.lst ((ws.take 1).map V.str ++ ws.map V.str)) = H3 at s3 ee ⊢
      have hsum1 : ((ws.take 1).map (·.length)).sum ≤ 200 := by
        have := sum_le (fun x : Str => x.length) 200 (ws.take 1) fun x hx => Nat.le_trans (sl.1 x (List.mem_of_mem_take hx)) hz
        omega
      have hsum : ((ws.take 1 ++ ws).map (·.length)).sum ≤ 400 := by
        rw [List.map_append, List.sum_append]
        omega
      have hlen : (ws.take 1 ++ ws).length ≤ 202 := by rw [List.length_append]; omega
      walk_at "vc"
      refine ⟨" ", e, _, rfl, rfl, .inl (SqL.of ee), by rw [h1s]; omega, ?_⟩
      have := jl1 (ws.take 1 ++ ws)
      exact q _ H3 s3 (by omega) (join_print fun x hx => (List.mem_append.mp hx).elim (fun z => spp x (List.mem_of_mem_take z)) (spp x))
    walk_at "vc"
    refine .inl (.inl (.inl ⟨rfl, rfl, ?_⟩))
    walk_at "vc"
    refine ite2 (fun h => ?_) fun h => ?_
    · have ec2 : cutV (ws.map V.str) (some 1) none = (ws.drop 1).map V.str := by
        have := cutV_drop (ws.map V.str) 1
        rw [← List.map_drop] at this
        exact this
      walk_at "vc"
      refine ⟨rfl, ?_⟩
      walk_at "vc"
      refine .inl ⟨l, _, rfl, SqL.of el, fun c hc => ?_⟩
      rw [ec2]
      have s2 := Snew s1 (o := .lst ((ws.drop 1).map V.str)) hc
      have ec : upd H1 c (.lst ((ws.drop 1).map V.str)) c = some (.lst ((ws.drop 1).map V.str)) := upd_same
      generalize upd H1 c (.lst ((ws.drop 1).map V.str)) = H2 at s2 ec ⊢
      have hsum : ((ws.drop 1).map (·.length)).sum ≤ 200 := by
        have e : (ws.map (·.length)).sum = ((ws.take 1).map (·.length)).sum + ((ws.drop 1).map (·.length)).sum := by
          rw [← List.sum_append, ← List.map_append, List.take_append_drop]
        omega
      have hlen : (ws.drop 1).length ≤ 202 := by rw [List.length_drop]; omega
      walk_at "vc"
      refine ⟨" ", c, _, rfl, rfl, .inl (SqL.of ec), by rw [h1s]; omega, ?_⟩
      have := jl1 (ws.drop 1)
      exact q _ H2 s2 (by omega) (join_print fun x hx => spp x (List.mem_of_mem_drop hx))
    walk_at "vc"
    refine .inl (.inl (.inl ⟨rfl, rfl, ?_⟩))
    walk_at "vc"
    refine ite2 (fun h => ?_) fun h => ?_
    · walk_at "vc"
      refine vSlS zL ?_
      walk_at "vc"
      refine vI (by decide) ?_
      walk_at "vc"
      have c1 := Int.emod_nonneg pick (show (5 : Int) ≠ 0 by decide)
      have c2 := Int.emod_lt_of_pos pick (show (0 : Int) < 5 by decide)
      have l1 : (Txt.slice z none (some (1 : Int))).length ≤ 1 := by
        have := slice_take z 1
        rw [len_list]
        have e : ((1 : Nat) : Int) = 1 := rfl
        rw [e] at this
        rw [this, List.length_take]
        omega
      refine ⟨mul_ok (by omega) (by omega) (by omega), ?_⟩
      have l2 := mul_len (x := Txt.slice z none (some (1 : Int))) (n := 398 + pick % 5) (by omega)
      have l3 : (398 + pick % 5).toNat * (Txt.slice z none (some (1 : Int))).length ≤ 402 * 1 := Nat.mul_le_mul (by omega) l1
      exact q _ H1 s1 (by omega) (mul_print (by omega) (take_print hp 1))
    walk_at "vc"
    refine .inl (.inl (.inl ⟨rfl, rfl, ?_⟩))
    walk_at "vc"
    refine ite2 (fun h => ?_) fun h => ?_
    · have pa : PrintS "a " := by
        have h : ∀ c ∈ ("a " : Str).cps.toList, (32 ≤ c ∧ c ≤ 126) ∨ c = 10 := by decide +kernel
        exact h
      have pb : PrintS "b" := by
        have h : ∀ c ∈ ("b" : Str).cps.toList, (32 ≤ c ∧ c ≤ 126) ∨ c = 10 := by decide +kernel
        exact h
      have la : ("a " : Str).length = 2 := by decide +kernel
      have lb : ("b" : Str).length = 1 := by decide +kernel
      have c1 := Int.emod_nonneg pick (show (4 : Int) ≠ 0 by decide)
      have c2 := Int.emod_lt_of_pos pick (show (0 : Int) < 4 by decide)
      have c3 := Int.emod_nonneg pick (show (3 : Int) ≠ 0 by decide)
      have c4 := Int.emod_lt_of_pos pick (show (0 : Int) < 3 by decide)
      walk_at "vc"
      refine vI (by decide) ?_
      walk_at "vc"
      refine ⟨mul_ok (by omega) (by omega) (by omega), ?_⟩
      walk_at "vc"
      refine vI (by decide) ?_
      walk_at "vc"
      refine ⟨mul_ok (by omega) (by omega) (by omega), ?_⟩
      have l1 := mul_len (x := "a ") (n := 198 + pick % 4) (by omega)
      have l2 := mul_len (x := "b") (n := 1 + pick % 3) (by omega)
      rw [la] at l1
      rw [lb] at l2
      refine vAddS (Nat.le_trans (show _ ≤ 1000 by omega) (by decide)) ?_
      have l3 := app_len (Txt.mul "a " (198 + pick % 4)) (Txt.mul "b" (1 + pick % 3))
      exact q _ H1 s1 (by omega) (app_print (mul_print (by omega) pa) (mul_print (by omega) pb))
    walk_at "vc"
    exact q z H1 s1 (by omega) hp
end
open PySem L2 PyProof.Rows
theorem jl_more (c l : List Nat) : ∀ ws : List (List Nat), ws ≠ [] → jl c (ws ++ [l]) = jl c ws ++ c ++ l
  | [], h => absurd rfl h
  | [a], _ => rfl
  | a :: b :: r, _ => by
    have ih := jl_more c l (b :: r) (by simp)
    show a ++ c ++ jl c ((b :: r) ++ [l]) = a ++ c ++ jl c (b :: r) ++ c ++ l
    rw [ih]
    simp [List.append_assoc]
theorem join_more {d : Str} {ws : List Str} (h : ws ≠ []) (x : Str) : Txt.join d (ws ++ [x]) = Txt.join d ws ++ d ++ x := by
  refine str_ext ?_
  rw [join_eq, join_eq, join_jl, app_list, app_list, join_jl, List.map_append]
  exact jl_more _ _ _ (by simpa using h)
theorem join_one (d x : Str) : Txt.join d [x] = x := by
  refine str_ext ?_
  rw [join_eq, join_jl]
  rfl
theorem join_two (d a b : Str) : Txt.join d [a, b] = a ++ d ++ b := by
  have := join_more (d := d) (ws := [a]) (by simp) b
  rw [join_one] at this
  exact this
theorem name_chars {s : Str} (h : nameS s = true) : ∀ c ∈ s.cps.toList, 97 ≤ c ∧ c ≤ 122 := fun c hc => by
  unfold nameS at h
  split at h
  · have e := List.all_eq_true.mp h c hc
    unfold sg at e
    split at e
    · rename_i h1
      have e1 : ("a" : Str).cps.toList = [97] := by decide +kernel
      have e2 : ("z" : Str).cps.toList = [122] := by decide +kernel
      rw [e1] at h1
      rw [e2] at e
      simp only [Bool.not_eq_true', decide_eq_false_iff_not] at h1 e
      exact ⟨Nat.le_of_not_lt fun z => h1 (List.Lex.rel z), Nat.le_of_not_lt fun z => e (List.Lex.rel z)⟩
    · cases e
  · cases h
theorem name_print {s : Str} (h : nameS s = true) : PrintS s := fun c hc => .inl (by have := name_chars h c hc; omega)
theorem name_pos {s : Str} (h : nameS s = true) : 1 ≤ s.length ∧ s.length ≤ 6 := by
  unfold nameS at h
  split at h
  · rename_i z; exact z
  · cases h
def NmsOk (ws : List Str) : Prop := ws.length ≤ 6 ∧ ∀ s ∈ ws, nameS s = true
def namesT (ws : List Str) : Str := if ws = [] then "-" else Txt.join " " ws
def tiesT (tps : List (Str × Str)) : Str := if tps = [] then "-" else Txt.join " " (tps.map fun ab => Txt.join "-" [ab.1, ab.2])
theorem join_no {ws : List Str} (h : ws ≠ []) (hw : ∀ w ∈ ws, ∃ c r, w.cps.toList = c :: r ∧ 97 ≤ c) : ¬ Txt.join " " ws = "-" := fun e => by
  cases ws with
  | nil => exact h rfl
  | cons a r =>
    obtain ⟨c, t, ea, hc⟩ := hw a List.mem_cons_self
    have e := congrArg (fun s : Str => s.cps.toList) e
    rw [join_eq, join_jl, da_eq] at e
    cases r with
    | nil =>
      have e : a.cps.toList = [45] := e
      rw [ea] at e
      have := (List.cons.inj e).1
      omega
    | cons b r' =>
      have e : a.cps.toList ++ (" " : Str).cps.toList ++ jl (" " : Str).cps.toList ((b :: r').map (·.cps.toList)) = [45] := e
      rw [ea] at e
      have := (List.cons.inj e).1
      omega
theorem name_head {s : Str} (h : nameS s = true) : ∃ c r, s.cps.toList = c :: r ∧ 97 ≤ c := by
  have h1 := (name_pos h).1
  cases e : s.cps.toList with
  | nil => rw [len_list, e] at h1; exact absurd h1 (by decide)
  | cons c r => exact ⟨c, r, rfl, (name_chars h c (by rw [e]; exact List.mem_cons_self)).1⟩
theorem rdN_names {ws : List Str} (h : NmsOk ws) : rdN (namesT ws) = some ws := by
  have e : wdsN (namesT ws) = ws := by
    unfold wdsN namesT
    by_cases hw : ws = []
    · rw [if_pos hw, if_pos rfl, hw]
    · rw [if_neg hw, if_neg (join_no hw fun w hw' => name_head (h.2 w hw')), sp_eq]
      exact split_of hw fun l hl hc => by have := name_chars (h.2 l hl) 32 hc; omega
  unfold rdN
  rw [e, if_pos (List.all_eq_true.mpr h.2)]
def TisOk (tps : List (Str × Str)) : Prop := tps.length ≤ 6 ∧ ∀ ab ∈ tps, nameS ab.1 = true ∧ nameS ab.2 = true
theorem tie_text {a b : Str} (ha : nameS a = true) (hb : nameS b = true) : Txt.split (Txt.join "-" [a, b]) "-" = [a, b] ∧ (∃ c r, (Txt.join "-" [a, b]).cps.toList = c :: r ∧ 97 ≤ c) ∧ 32 ∉ (Txt.join "-" [a, b]).cps.toList ∧ (Txt.join "-" [a, b]).length ≤ 13 ∧ PrintS (Txt.join "-" [a, b]) := by
  have e2 := join_two "-" a b
  have el : (Txt.join "-" [a, b]).cps.toList = a.cps.toList ++ [45] ++ b.cps.toList := by rw [e2, app_list, app_list, da_eq]
  refine ⟨?_, ?_, ?_, ?_, ?_⟩
  · rw [da_eq]
    refine split_of (by simp) fun l hl hc => ?_
    simp only [List.mem_cons, List.not_mem_nil, or_false] at hl
    rcases hl with rfl | rfl
    · have := name_chars ha 45 hc; omega
    · have := name_chars hb 45 hc; omega
  · obtain ⟨c, r, e, h⟩ := name_head ha
    exact ⟨c, r ++ [45] ++ b.cps.toList, by rw [el, e]; rfl, h⟩
  · rw [el]
    intro hc
    rcases List.mem_append.mp hc with z | z
    · rcases List.mem_append.mp z with z | z
      · have := name_chars ha 32 z; omega
      · have := List.mem_singleton.mp z; omega
    · have := name_chars hb 32 z; omega
  · rw [len_list, el, List.length_append, List.length_append, ← len_list, ← len_list]
    have := (name_pos ha).2
    have := (name_pos hb).2
    simp
    omega
  · intro c hc
    rw [el] at hc
    rcases List.mem_append.mp hc with z | z
    · rcases List.mem_append.mp z with z | z
      · exact name_print ha c z
      · have := List.mem_singleton.mp z; exact .inl (by omega)
    · exact name_print hb c z
theorem rdTi_ties {tps : List (Str × Str)} (h : TisOk tps) : rdTi (tiesT tps) = some (tps.map fun ab => [ab.1, ab.2]) := by
  have e : wdsN (tiesT tps) = tps.map fun ab => Txt.join "-" [ab.1, ab.2] := by
    unfold wdsN tiesT
    by_cases hw : tps = []
    · rw [if_pos hw, if_pos rfl, hw]; rfl
    · have hne : (tps.map fun ab => Txt.join "-" [ab.1, ab.2]) ≠ [] := by simpa using hw
      rw [if_neg hw, if_neg (join_no hne fun w hw' => ?_), sp_eq]
      · refine split_of hne fun l hl hc => ?_
        obtain ⟨ab, hab, rfl⟩ := List.mem_map.mp hl
        exact (tie_text (h.2 ab hab).1 (h.2 ab hab).2).2.2.1 hc
      · obtain ⟨ab, hab, rfl⟩ := List.mem_map.mp hw'
        exact (tie_text (h.2 ab hab).1 (h.2 ab hab).2).2.1
  have e2 : ((wdsN (tiesT tps)).map fun w => Txt.split w "-") = tps.map fun ab => [ab.1, ab.2] := by
    rw [e, List.map_map]
    refine List.map_congr_left fun ab hab => ?_
    exact (tie_text (h.2 ab hab).1 (h.2 ab hab).2).1
  unfold rdTi
  rw [e2, if_pos]
  rw [List.all_map]
  refine List.all_eq_true.mpr fun ab hab => ?_
  show (nameS ab.1 && nameS ab.2) = true
  rw [(h.2 ab hab).1, (h.2 ab hab).2]
  rfl
theorem join_short {ws : List Str} {b : Nat} (h : ∀ w ∈ ws, w.length ≤ b) (hl : ws.length ≤ 6) : (Txt.join " " ws).length ≤ 6 * b + 6 := by
  have h1s : (" " : Str).length = 1 := by decide +kernel
  have := join_len_le " " ws
  rw [h1s, Nat.mul_one] at this
  have h2 := sum_le (fun x : Str => x.length) b ws h
  have h3 : ws.length * b ≤ 6 * b := Nat.mul_le_mul_right b hl
  omega
theorem namesT_ok {ws : List Str} (h : NmsOk ws) : (namesT ws).length ≤ 100 ∧ PrintS (namesT ws) := by
  unfold namesT
  split
  · have p : ("-" : Str).length ≤ 100 ∧ ∀ c ∈ ("-" : Str).cps.toList, (32 ≤ c ∧ c ≤ 126) ∨ c = 10 := by decide +kernel
    exact p
  · exact ⟨by have := join_short (fun w hw => (name_pos (h.2 w hw)).2) h.1; omega, join_print fun w hw => name_print (h.2 w hw)⟩
theorem tiesT_ok {tps : List (Str × Str)} (h : TisOk tps) : (tiesT tps).length ≤ 100 ∧ PrintS (tiesT tps) := by
  unfold tiesT
  split
  · have p : ("-" : Str).length ≤ 100 ∧ ∀ c ∈ ("-" : Str).cps.toList, (32 ≤ c ∧ c ≤ 126) ∨ c = 10 := by decide +kernel
    exact p
  · refine ⟨?_, join_print fun w hw => ?_⟩
    · have := join_short (ws := tps.map fun ab => Txt.join "-" [ab.1, ab.2]) (b := 13) (fun w hw => by
        obtain ⟨ab, hab, rfl⟩ := List.mem_map.mp hw
        exact (tie_text (h.2 ab hab).1 (h.2 ab hab).2).2.2.2.1) (by rw [List.length_map]; exact h.1)
      omega
    · obtain ⟨ab, hab, rfl⟩ := List.mem_map.mp hw
      exact (tie_text (h.2 ab hab).1 (h.2 ab hab).2).2.2.2.2
def PrsAt (H : Hp) (ts : List Addr) (tps : List (Str × Str)) : Prop := ts.length = tps.length ∧ ∀ (i : Nat) t ab, ts[i]? = some t → tps[i]? = some ab → H t = some (.tup [.str ab.1, .str ab.2])
def spWR : Sp := fun vs H Q _ => ∃ (n tl : Addr) (ws : List Str) (ts : List Addr) (tps : List (Str × Str)), vs = [.ref n, .ref tl] ∧ H n = some (.lst (ws.map V.str)) ∧ NmsOk ws ∧ H tl = some (.lst (ts.map V.ref)) ∧ PrsAt H ts tps ∧ TisOk tps ∧ ∀ H', L2.Same H H' → Q (.bl true) H'
open PySem L2 PyProof.Rows
/- _law_written_right: calls ['ties_text', 'names_text', '_law_read']; cells [] -/
abbrev s_l_written_right : Stmt := top 30
theorem sc_l_written_right : FnScope ["_law_names_here", "_law_ties", "_law_text", "_law_name", "_law_other", "_law_k", "_law_tie", "_law_handed"] ["_law_names_here", "_law_ties"] (defScope s_l_written_right) := ⟨rfl, rfl, rfl, by decide +kernel, rfl, by decide +kernel, by decide +kernel⟩
theorem PrsAt.same {H H' : Hp} {ts : List Addr} {tps : List (Str × Str)} (h : PrsAt H ts tps) (s : L2.Same H H') : PrsAt H' ts tps := ⟨h.1, fun i t ab a b => s _ _ (h.2 i t ab a b)⟩
theorem PrsAt.told {H : Hp} {l : Addr} {ts : List Addr} {tps : List (Str × Str)} (h : PrsAt H ts tps) (hl : H l = some (.lst (ts.map V.ref))) : ToldL H l (.ts (tps.map fun ab => [ab.1, ab.2])) := by
  refine ⟨ts, hl, by rw [List.length_map, h.1], fun i u w hu hw => ?_⟩
  rw [List.getElem?_map] at hw
  cases e : tps[i]? with
  | none => rw [e] at hw; cases hw
  | some ab =>
    rw [e] at hw
    cases hw
    have ht := h.2 i u ab hu e
    exact ⟨(fun z => by rw [z, hl] at ht; cases ht), ht⟩
theorem two_eqT {K : W.Frag} {H : Hp} {r q : Addr} {b : Bool} {x y : V} {n : Nat} (h : H r = some (.lst [.bl b, x])) (g : H q = some (.lst [.bl b, y])) (e : EqD K H n x y true) : EqT K H (n + 1) r q true := by
  have z := EqT.lst (K := K) (H := H) (n := n) (e := fun _ => true) (SqL.of h) (SqL.of g) rfl fun j x y h1 h2 => by
    match j, h1, h2 with
    | 0, h1, h2 =>
      cases h1
      cases h2
      have e := EqD.flat (K := K) (H := H) (n := n) (x := .bl b) (y := .bl b) rfl rfl
      have e2 : eqV (.bl b) (.bl b) = true := by cases b <;> rfl
      rw [e2] at e
      exact e
    | 1, h1, h2 => cases h1; cases h2; exact e
  rw [allT] at z
  exact z
theorem eqD_told {K : W.Frag} {H : Hp} {l r : Addr} {o : Ot} (h : ToldL H l o) (g : ToldL H r o) : EqD K H 2 (.ref l) (.ref r) true := by
  by_cases e : l = r
  · subst e; exact .self
  · exact .deep (h.eqT g) e
theorem app_assoc (a b c : Str) : a ++ b ++ c = a ++ (b ++ c) := str_ext (by rw [app_list, app_list, app_list, app_list, List.append_assoc])
theorem nil_app (a : Str) : "" ++ a = a := str_ext (by rw [app_list]; rfl)
theorem ties_step {tps : List (Str × Str)} {i : Nat} {ab : Str × Str} (h : tps[i]? = some ab) : (if i = 0 then ("" : Str) else tiesT (tps.take i) ++ " ") ++ ab.1 ++ "-" ++ ab.2 = tiesT (tps.take (i + 1)) := by
  have et : tps.take (i + 1) = tps.take i ++ [ab] := by rw [List.take_add_one, h]; rfl
  have e2 := join_two "-" ab.1 ab.2
  have hn1 : ¬ tps.take (i + 1) = [] := by rw [et]; simp
  have er : tiesT (tps.take (i + 1)) = Txt.join " " ((tps.take i).map (fun ab => Txt.join "-" [ab.1, ab.2]) ++ [Txt.join "-" [ab.1, ab.2]]) := by
    unfold tiesT
    rw [if_neg hn1, et, List.map_append]
    rfl
  rw [er]
  by_cases hi : i = 0
  · subst hi
    rw [if_pos rfl, nil_app]
    show _ = Txt.join " " [Txt.join "-" [ab.1, ab.2]]
    rw [join_one, e2]
  · have hl : i < tps.length := (List.getElem?_eq_some_iff.mp h).1
    have hn : ¬ tps.take i = [] := fun e => by
      have := congrArg List.length e
      rw [List.length_take] at this
      simp only [List.length_nil] at this
      omega
    rw [if_neg hi, join_more (by simpa using hn)]
    have ei : tiesT (tps.take i) = Txt.join " " ((tps.take i).map fun ab => Txt.join "-" [ab.1, ab.2]) := by unfold tiesT; rw [if_neg hn]
    rw [ei, e2]
    simp only [app_assoc]
theorem TisOk.take {tps : List (Str × Str)} (h : TisOk tps) (i : Nat) : TisOk (tps.take i) := ⟨by rw [List.length_take]; have := h.1; omega, fun ab hab => h.2 ab (List.mem_of_mem_take hab)⟩
theorem vNeS {K : W.Frag} {x y : Str} {H : Hp} {Q : VK} (h : x = y) (q : Q (.bl false) H) : rEqU K true (.str x) (.str y) H Q := by
  refine .inl ⟨rfl, rfl, ?_⟩
  rw [eqV_strD, decide_eq_true h]
  exact q
theorem vNeR {K : W.Frag} {a b : Addr} {n : Nat} {H : Hp} {Q : VK} (hn : n ≤ 60) (h : EqT K H n a b true) (q : Q (.bl false) H) : rEqU K true (.ref a) (.ref b) H Q := .inr (.inl ⟨a, b, true, n, rfl, rfl, hn, h, q⟩)
theorem vEqR {K : W.Frag} {a b : Addr} {n : Nat} {H : Hp} {Q : VK} (hn : n ≤ 60) (h : EqT K H n a b true) (q : Q (.bl true) H) : rEqZ K (.ref a) (.ref b) H Q := .inl (.inl (.inr (.inl ⟨a, b, true, n, rfl, rfl, hn, h, q⟩)))
section
variable {P : Program} {w : World} {K : W.Frag} {mg : Str → Option Value} {base : Heap} {cc : Nat → Addr} {cw : Addr}
theorem ok_wr {f : Addr} {fd : FuncData} (F : Fun K "_law_written_right" "_law_written_right" s_l_written_right f fd) (T : Txt K mg cc cw) (D_names_text : DefOk P w K mg base CX0 2 "names_text" ["names"] spTN) (D_ties_text : DefOk P w K mg base CX0 2 "ties_text" ["ties"] spTT) (D_l_read : DefOk P w K mg base CX0 6 "_law_read" ["_law_kind", "_law_text"] spRd) : FnOk P w K mg base CX0 7 f fd ["_law_names_here", "_law_ties"] spWR := by
  refine F.ok sc_l_written_right (fun vs H Q E h => ?_) fun cdv A outer s H vs Q E hr h => ?_
  · obtain ⟨n, tl, ws, ts, tps, rfl, _⟩ := h; rfl
  · obtain ⟨n, tl, ws, ts, tps, rfl, hn, hws, htl, hts, htps, q⟩ := h
    have hu := u100 hr
    obtain ⟨TC2, hTC2⟩ : ∃ t : TS, t = fun D σ H' => (∀ u H', Q u H' → D.rt u H') ∧ ∃ x3 x4 x5 x6 x7, σ = [some (.ref n), some (.ref tl), some (.str (namesT ws)), x3, x4, x5, x6, x7] ∧ L2.Same H H' := ⟨_, rfl⟩
    refine ⟨_, (pss_cons (ps_set (i := 2) sc_l_written_right.nd rfl (Or.inl rfl) pe_str)
  (pss_cons (ps_if (pt_cmpR (k_neU (K := K) rfl hu) (pv 0) (pe_lst pa_nil) (nomark _)) (pss_cons (ps_set (i := 2) sc_l_written_right.nd rfl (Or.inl rfl) (pe_ix (k_ixU (K := K) rfl hu) (pv 0) pe_int (fun _ _ => rfl)))
  (pss_one (ps_for PassesOwn.never rfl (ki_any (K := K) rfl (pe_slice (k_sl (K := K) rfl) (pv 0) (po_some pe_int) po_none)) (pg_name (i := 3) sc_l_written_right.nd rfl (Or.inl rfl))
  (pss_one (ps_set (i := 2) sc_l_written_right.nd rfl (Or.inl rfl) (pe_op (k_add (K := K) rfl) (pe_op (k_add (K := K) rfl) (pv 2) pe_str) (pv 3))))))) pss_nil)
  (pss_cut TC2 (pss_cons (ps_set (i := 4) sc_l_written_right.nd rfl (Or.inl rfl) pe_str)
  (pss_cons (ps_for PassesOwn.never rfl (pi_enum (K := K) rfl rfl T.b_enumerate (pa_cons (pv 1) pa_nil)) (pg_tupU rfl (pgs_cons (pg_name (i := 5) sc_l_written_right.nd rfl (Or.inl rfl)) (pgs_cons (pg_name (i := 6) sc_l_written_right.nd rfl (Or.inl rfl)) pgs_nil)))
  (pss_one (ps_set (i := 4) sc_l_written_right.nd rfl (Or.inl rfl) (pe_op (k_add (K := K) rfl) (pe_op (k_add (K := K) rfl) (pe_op (k_add (K := K) rfl) (pe_ix (k_ixU (K := K) rfl hu) (pe_lst (pa_cons (pe_op (k_add (K := K) rfl) (pv 4) pe_str) (pa_cons pe_str pa_nil))) (pe_callTy call_int1 rfl T.b_int boot_int (pa_cons (pe_cmpR (k_eqZ (K := K) rfl hu) (pv 5) pe_int (nomark _)) pa_nil)) (fun _ _ => rfl)) (pe_ix (k_ixU (K := K) rfl hu) (pv 6) pe_int (fun _ _ => rfl))) pe_str) (pe_ix (k_ixU (K := K) rfl hu) (pv 6) pe_int (fun _ _ => rfl))))))
  (pss_cons (ps_set (i := 7) sc_l_written_right.nd rfl (Or.inl rfl) (pe_callTy (k_listU (K := K) rfl rfl) rfl T.b_list boot_list (pa_cons (pv 0) pa_nil)))
  (pss_cons (ps_if (PW.pt (pw_or (pt_cmpR (k_neU (K := K) rfl hu) (pe_def D_names_text (hm hr) pass0 (pa_cons (pv 7) pa_nil)) (pv 2) (nomark _)) (pw_or (pt_cmpR (k_neU (K := K) rfl hu) (pv 7) (pv 0) (nomark _)) (pw_or1 (pt_cmpR (k_neU (K := K) rfl hu) (pe_def D_ties_text (hm hr) pass0 (pa_cons (pe_callTy (k_listU (K := K) rfl rfl) rfl T.b_list boot_list (pa_cons (pv 1) pa_nil)) pa_nil)) (pv 4) (nomark _)))))) (pss_one (ps_ret pe_bl)) pss_nil)
  (pss_one (ps_ret (pe_and (pe_cmpR (k_eqZ (K := K) rfl hu) (pe_def D_l_read (hm hr) pass0 (pa_cons pe_int (pa_cons (pv 2) pa_nil))) (pe_lst (pa_cons pe_bl (pa_cons (pv 0) pa_nil))) (nomark _)) (pe_one (pe_cmpR (k_eqZ (K := K) rfl hu) (pe_def D_l_read (hm hr) pass0 (pa_cons pe_int (pa_cons (pv 4) pa_nil))) (pe_lst (pa_cons pe_bl (pa_cons (pv 1) pa_nil))) (nomark _)))))))))) ?cut2))), ?_⟩
    case cut2 =>
      intro D σ H1 h
      rw [hTC2] at h
      obtain ⟨hD, x3, x4, x5, x6, x7, rfl, s1⟩ := h
      walk_at "vc"
      refine ⟨tl, ts.map V.ref, rfl, SqL.of (s1 _ _ htl), for_enum (K := K) (fun k σ H' => L2.Same H H' ∧ ∃ x5 x6, σ = [some (.ref n), some (.ref tl), some (.str (namesT ws)), x3, some (.str (tiesT (tps.take k))), x5, x6, x7]) ⟨s1, _, _, rfl⟩ (fun k σ H' _ hp => SqL.of (hp.1 _ _ htl)) (fun k y t σ H2 hy ht hp => ?_) fun σ H2 hp => ?_⟩
      · obtain ⟨s2, x5, x6, rfl⟩ := hp
        obtain ⟨u, hu', rfl⟩ : ∃ u, ts[k]? = some u ∧ y = .ref u := by
          rw [List.getElem?_map] at hy
          cases e : ts[k]? with
          | none => rw [e] at hy; cases hy
          | some u => rw [e] at hy; exact ⟨u, rfl, (Option.some.inj hy).symm⟩
        have hk : k < tps.length := by rw [← hts.1]; exact (List.getElem?_eq_some_iff.mp hu').1
        have ha : tps[k]? = some tps[k] := List.getElem?_eq_getElem hk
        have hut := hts.2 k u _ hu' ha
        obtain ⟨na, nb⟩ := htps.2 _ (List.getElem_mem hk)
        have stp := ties_step ha
        generalize tps[k] = ab at ha hut na nb stp
        have s3 := Snew s2 (o := .tup [.int k, .ref u]) ht
        refine ⟨t, _, rfl, .inl (SqT.of upd_same), rfl, _, _, rfl, _, _, rfl, rfl, ?_⟩
        have s3 := Snew s2 (o := .tup [.int k, .ref u]) ht
        generalize upd H2 t (.tup [.int k, .ref u]) = H3 at s3 ⊢
        have lt := (tiesT_ok (htps.take k)).1
        walk_at "vc"
        refine vAddS (Nat.le_trans (show _ ≤ 101 by have : (" " : Str).length = 1 := (by decide +kernel); omega) (by decide)) ?_
        walk_at "vc"
        refine ⟨by show 2 ≤ sizeLine; decide, fun m hm => ?_⟩
        have s4 := Snew s3 (o := .lst [.str (tiesT (tps.take k) ++ " "), .str ""]) hm
        have em : upd H3 m (.lst [.str (tiesT (tps.take k) ++ " "), .str ""]) m = some (.lst [.str (tiesT (tps.take k) ++ " "), .str ""]) := upd_same
        generalize upd H3 m (.lst [.str (tiesT (tps.take k) ++ " "), .str ""]) = H4 at s4 em ⊢
        walk_at "vc"
        refine .inl (.inl (.inl ⟨rfl, rfl, ?_⟩))
        walk_at "vc"
        refine .inr ⟨_, rfl, ?_⟩
        have hix : atI [V.str (tiesT (tps.take k) ++ " "), V.str ""] (if eqV (.int k) (.int 0) = true then 1 else 0) = some (.str (if k = 0 then ("" : Str) else tiesT (tps.take k) ++ " ")) := by
          by_cases h0 : k = 0
          · subst h0; rfl
          · have e : eqV (.int (k : Int)) (.int 0) = false := by
              have : ¬ ((k : Int) = 0) := by omega
              simpa [eqV] using this
            rw [e, if_neg h0]
            rfl
        have hlen : (if k = 0 then ("" : Str) else tiesT (tps.take k) ++ " ").length ≤ 101 := by
          split
          · decide +kernel
          · rw [app_len]
            have : (" " : Str).length = 1 := by decide +kernel
            omega
        refine .inl (vIxL em hix ?_)
        generalize (if k = 0 then ("" : Str) else tiesT (tps.take k) ++ " ") = hd at stp hlen
        have l1 := (name_pos na).2
        have l2 := (name_pos nb).2
        have l3 := app_len hd ab.1
        have l4 := app_len (hd ++ ab.1) "-"
        have l5 : ("-" : Str).length = 1 := by decide +kernel
        walk_at "vc"
        refine .inl (vIxT (s4 _ _ hut) rfl ?_)
        refine vAddS (Nat.le_trans (show _ ≤ 1000 by omega) (by decide)) ?_
        walk_at "vc"
        refine vAddS (Nat.le_trans (show _ ≤ 1000 by omega) (by decide)) ?_
        walk_at "vc"
        refine .inl (vIxT (s4 _ _ hut) rfl ?_)
        refine vAddS (Nat.le_trans (show _ ≤ 1000 by omega) (by decide)) ?_
        rw [stp]
        exact ⟨s4, _, _, rfl⟩
      · obtain ⟨s2, x5, x6, rfl⟩ := hp
        rw [List.length_map, hts.1, List.take_length]
        have oz := namesT_ok hws
        have ot := tiesT_ok htps
        walk_at "vc"
        refine .inl ⟨n, _, rfl, .inl (SqL.of (s2 _ _ hn)), fun c hc => ?_⟩
        have s3 := Snew s2 (o := .lst (ws.map V.str)) hc
        have ec : upd H2 c (.lst (ws.map V.str)) c = some (.lst (ws.map V.str)) := upd_same
        generalize upd H2 c (.lst (ws.map V.str)) = H3 at s3 ec ⊢
        walk_at "vc"
        refine ⟨c, ws, rfl, ec, by have := hws.1; omega, fun w hw => by have := (name_pos (hws.2 w hw)).2; omega, ?_⟩
        walk_at "vc"
        refine vNeS rfl ?_
        walk_at "vc"
        refine ite2 (fun h => by cases h) fun _ => ?_
        walk_at "vc"
        refine vNeR (n := 2) (by decide) (ToldL.eqT (o := .ws ws) ec (s3 _ _ hn)) ?_
        walk_at "vc"
        refine ite2 (fun h => by cases h) fun _ => ?_
        walk_at "vc"
        refine .inl ⟨tl, _, rfl, .inl (SqL.of (s3 _ _ htl)), fun d hd => ?_⟩
        have s4 := Snew s3 (o := .lst (ts.map V.ref)) hd
        have ed : upd H3 d (.lst (ts.map V.ref)) d = some (.lst (ts.map V.ref)) := upd_same
        generalize upd H3 d (.lst (ts.map V.ref)) = H4 at s4 ed ⊢
        walk_at "vc"
        refine ⟨d, ts, tps, rfl, ed, hts.1, (hts.same s4).2, by have := htps.1; omega, fun ab hab => ⟨(name_pos (htps.2 ab hab).1).2, (name_pos (htps.2 ab hab).2).2⟩, fun H5 s45 => ?_⟩
        have s5 := s4.trans s45
        walk_at "vc"
        refine vNeS rfl ?_
        walk_at "vc"
        refine ite2 (fun h => by cases h) fun _ => ?_
        walk_at "vc"
        refine rd_one (.inl rfl) (by omega) fun r b v H6 s56 hr0 hr hrd => ?_
        have s6 := s5.trans s56
        rcases hrd with ⟨e, _⟩ | ⟨o, l, e, rfl, rfl, _, _, hl⟩
        · exact absurd (e.symm.trans (show outK 0 (namesT ws) = some (.ws ws) by show (rdN _).map _ = _; rw [rdN_names hws]; rfl)) (by simp)
        have e0 : outK 0 (namesT ws) = some (.ws ws) := by show (rdN _).map _ = _; rw [rdN_names hws]; rfl
        rw [e0] at e
        cases e
        walk_at "vc"
        refine ⟨by show 2 ≤ sizeLine; decide, fun m hm => ?_⟩
        have s67 := Snew (L2.Same.refl H6) (o := .lst [.bl true, .ref n]) hm
        have s7 := s6.trans s67
        have em : upd H6 m (.lst [.bl true, .ref n]) m = some (.lst [.bl true, .ref n]) := upd_same
        replace hr := s67 _ _ hr
        replace hl := hl.same s67
        generalize upd H6 m (.lst [.bl true, .ref n]) = H7 at s7 em hr hl ⊢
        walk_at "vc"
        refine vEqR (n := 3) (by decide) (two_eqT hr em (eqD_told (o := .ws ws) hl (s7 _ _ hn))) ?_
        walk_at "vc"
        refine iteT ?_
        walk_at "vc"
        refine rd_one (.inr (.inl rfl)) (by omega) fun r2 b v H8 s78 hr0' hr' hrd => ?_
        have s8 := s7.trans s78
        have e1 : outK 1 (tiesT tps) = some (.ts (tps.map fun ab => [ab.1, ab.2])) := by show (rdTi _).map _ = _; rw [rdTi_ties htps]; rfl
        rcases hrd with ⟨e, _⟩ | ⟨o, l2, e, rfl, rfl, _, _, hl2⟩
        · exact absurd (e.symm.trans e1) (by simp)
        rw [e1] at e
        cases e
        walk_at "vc"
        refine ⟨by show 2 ≤ sizeLine; decide, fun m2 hm2 => ?_⟩
        have s89 := Snew (L2.Same.refl H8) (o := .lst [.bl true, .ref tl]) hm2
        have s9 := s8.trans s89
        have em2 : upd H8 m2 (.lst [.bl true, .ref tl]) m2 = some (.lst [.bl true, .ref tl]) := upd_same
        replace hr' := s89 _ _ hr'
        replace hl2 := hl2.same s89
        generalize upd H8 m2 (.lst [.bl true, .ref tl]) = H9 at s9 em2 hr' hl2 ⊢
        walk_at "vc"
        refine vEqR (n := 3) (by decide) (two_eqT hr' em2 (eqD_told hl2 ((hts.same s9).told (s9 _ _ htl)))) ?_
        exact hD _ _ (q _ s9)
    walk_at "vc"
    refine ⟨by decide, fun c hc => ?_⟩
    have s1 := Snew (L2.Same.refl H) (o := .lst []) hc
    have ec : upd H c (.lst []) c = some (.lst []) := upd_same
    generalize upd H c (.lst []) = H1 at s1 ec ⊢
    cases ws with
    | nil =>
      have z := EqT.lst (K := K) (H := H1) (n := 0) (e := fun _ => true) (SqL.of (s1 _ _ hn)) (SqL.of ec) rfl fun j x y h1 h2 => by simp at h1
      rw [allT] at z
      refine .inr (.inl ⟨n, c, true, 1, rfl, rfl, by decide, z, ?_⟩)
      walk_at "vc"
      refine ite2 (fun h => by cases h) fun _ => ?_
      walk_at "vc"
      rw [hTC2]
      exact ⟨fun _ _ h => h, _, _, _, _, _, rfl, s1⟩
    | cons a r =>
      refine .inr (.inl ⟨n, c, false, 1, rfl, rfl, by decide, .lstL (SqL.of (s1 _ _ hn)) (SqL.of ec) (by simp), ?_⟩)
      walk_at "vc"
      refine ite2 (fun _ => ?_) fun h => absurd rfl h
      walk_at "vc"
      have ha0 : atI ((a :: r).map V.str) 0 = some (.str a) := atI_nat (show ((a :: r).map V.str)[0]? = some (.str a) from rfl)
      refine .inl (vIxL (s1 _ _ hn) ha0 ?_)
      have ec1 : cutV ((a :: r).map V.str) (some 1) none = r.map V.str := by
        have := cutV_drop ((a :: r).map V.str) 1
        rw [← List.map_drop] at this
        exact this
      walk_at "vc"
      refine .inl ⟨n, _, rfl, SqL.of (s1 _ _ hn), fun d hd => ?_⟩
      rw [ec1]
      have s2 := Snew s1 (o := .lst (r.map V.str)) hd
      have ed : upd H1 d (.lst (r.map V.str)) d = some (.lst (r.map V.str)) := upd_same
      generalize upd H1 d (.lst (r.map V.str)) = H2 at s2 ed ⊢
      walk_at "vc"
      refine .inl ⟨⟨_, SqL.of ed⟩, for_list (K := K) (fun i σ H' => L2.Same H2 H' ∧ ∃ x3, σ = [some (.ref n), some (.ref tl), some (.str (Txt.join " " (a :: r.take i))), x3, none, none, none, none]) ⟨L2.Same.refl H2, none, ?_⟩ (fun i σ H' _ hp => SqL.of (hp.1 _ _ ed)) (fun i y σ H' hy hp => ?_) fun σ H' hp => ?_⟩
      · have e : Txt.join " " (a :: r.take 0) = a := join_one " " a
        rw [e]
        rfl
      · obtain ⟨s3, x3, rfl⟩ := hp
        obtain ⟨b, hb, rfl⟩ : ∃ b, r[i]? = some b ∧ y = .str b := by
          rw [List.getElem?_map] at hy
          cases e : r[i]? with
          | none => rw [e] at hy; cases hy
          | some b => rw [e] at hy; exact ⟨b, rfl, (Option.some.inj hy).symm⟩
        have hlr := hws.1
        have hi : i < r.length := (List.getElem?_eq_some_iff.mp hb).1
        rw [List.length_cons] at hlr
        have l1 := (name_pos (hws.2 b (List.mem_cons_of_mem _ (List.mem_of_getElem? hb)))).2
        have l2 := join_short (ws := a :: r.take i) (b := 6) (fun w hw => (name_pos (hws.2 w ((List.mem_cons.mp hw).elim (fun e => e ▸ List.mem_cons_self) fun z => List.mem_cons_of_mem _ (List.mem_of_mem_take z)))).2) (by rw [List.length_cons, List.length_take]; omega)
        have e : Txt.join " " (a :: r.take (i + 1)) = Txt.join " " (a :: r.take i) ++ " " ++ b := by
          rw [List.take_add_one, hb]
          exact join_more (ws := a :: r.take i) (by simp) b
        have l3 : (" " : Str).length = 1 := by decide +kernel
        have l4 := app_len (Txt.join " " (a :: r.take i)) " "
        rw [e]
        walk_at "vc"
        refine vAddS (Nat.le_trans (show _ ≤ 1000 by omega) (by decide)) ?_
        walk_at "vc"
        refine vAddS (Nat.le_trans (show _ ≤ 1000 by omega) (by decide)) ?_
        exact ⟨s3, _, rfl⟩
      · obtain ⟨s3, x3, rfl⟩ := hp
        rw [List.length_map, List.take_length]
        show TC2 _ _ _
        rw [hTC2]
        exact ⟨fun _ _ h => h, _, _, _, _, _, rfl, s2.trans s3⟩
end
open PySem L2 PyProof.Rows
/- law: calls ['_law_cell', '_law_names', '_law_numbers', '_law_written_right', 'ties_text', 'names_text', '_law_reads_right', '_law_spoilt', '_law_read']; cells ['_law_pool'] -/
abbrev s_law : Stmt := top 31
theorem sc_law : FnScope ["_law_script", "_law_k", "_law_cell_here", "_law_pool", "_law_numbers_here", "_law_names_here", "_law_ties", "_law_text", "_law_thing", "_law_kind"] ["_law_script"] (defScope s_law) := ⟨rfl, rfl, rfl, by decide +kernel, rfl, by decide +kernel, by decide +kernel⟩
theorem eqV_self {v : V} (h : flatV v = true) : eqV v v = true := by
  cases v <;> first | rfl | (simp [eqV]; done) | cases h
theorem Th.eqD {K : W.Frag} {p : Addr} {H : Hp} {n m : Nat} {v : V} (h : Th p H n v) : EqD K H m v v true := by
  cases h with
  | flat f l =>
    have e := EqD.flat (K := K) (H := H) (n := m) f f
    rw [eqV_self f] at e
    exact e
  | lst e ne h l => exact .self
  | tup e ne h l => exact .self
  | dct e ne => exact .self
theorem cut_len (xs : List V) (a b : Nat) : (cutV xs (some (a : Int)) (some (b : Int))).length ≤ b - a := by
  unfold cutV
  rw [HT.sIx_nat, HT.sIx_nat, List.length_take]
  omega
theorem vIxP {K : W.Frag} {H : Hp} {Q : VK} {p : Addr} {ss : List Str} {i : Int} (hp : H p = some (.lst (ss.map V.str))) (h0 : 0 ≤ i) (h1 : i < ss.length) (h : ∀ s ∈ ss, Q (.str s) H) : rIxU K (.ref p) (.int i) H Q := by
  obtain ⟨y, iy, hy⟩ := atI_lt (xs := ss.map V.str) h0 (by rw [List.length_map]; exact h1)
  obtain ⟨s, hs, rfl⟩ := List.mem_map.mp (List.mem_of_getElem? hy)
  exact .inl (vIxL hp iy (h s hs))
theorem vIxN {K : W.Frag} {H : Hp} {Q : VK} {p : Addr} {ns : List Int} {i : Int} {b : Int} {bs : List Int} (hp : H p = some (.lst (ns.map V.int))) (hl : ns.length = bs.length) (hb : ∀ (i : Nat) n x, ns[i]? = some n → bs[i]? = some x → 0 ≤ n ∧ n < x) (h0 : 0 ≤ i) (h1 : bs[i.toNat]? = some b) (h : ∀ n, 0 ≤ n → n < b → Q (.int n) H) : rIxU K (.ref p) (.int i) H Q := by
  have hj : i.toNat < ns.length := by rw [hl]; exact (List.getElem?_eq_some_iff.mp h1).1
  have e : ns[i.toNat]? = some ns[i.toNat] := List.getElem?_eq_getElem hj
  obtain ⟨r1, r2⟩ := hb _ _ _ e h1
  have ea : atI (ns.map V.int) i = some (.int ns[i.toNat]) := by
    have := atI_nat (xs := ns.map V.int) (j := i.toNat) (v := .int ns[i.toNat]) (by rw [List.getElem?_map, e]; rfl)
    rw [show ((i.toNat : Nat) : Int) = i by omega] at this
    exact this
  exact .inl (vIxL hp ea (h _ r1 r2))
def spLaw (K : W.Frag) : Sp := fun vs H Q _ => ∃ (a : Addr) (ns : List Int), vs = [.ref a] ∧ SqL K H a (ns.map V.int) ∧ ns.length ≤ 63 ∧ ∀ H', Q (.bl true) H'
def basesN : List Int := [7, 7, 97, 97, 97, 97, 97, 97, 97, 97, 97, 97, 97, 97, 9, 997, 1009, 2]
def forWith (s : Stmt) (es : List Expr) : Stmt := match s with
  | .For t (.List _ lp) b o p => .For t (.List es lp) b o p
  | s => s
abbrev bAt (s : Stmt) (i : Nat) : Stmt := (defBody s).getD i (.Pass ⟨0, 0, 0, 0⟩)
theorem law_parts : ∃ es, defBody s_law = [bAt s_law 0, forWith (bAt s_law 1) es, bAt s_law 2] ∧ ∀ (env : Env) (PE' : Expr → TE → Prop) (PA' : List Expr → TA → Prop),
    (∀ j pos, PE' (.Constant .none j pos) (tC .non)) → (∀ i j pos, PE' (.Constant (.int i) j pos) (tC (.int i))) → (∀ b j pos, PE' (.Constant (.bool b) j pos) (tC (.bl b))) → (∀ x j pos, PE' (.Constant (.str x) j pos) (tC (.str x))) →
    (∀ es pos t, PA' es t → PE' (.List es pos) (tLst t)) → (∀ es x1 pos t, PA' es t → PE' (.Tuple es x1 pos) (tTup t)) → (∀ pos, PE' (.Dict [] [] pos) tDNewK) → PA' [] tNil →
    (∀ e es te t, PE' e te → PA' es t → starEach (e :: es) env = (false, eval e env) :: starEach es env → PA' (e :: es) (tCons te t)) →
    PA' es (tCons (tC .non) (tCons (tC (.int 5)) (tCons (tLst (tCons (tC (.str "a")) tNil)) (tCons (tTup (tCons (tC (.str "a")) tNil)) (tCons (tC (.bl true)) (tCons tDNewK (tCons (tLst tNil) tNil))))))) :=
  ⟨_, rfl, fun env PE' PA' hn hi hb hs hl ht hd h0 hc => hc _ _ _ _ (hn _ _) (hc _ _ _ _ (hi _ _ _) (hc _ _ _ _ (hl _ _ _ (hc _ _ _ _ (hs _ _ _) h0 rfl)) (hc _ _ _ _ (ht _ _ _ _ (hc _ _ _ _ (hs _ _ _) h0 rfl)) (hc _ _ _ _ (hb _ _ _) (hc _ _ _ _ (hd _) (hc _ _ _ _ (hl _ _ _ h0) h0 rfl) rfl) rfl) rfl) rfl) rfl) rfl⟩
section
variable {P : Program} {w : World} {K : W.Frag} {mg : Str → Option Value} {base : Heap} {cc : Nat → Addr} {cw : Addr}
theorem ok_law75 {f : Addr} {fd : FuncData} (F : Fun K "law" "law" s_law f fd) (T : Txt K mg cc cw) (D_l_cell : DefOk P w K mg base CX0 1 "_law_cell" ["_law_script", "_law_k"] (spCl K)) (D_l_numbers : DefOk P w K mg base CX0 1 "_law_numbers" ["_law_cell_here", "_law_bases", "_law_prime"] spNs) (D_l_names : DefOk P w K mg base CX0 2 "_law_names" ["_law_cell_here"] spNm)
    (D_l_written_right : DefOk P w K mg base CX0 7 "_law_written_right" ["_law_names_here", "_law_ties"] spWR) (D_names_text : DefOk P w K mg base CX0 2 "names_text" ["names"] spTN) (D_ties_text : DefOk P w K mg base CX0 2 "ties_text" ["ties"] spTT) (D_l_spoilt : DefOk P w K mg base CX0 1 "_law_spoilt" ["_law_text", "_law_way", "_law_place", "_law_pick"] spSpl)
    (D_l_reads_right : DefOk P w K mg base CX0 7 "_law_reads_right" ["_law_text"] spRR) (D_l_read : DefOk P w K mg base CX0 6 "_law_read" ["_law_kind", "_law_text"] spRd) : FnOk P w K mg base CX0 8 f fd ["_law_script"] (spLaw K) := by
  refine F.ok sc_law (fun vs H Q E h => ?_) fun cdv A outer s H vs Q E hr h => ?_
  · obtain ⟨a, ns, rfl, _⟩ := h; rfl
  · obtain ⟨a, nz, rfl, hS, hlen, q⟩ := h
    have hu := u100 hr
    obtain ⟨es7, hbody, hPA⟩ := law_parts
    rw [hbody]
    refine ⟨_, (pss_cons (ps_for PassesOwn.never rfl (pi_range1 rfl T.b_range (pa_cons (pe_callB (call_min2 rfl) rfl T.b_min boot_min (pa_cons pe_int (pa_cons (pe_callB (call_max2 rfl) rfl T.b_max boot_max (pa_cons pe_int (pa_cons (pe_callB (k_len (K := K) rfl) rfl T.b_len boot_len (pa_cons (pv 0) pa_nil)) pa_nil))) pa_nil))) pa_nil)) (pg_name (i := 1) sc_law.nd rfl (Or.inl rfl))
  (pss_cons (ps_set (i := 2) sc_law.nd rfl (Or.inl rfl) (pe_op (k_add (K := K) rfl) (pe_def D_l_cell (hm hr) pass0 (pa_cons (pv 0) (pa_cons (pv 1) pa_nil))) (pv 1)))
  (pss_cons (ps_set (i := 3) sc_law.nd rfl (Or.inr rfl) (pe_op (k_add (K := K) rfl) (pe_def D_l_names (hm hr) pass0 (pa_cons (pe_op op_fdiv (pv 2) pe_int) pa_nil)) (pe_lst (pa_cons pe_str (pa_cons pe_str (pa_cons pe_str pa_nil))))))
  (pss_cons (ps_set (i := 4) sc_law.nd rfl (Or.inl rfl) (pe_def D_l_numbers (hm hr) pass0 (pa_cons (pv 2) (pa_cons (pe_op (k_add (K := K) rfl) (pe_op (k_add (K := K) rfl) (pe_lst (pa_cons pe_int (pa_cons pe_int pa_nil))) (pe_op u_mul (pe_lst (pa_cons pe_int pa_nil)) pe_int)) (pe_lst (pa_cons pe_int (pa_cons pe_int (pa_cons pe_int (pa_cons pe_int pa_nil)))))) (pa_cons pe_int pa_nil)))))
  (pss_cons (ps_setC (sc := defScope s_law) (XN := ["_law_script", "_law_k", "_law_cell_here", "_law_pool", "_law_numbers_here", "_law_names_here", "_law_ties", "_law_text", "_law_thing", "_law_kind"]) ["_law_number", "_law_pool"] 1 [3] rfl rfl rfl (by decide +kernel) rfl (by decide +kernel) (i := 5) sc_law.nd rfl rfl
   (ki_any (K := K) rfl (pe_slice (k_sl (K := K) rfl) (pv 4) (po_some pe_int) (po_some (pe_op (k_add (K := K) rfl) pe_int (pe_ix (k_ixU (K := K) rfl hu) (pv 4) pe_int (fun _ _ => rfl)))))) (fun _ _ _ _ => (pg_name (i := 0) (show (["_law_number", "_law_pool"] : List Str).Nodup by decide +kernel) rfl (Or.inl rfl))) gk_name
   (fun _ _ _ _ => pifs_nil)
   (fun _ _ _ _ => (pe_ix (k_ixU (K := K) rfl hu) (pv 1) (pe_op op_mod (pv 0) (pe_callB (k_len (K := K) rfl) rfl T.b_len boot_len (pa_cons (pv 1) pa_nil))) (fun _ _ => rfl))))
  (pss_cons (ps_setC (sc := defScope s_law) (XN := ["_law_script", "_law_k", "_law_cell_here", "_law_pool", "_law_numbers_here", "_law_names_here", "_law_ties", "_law_text", "_law_thing", "_law_kind"]) ["_law_number", "_law_pool"] 1 [3] rfl rfl rfl (by decide +kernel) rfl (by decide +kernel) (i := 6) sc_law.nd rfl rfl
   (ki_any (K := K) rfl (pe_slice (k_sl (K := K) rfl) (pv 4) (po_some pe_int) (po_some (pe_op (k_add (K := K) rfl) pe_int (pe_ix (k_ixU (K := K) rfl hu) (pv 4) pe_int (fun _ _ => rfl)))))) (fun _ _ _ _ => (pg_name (i := 0) (show (["_law_number", "_law_pool"] : List Str).Nodup by decide +kernel) rfl (Or.inl rfl))) gk_name
   (fun _ _ _ _ => pifs_nil)
   (fun _ _ _ _ => (pe_tup (pa_cons (pe_ix (k_ixU (K := K) rfl hu) (pv 1) (pe_op op_mod (pv 0) (pe_callB (k_len (K := K) rfl) rfl T.b_len boot_len (pa_cons (pv 1) pa_nil))) (fun _ _ => rfl)) (pa_cons (pe_ix (k_ixU (K := K) rfl hu) (pv 1) (pe_op op_mod (pe_op op_fdiv (pv 0) pe_int) (pe_callB (k_len (K := K) rfl) rfl T.b_len boot_len (pa_cons (pv 1) pa_nil))) (fun _ _ => rfl)) pa_nil)))))
  (pss_cons (ps_if (pt_not (pt_val (pe_def D_l_written_right (hm hr) pass0 (pa_cons (pv 5) (pa_cons (pv 6) pa_nil))))) (pss_one (ps_ret pe_bl)) pss_nil)
  (pss_cons (ps_set (i := 7) sc_law.nd rfl (Or.inl rfl) (pe_ix (k_ixU (K := K) rfl hu) (pe_lst (pa_cons (pe_def D_names_text (hm hr) pass0 (pa_cons (pv 5) pa_nil)) (pa_cons (pe_def D_ties_text (hm hr) pass0 (pa_cons (pv 6) pa_nil)) pa_nil))) (pe_ix (k_ixU (K := K) rfl hu) (pv 4) pe_int (fun _ _ => rfl)) (fun _ _ => rfl)))
  (pss_one (ps_if (pt_not (pt_val (pe_def D_l_reads_right (hm hr) pass0 (pa_cons (pe_def D_l_spoilt (hm hr) pass0 (pa_cons (pv 7) (pa_cons (pe_ix (k_ixU (K := K) rfl hu) (pv 4) pe_int (fun _ _ => rfl)) (pa_cons (pe_ix (k_ixU (K := K) rfl hu) (pv 4) pe_int (fun _ _ => rfl)) (pa_cons (pe_ix (k_ixU (K := K) rfl hu) (pv 4) pe_int (fun _ _ => rfl)) pa_nil))))) pa_nil)))) (pss_one (ps_ret pe_bl)) pss_nil))))))))))
  (pss_cons (ps_for PassesOwn.never rfl (ki_any (K := K) rfl (pe_lst (hPA _ _ _ (fun _ _ => pe_non) (fun _ _ _ => pe_int) (fun _ _ _ => pe_bl) (fun _ _ _ => pe_str) (fun _ _ _ h => pe_lst h) (fun _ _ _ _ h => pe_tup h) (fun _ => pe_dnewK) pa_nil fun _ _ _ _ ha hr hs => pa_cons ha hr hs))) (pg_name (i := 8) sc_law.nd rfl (Or.inl rfl))
  (pss_one (ps_for PassesOwn.never rfl (pi_range1 rfl T.b_range (pa_cons pe_int pa_nil)) (pg_name (i := 9) sc_law.nd rfl (Or.inl rfl))
  (pss_one (ps_if (pt_cmpR (k_neU (K := K) rfl hu) (pe_def D_l_read (hm hr) pass0 (pa_cons (pv 9) (pa_cons (pv 8) pa_nil))) (pe_lst (pa_cons pe_bl (pa_cons (pv 8) pa_nil))) (nomark _)) (pss_one (ps_ret pe_bl)) pss_nil)))))
  (pss_one (ps_ret (pe_and (pe_def D_l_reads_right (hm hr) pass0 (pa_cons pe_str pa_nil)) (pe_and (pe_def D_l_reads_right (hm hr) pass0 (pa_cons pe_str pa_nil)) (pe_one (pe_def D_l_reads_right (hm hr) pass0 (pa_cons pe_str pa_nil))))))))), ?_⟩
    walk_at "vc"
    refine vLenLs hS ?_
    walk_at "vc"
    refine ⟨_, _, rfl, ?_⟩
    walk_at "vc"
    refine ⟨_, _, rfl, ?_⟩
    walk_at "vc"
    rw [List.length_map]
    refine ⟨_, rfl, by split <;> split <;> omega, by split <;> split <;> omega, ?_⟩
    generalize hN : (Int.toNat _) = N
    have hN' : N ≤ 63 := by rw [← hN]; split <;> split <;> omega
    clear hN
    refine for_range (fun i σ H' => L2.Same H H' ∧ ∃ x1 x2 x3 x4 x5 x6 x7, σ = [some (.ref a), x1, x2, x3, x4, x5, x6, x7, none, none]) ⟨L2.Same.refl H, none, none, none, none, none, none, none, rfl⟩ (fun i σ H1 hi hp => ?_) fun σ H1 hp => ?_
    · obtain ⟨s1, x1, x2, x3, x4, x5, x6, x7, rfl⟩ := hp
      walk_at "vc"
      refine ⟨a, nz, _, rfl, s1.seq hS, by omega, by omega, fun c => ?_⟩
      walk_at "vc"
      refine vI ⟨by decide, by decide⟩ ?_
      walk_at "vc"
      refine ⟨_, rfl, fun l ss H2 s12 hl0 hl hO => ?_⟩
      have s2 := s1.trans s12
      walk_at "vc"
      refine ⟨by show 3 ≤ sizeLine; decide, fun m hm => ?_⟩
      have s23 := Snew (L2.Same.refl H2) (o := .lst [.str "web", .str "go", .str "a"]) hm
      have em : upd H2 m (.lst [.str "web", .str "go", .str "a"]) m = some (.lst [.str "web", .str "go", .str "a"]) := upd_same
      have hl3 := s23 _ _ hl
      have s3 := s2.trans s23
      generalize upd H2 m (.lst [.str "web", .str "go", .str "a"]) = H3 at s3 em hl3 ⊢
      have few := hO.few
      refine .inl ⟨l, m, _, _, rfl, rfl, hl3, em, Nat.le_trans (show _ ≤ 1000 by rw [List.length_map]; show ss.length + 3 ≤ 1000; omega) (by decide), fun pl hpl => ?_⟩
      obtain ⟨ps, hps, hp3, hpn, hpk⟩ : ∃ ps : List Str, ss.map V.str ++ [V.str "web", V.str "go", V.str "a"] = ps.map V.str ∧ 3 ≤ ps.length ∧ ps.length ≤ 17 ∧ ∀ s ∈ ps, nameS s = true := by
        refine ⟨ss ++ (["web", "go", "a"] : List Str), by rw [List.map_append]; rfl, by rw [List.length_append]; show 3 ≤ _ + 3; omega, by rw [List.length_append]; show _ + 3 ≤ 17; omega, fun s hs => ?_⟩
        have h3 : ∀ s ∈ (["web", "go", "a"] : List Str), nameS s = true := by decide +kernel
        exact (List.mem_append.mp hs).elim (hO.nm s) (h3 s)
      rw [hps]
      have s4 := Snew s3 (o := .lst (ps.map V.str)) hpl
      have epl : upd H3 pl (.lst (ps.map V.str)) pl = some (.lst (ps.map V.str)) := upd_same
      generalize upd H3 pl (.lst (ps.map V.str)) = H4 at s4 epl ⊢
      clear hps hl3 em s23 hl s3 hO few s12 hl0
      walk_at "vc"
      refine ⟨by show 2 ≤ sizeLine; decide, fun b1 hb1 => ?_⟩
      have s45 := Snew (L2.Same.refl H4) (o := .lst [.int 7, .int 7]) hb1
      have eb1 : upd H4 b1 (.lst [.int 7, .int 7]) b1 = some (.lst [.int 7, .int 7]) := upd_same
      generalize upd H4 b1 (.lst [.int 7, .int 7]) = H5 at s45 eb1 ⊢
      walk_at "vc"
      refine ⟨by show 1 ≤ sizeLine; decide, fun b2 hb2 => ?_⟩
      have s56 := Snew (L2.Same.refl H5) (o := .lst [.int 97]) hb2
      have eb2 : upd H5 b2 (.lst [.int 97]) b2 = some (.lst [.int 97]) := upd_same
      generalize upd H5 b2 (.lst [.int 97]) = H6 at s56 eb2 ⊢
      walk_at "vc"
      refine ⟨b2, 12, _, rfl, rfl, eb2, by decide, by decide, by show 1 * 12 ≤ sizeLine; decide, fun b3 hb3 => ?_⟩
      have e12 : (List.replicate (12 : Int).toNat [V.int 97]).flatten = [V.int 97, V.int 97, V.int 97, V.int 97, V.int 97, V.int 97, V.int 97, V.int 97, V.int 97, V.int 97, V.int 97, V.int 97] := rfl
      rw [e12]
      have s67 := Snew (L2.Same.refl H6) (o := .lst [V.int 97, V.int 97, V.int 97, V.int 97, V.int 97, V.int 97, V.int 97, V.int 97, V.int 97, V.int 97, V.int 97, V.int 97]) hb3
      have eb3 : upd H6 b3 (.lst [V.int 97, V.int 97, V.int 97, V.int 97, V.int 97, V.int 97, V.int 97, V.int 97, V.int 97, V.int 97, V.int 97, V.int 97]) b3 = some (.lst [V.int 97, V.int 97, V.int 97, V.int 97, V.int 97, V.int 97, V.int 97, V.int 97, V.int 97, V.int 97, V.int 97, V.int 97]) := upd_same
      generalize upd H6 b3 (.lst [V.int 97, V.int 97, V.int 97, V.int 97, V.int 97, V.int 97, V.int 97, V.int 97, V.int 97, V.int 97, V.int 97, V.int 97]) = H7 at s67 eb3 ⊢
      refine .inl ⟨b1, b3, _, _, rfl, rfl, s67 _ _ (s56 _ _ eb1), eb3, by show 14 ≤ sizeLine; decide, fun b4 hb4 => ?_⟩
      generalize hx14 : [V.int 7, V.int 7] ++ [V.int 97, V.int 97, V.int 97, V.int 97, V.int 97, V.int 97, V.int 97, V.int 97, V.int 97, V.int 97, V.int 97, V.int 97] = x14
      have s78 := Snew (L2.Same.refl H7) (o := .lst x14) hb4
      have eb4 : upd H7 b4 (.lst x14) b4 = some (.lst x14) := upd_same
      generalize upd H7 b4 (.lst x14) = H8 at s78 eb4 ⊢
      walk_at "vc"
      refine ⟨by show 4 ≤ sizeLine; decide, fun b5 hb5 => ?_⟩
      have s89 := Snew (L2.Same.refl H8) (o := .lst [.int 9, .int 997, .int 1009, .int 2]) hb5
      have eb5 : upd H8 b5 (.lst [.int 9, .int 997, .int 1009, .int 2]) b5 = some (.lst [.int 9, .int 997, .int 1009, .int 2]) := upd_same
      generalize upd H8 b5 (.lst [.int 9, .int 997, .int 1009, .int 2]) = H9 at s89 eb5 ⊢
      refine .inl ⟨b4, b5, _, _, rfl, rfl, s89 _ _ eb4, eb5, by rw [← hx14]; show 18 ≤ sizeLine; decide, fun b6 hb6 => ?_⟩
      have e18 : x14 ++ [V.int 9, V.int 997, V.int 1009, V.int 2] = basesN.map V.int := by rw [← hx14]; rfl
      rw [e18]
      have s910 := Snew (L2.Same.refl H9) (o := .lst (basesN.map V.int)) hb6
      have eb6 : upd H9 b6 (.lst (basesN.map V.int)) b6 = some (.lst (basesN.map V.int)) := upd_same
      have s4a := s45.trans (s56.trans (s67.trans (s78.trans (s89.trans s910))))
      generalize upd H9 b6 (.lst (basesN.map V.int)) = H10 at s4a eb6 ⊢
      clear s45 s56 s67 s78 s89 s910 eb1 eb2 eb3 eb4 eb5 hx14 e18 e12
      walk_at "vc"
      refine ⟨b6, _, _, basesN, rfl, eb6, by decide, by decide, by decide, by decide, fun nl ns H11 s1011 _ hns hnl hnb => ?_⟩
      have s4b := s4a.trans s1011
      clear s4a s1011 eb6
      have ep := s4b _ _ epl
      have s5 := s4.trans s4b
      clear s4b epl s4
      walk_at "vc"
      refine vIxN (b := 7) hns hnl hnb (by decide) rfl fun n0 n00 n07 => ?_
      walk_at "vc"
      obtain ⟨k0, rfl⟩ := Int.eq_ofNat_of_zero_le n00
      refine .inl ⟨nl, _, rfl, SqL.of hns, fun c1 hc1 => ?_⟩
      have cl1 : (cutV (ns.map V.int) (some 2) (some (2 + (k0 : Int)))).length ≤ 6 := by
        have := cut_len (ns.map V.int) 2 (2 + k0)
        rw [Int.natCast_add] at this
        exact Nat.le_trans this (by omega)
      have cm1 : ∀ v ∈ cutV (ns.map V.int) (some 2) (some (2 + (k0 : Int))), ∃ n : Int, v = .int n := fun v hv => by
        obtain ⟨n, _, rfl⟩ := List.mem_map.mp (cut_mem hv)
        exact ⟨n, rfl⟩
      generalize cutV (ns.map V.int) (some 2) (some (2 + (k0 : Int))) = cs at cl1 cm1 ⊢
      have s1112 := Snew (L2.Same.refl H11) (o := .lst cs) hc1
      have ec1 : upd H11 c1 (.lst cs) c1 = some (.lst cs) := upd_same
      replace hns := s1112 _ _ hns
      replace ep := s1112 _ _ ep
      have s6 := s5.trans s1112
      generalize upd H11 c1 (.lst cs) = H12 at s6 ec1 hns ep ⊢
      clear s5 s1112
      refine .inl ⟨⟨_, SqL.of ec1⟩, comp_list (K := K) (fun i ys H' => L2.Same H12 H' ∧ ∃ ws : List Str, ys = ws.map V.str ∧ ws.length = i ∧ ∀ s ∈ ws, nameS s = true) ⟨L2.Same.refl H12, [], rfl, rfl, fun s h => by cases h⟩ (fun i ys H' _ hp => SqL.of (hp.1 _ _ ec1)) (fun i y ys H' hy hp => ?_) fun ys H13 hp => ?_⟩
      · obtain ⟨s13, ws, rfl, hwl, hwn⟩ := hp
        obtain ⟨n, rfl⟩ := cm1 y (List.mem_of_getElem? hy)
        have hil : i < cs.length := (List.getElem?_eq_some_iff.mp hy).1
        walk_at "vc"
        refine iteT ?_
        walk_at "vc"
        refine vLenL (s13 _ _ ep) ?_
        rw [List.length_map]
        refine vI (show (0 : Int) < (ps.length : Int) by omega) ?_
        refine vIxP (s13 _ _ ep) (Int.emod_nonneg _ (by omega)) (Int.emod_lt_of_pos _ (by omega)) fun s hs => ?_
        refine ⟨by rw [List.length_map]; exact small1000 (by omega), s13, ws ++ [s], by rw [List.map_append]; rfl, by rw [List.length_append, hwl]; rfl, fun x hx => ?_⟩
        rcases List.mem_append.mp hx with z | z
        · exact hwn x z
        · rw [List.mem_singleton.mp z]; exact hpk s hs
      · obtain ⟨s13, ws, rfl, hwl, hwn⟩ := hp
        refine ⟨by rw [List.length_map]; exact Nat.le_of_lt (small1000 (by omega)), fun wl hwl0 => ?_⟩
        have s1314 := Snew (L2.Same.refl H13) (o := .lst (ws.map V.str)) hwl0
        have ewl : upd H13 wl (.lst (ws.map V.str)) wl = some (.lst (ws.map V.str)) := upd_same
        have hws : NmsOk ws := ⟨by omega, hwn⟩
        replace hns := s1314 _ _ (s13 _ _ hns)
        replace ep := s1314 _ _ (s13 _ _ ep)
        have s7 := s6.trans (s13.trans s1314)
        generalize upd H13 wl (.lst (ws.map V.str)) = H14 at s7 ewl hns ep ⊢
        clear s6 s13 s1314 cm1 hwn
        walk_at "vc"
        refine vIxN (b := 7) hns hnl hnb (by decide) rfl fun n1 n10 n17 => ?_
        walk_at "vc"
        obtain ⟨k1, rfl⟩ := Int.eq_ofNat_of_zero_le n10
        refine .inl ⟨nl, _, rfl, SqL.of hns, fun c2 hc2 => ?_⟩
        have cl2 : (cutV (ns.map V.int) (some 8) (some (8 + (k1 : Int)))).length ≤ 6 := by
          have := cut_len (ns.map V.int) 8 (8 + k1)
          rw [Int.natCast_add] at this
          exact Nat.le_trans this (by omega)
        have cm2 : ∀ v ∈ cutV (ns.map V.int) (some 8) (some (8 + (k1 : Int))), ∃ n : Int, v = .int n := fun v hv => by
          obtain ⟨n, _, rfl⟩ := List.mem_map.mp (cut_mem hv)
          exact ⟨n, rfl⟩
        generalize cutV (ns.map V.int) (some 8) (some (8 + (k1 : Int))) = ds at cl2 cm2 ⊢
        have s1415 := Snew (L2.Same.refl H14) (o := .lst ds) hc2
        have ec2 : upd H14 c2 (.lst ds) c2 = some (.lst ds) := upd_same
        replace hns := s1415 _ _ hns
        replace ep := s1415 _ _ ep
        replace ewl := s1415 _ _ ewl
        have s8 := s7.trans s1415
        generalize upd H14 c2 (.lst ds) = H15 at s8 ec2 hns ep ewl ⊢
        clear s7 s1415
        refine .inl ⟨⟨_, SqL.of ec2⟩, comp_list (K := K) (fun i ys H' => L2.Same H15 H' ∧ ∃ (us : List Addr) (tps : List (Str × Str)), ys = us.map V.ref ∧ us.length = i ∧ PrsAt H' us tps ∧ ∀ ab ∈ tps, nameS ab.1 = true ∧ nameS ab.2 = true) ⟨L2.Same.refl H15, [], [], rfl, rfl, ⟨rfl, fun i t ab h => by simp at h⟩, fun s h => by cases h⟩ (fun i ys H' _ hp => SqL.of (hp.1 _ _ ec2)) (fun i y ys H' hy hp => ?_) fun ys H16 hp => ?_⟩
        · obtain ⟨s16, us, tps, rfl, hul, hpr, htn⟩ := hp
          obtain ⟨n, rfl⟩ := cm2 y (List.mem_of_getElem? hy)
          have hil : i < ds.length := (List.getElem?_eq_some_iff.mp hy).1
          walk_at "vc"
          refine iteT ?_
          walk_at "vc"
          refine vLenL (s16 _ _ ep) ?_
          rw [List.length_map]
          refine vI (show (0 : Int) < (ps.length : Int) by omega) ?_
          refine vIxP (s16 _ _ ep) (Int.emod_nonneg _ (by omega)) (Int.emod_lt_of_pos _ (by omega)) fun s hs => ?_
          walk_at "vc"
          refine vI ⟨by decide, by decide⟩ ?_
          walk_at "vc"
          refine vLenL (s16 _ _ ep) ?_
          rw [List.length_map]
          refine vI (show (0 : Int) < (ps.length : Int) by omega) ?_
          refine vIxP (s16 _ _ ep) (Int.emod_nonneg _ (by omega)) (Int.emod_lt_of_pos _ (by omega)) fun t ht => ?_
          walk_at "vc"
          refine ⟨by show 2 ≤ sizeLine; decide, fun u hu0 => ?_⟩
          have sU := Snew (L2.Same.refl H') (o := .tup [.str s, .str t]) hu0
          have eu : upd H' u (.tup [.str s, .str t]) u = some (.tup [.str s, .str t]) := upd_same
          refine ⟨by rw [List.length_map]; exact small1000 (by omega), s16.trans sU, us ++ [u], tps ++ [(s, t)], by rw [List.map_append]; rfl, by rw [List.length_append, hul]; rfl, ⟨by rw [List.length_append, List.length_append, hpr.1]; rfl, fun j x ab hx hab => ?_⟩, fun ab hab => ?_⟩
          · by_cases hj : j < us.length
            · rw [List.getElem?_append_left hj] at hx
              rw [List.getElem?_append_left (by rw [← hpr.1]; exact hj)] at hab
              exact sU _ _ (hpr.2 j x ab hx hab)
            · rw [List.getElem?_append_right (by omega)] at hx
              rw [List.getElem?_append_right (by rw [← hpr.1]; omega), ← hpr.1] at hab
              have e0 : j - us.length = 0 := by
                have := (List.getElem?_eq_some_iff.mp hx).1
                simp only [List.length_cons, List.length_nil] at this
                omega
              rw [e0] at hx hab
              cases hx
              cases hab
              exact eu
          · rcases List.mem_append.mp hab with z | z
            · exact htn ab z
            · rw [List.mem_singleton.mp z]; exact ⟨hpk s hs, hpk t ht⟩
        · obtain ⟨s16, us, tps, rfl, hul, hpr, htn⟩ := hp
          refine ⟨by rw [List.length_map]; exact Nat.le_of_lt (small1000 (by omega)), fun tl htl0 => ?_⟩
          have s1617 := Snew (L2.Same.refl H16) (o := .lst (us.map V.ref)) htl0
          have etl : upd H16 tl (.lst (us.map V.ref)) tl = some (.lst (us.map V.ref)) := upd_same
          have hts : TisOk tps := ⟨by rw [← hpr.1]; omega, htn⟩
          replace hns := s1617 _ _ (s16 _ _ hns)
          replace ewl := s1617 _ _ (s16 _ _ ewl)
          replace hpr := hpr.same s1617
          have s9 := s8.trans (s16.trans s1617)
          generalize upd H16 tl (.lst (us.map V.ref)) = H17 at s9 ewl hns etl hpr ⊢
          clear s8 s16 s1617 cm2 htn ep ec2
          have oz := namesT_ok hws
          have ot := tiesT_ok hts
          walk_at "vc"
          refine ⟨wl, tl, ws, us, tps, rfl, ewl, hws, etl, hpr, hts, fun H18 s1718 => ?_⟩
          replace hns := s1718 _ _ hns
          replace ewl := s1718 _ _ ewl
          replace etl := s1718 _ _ etl
          replace hpr := hpr.same s1718
          have s10 := s9.trans s1718
          clear s9 s1718
          walk_at "vc"
          refine ite2 (fun h => by cases h) fun _ => ?_
          walk_at "vc"
          refine ⟨wl, ws, rfl, ewl, by have := hws.1; omega, (fun w hw => by have := (name_pos (hws.2 w hw)).2; omega), ?_⟩
          walk_at "vc"
          refine ⟨tl, us, tps, rfl, etl, hpr.1, hpr.2, by have := hts.1; omega, (fun ab hab => ⟨(name_pos (hts.2 ab hab).1).2, (name_pos (hts.2 ab hab).2).2⟩), fun H19 s1819 => ?_⟩
          replace hns := s1819 _ _ hns
          have s11 := s10.trans s1819
          clear s10 s1819
          walk_at "vc"
          refine ⟨by show 2 ≤ sizeLine; decide, fun g hg => ?_⟩
          change tOp _ _ _ _ (upd _ g (.lst [.str (namesT ws), .str (tiesT tps)])) _
          have s1920 := Snew (L2.Same.refl H19) (o := .lst [.str (namesT ws), .str (tiesT tps)]) hg
          have eg : upd H19 g (.lst [.str (namesT ws), .str (tiesT tps)]) g = some (.lst [.str (namesT ws), .str (tiesT tps)]) := upd_same
          replace hns := s1920 _ _ hns
          have s12 := s11.trans s1920
          generalize upd H19 g (.lst [.str (namesT ws), .str (tiesT tps)]) = H20 at s12 eg hns ⊢
          clear s11 s1920
          walk_at "vc"
          refine vIxN (b := 2) hns hnl hnb (by decide) rfl fun n2 n20 n22 => ?_
          obtain ⟨z, hz, z1, z2⟩ : ∃ z : Str, atI [V.str (namesT ws), V.str (tiesT tps)] n2 = some (.str z) ∧ z.length ≤ 100 ∧ PrintS z := by
            have : n2 = 0 ∨ n2 = 1 := by omega
            rcases this with rfl | rfl
            · exact ⟨_, rfl, oz⟩
            · exact ⟨_, rfl, ot⟩
          refine .inl (vIxL eg hz ?_)
          walk_at "vc"
          refine vIxN (b := 9) hns hnl hnb (by decide) rfl fun m1 m10 m11 => ?_
          walk_at "vc"
          refine vIxN (b := 997) hns hnl hnb (by decide) rfl fun m2 m20 m21 => ?_
          walk_at "vc"
          refine vIxN (b := 1009) hns hnl hnb (by decide) rfl fun m3 m30 m31 => ?_
          walk_at "vc"
          refine ⟨z, m1, m2, m3, rfl, by omega, z2, m10, m20, m30, fun z' H21 s21 zl' zp' => ?_⟩
          walk_at "vc"
          refine ⟨z', rfl, zl', zp', fun H22 s22 => ?_⟩
          walk_at "vc"
          refine ite2 (fun h => by cases h) fun _ => ?_
          exact ⟨s12.trans (s21.trans s22), _, _, _, _, _, _, _, rfl⟩
    · obtain ⟨s1, x1, x2, x3, x4, x5, x6, x7, rfl⟩ := hp
      walk_at "vc"
      refine ⟨by show 1 ≤ sizeLine; decide, fun l2 h2 => ?_⟩
      have s23 := Snew (L2.Same.refl H1) (o := .lst [.str "a"]) h2
      have e2 : upd H1 l2 (.lst [.str "a"]) l2 = some (.lst [.str "a"]) := upd_same
      generalize upd H1 l2 (.lst [.str "a"]) = H3 at s23 e2 ⊢
      walk_at "vc"
      refine ⟨by show 1 ≤ sizeLine; decide, fun t3 h3 => ?_⟩
      have s34 := Snew (L2.Same.refl H3) (o := .tup [.str "a"]) h3
      have e3 : upd H3 t3 (.tup [.str "a"]) t3 = some (.tup [.str "a"]) := upd_same
      generalize upd H3 t3 (.tup [.str "a"]) = H4 at s34 e3 ⊢
      walk_at "vc"
      intro d4 h4
      have s45 := Snew (L2.Same.refl H4) (o := .dK []) h4
      have e4 : upd H4 d4 (.dK []) d4 = some (.dK []) := upd_same
      generalize upd H4 d4 (.dK []) = H5 at s45 e4 ⊢
      walk_at "vc"
      refine ⟨by decide, fun l1 h1 => ?_⟩
      have s56 := Snew (L2.Same.refl H5) (o := .lst []) h1
      have e1 : upd H5 l1 (.lst []) l1 = some (.lst []) := upd_same
      generalize upd H5 l1 (.lst []) = H6 at s56 e1 ⊢
      walk_at "vc"
      refine ⟨by show 7 ≤ sizeLine; decide, fun g hg => ?_⟩
      have f2 := s56 _ _ (s45 _ _ (s34 _ _ e2))
      have f3 := s56 _ _ (s45 _ _ e3)
      have f4 := s56 _ _ e4
      have thA : Th g H6 1 (.str "a") := Th.flat rfl fun z e => by cases e; decide +kernel
      have hall : ∀ v ∈ ([.non, .int 5, .ref l2, .ref t3, .bl true, .ref d4, .ref l1] : List V), Th g H6 2 v ∧ ∀ z, v ≠ .str z := fun v hv => by
        simp only [List.mem_cons, List.not_mem_nil, or_false] at hv
        rcases hv with rfl | rfl | rfl | rfl | rfl | rfl | rfl
        · exact ⟨Th.flat rfl (fun z e => by cases e), fun z e => by cases e⟩
        · exact ⟨Th.flat rfl (fun z e => by cases e), fun z e => by cases e⟩
        · exact ⟨.lst f2 (ne_of_none f2 hg) (fun x hx => by rw [List.mem_singleton.mp hx]; exact thA) (by show 1 ≤ 1000; decide), fun z e => by cases e⟩
        · exact ⟨.tup f3 (ne_of_none f3 hg) (fun x hx => by rw [List.mem_singleton.mp hx]; exact thA) (by show 1 ≤ 1000; decide), fun z e => by cases e⟩
        · exact ⟨Th.flat rfl (fun z e => by cases e), fun z e => by cases e⟩
        · exact ⟨.dct f4 (ne_of_none f4 hg), fun z e => by cases e⟩
        · exact ⟨.lst e1 (ne_of_none e1 hg) (fun x hx => by cases hx) (by decide), fun z e => by cases e⟩
      generalize ([.non, .int 5, .ref l2, .ref t3, .bl true, .ref d4, .ref l1] : List V) = xs at hall ⊢
      have s67 := Snew (L2.Same.refl H6) (o := .lst xs) hg
      have eg : upd H6 g (.lst xs) g = some (.lst xs) := upd_same
      refine .inl ⟨⟨_, SqL.of upd_same⟩, ?_⟩
      generalize upd H6 g (.lst xs) = H7 at s67 eg ⊢
      refine for_list (K := K) (fun j σ H' => L2.Same H7 H' ∧ ∃ y8 y9 : Option V, σ = [some (.ref a), x1, x2, x3, x4, x5, x6, x7, y8, y9]) ⟨L2.Same.refl H7, _, _, rfl⟩ (fun j σ H' _ hp => SqL.of (hp.1 _ _ eg)) (fun j v σ J1 hv hp => ?_) fun σ J1 hp => ?_
      · obtain ⟨sJ, y8, y9, rfl⟩ := hp
        obtain ⟨hth, hns⟩ := hall v (List.mem_of_getElem? hv)
        walk_at "vc"
        refine ⟨3, rfl, by decide, by decide, for_range (fun i σ H' => L2.Same H7 H' ∧ ∃ y9, σ = [some (.ref a), x1, x2, x3, x4, x5, x6, x7, some v, y9]) ⟨sJ, _, rfl⟩ (fun i σ J2 hi hp => ?_) fun σ J2 hp => ?_⟩
        · obtain ⟨sJ2, y9, rfl⟩ := hp
          have hi : i < 3 := hi
          walk_at "vc"
          refine ⟨g, 2, _, v, rfl, hth.same (s67.trans sJ2), by omega, (fun z e => absurd e (hns z)), (fun _ r J3 j23 _ hr => ?_), fun z o e => absurd e (hns z)⟩
          walk_at "vc"
          refine ⟨by show 2 ≤ sizeLine; decide, fun m hm => ?_⟩
          have j34 := Snew (L2.Same.refl J3) (o := .lst [.bl false, v]) hm
          have em : upd J3 m (.lst [.bl false, v]) m = some (.lst [.bl false, v]) := upd_same
          replace hr := j34 _ _ hr
          generalize upd J3 m (.lst [.bl false, v]) = J4 at j34 em hr ⊢
          have sJ4 := sJ2.trans (j23.trans j34)
          refine vNeR (n := 1) (by decide) (two_eqT hr em ((hth.same (s67.trans sJ4)).eqD)) ?_
          walk_at "vc"
          refine ite2 (fun h => by cases h) fun _ => ?_
          exact ⟨sJ4, _, rfl⟩
        · obtain ⟨sJ2, y9, rfl⟩ := hp
          exact ⟨sJ2, _, _, rfl⟩
      · obtain ⟨sJ, y8, y9, rfl⟩ := hp
        have p1 : ("" : Str).length ≤ 1000 ∧ ∀ c ∈ ("" : Str).cps.toList, (32 ≤ c ∧ c ≤ 126) ∨ c = 10 := by decide +kernel
        have p2 : ("-" : Str).length ≤ 1000 ∧ ∀ c ∈ ("-" : Str).cps.toList, (32 ≤ c ∧ c ≤ 126) ∨ c = 10 := by decide +kernel
        have p3 : (" " : Str).length ≤ 1000 ∧ ∀ c ∈ (" " : Str).cps.toList, (32 ≤ c ∧ c ≤ 126) ∨ c = 10 := by decide +kernel
        walk_at "vc"
        refine ⟨_, rfl, p1.1, p1.2, fun J2 _ => ?_⟩
        walk_at "vc"
        refine iteT ?_
        walk_at "vc"
        refine ⟨_, rfl, p2.1, p2.2, fun J3 _ => ?_⟩
        walk_at "vc"
        refine iteT ?_
        walk_at "vc"
        refine ⟨_, rfl, p3.1, p3.2, fun J4 _ => ?_⟩
        exact q _
end
open PySem L2 PyProof.Rows
theorem all_mk {l : W.OpenLaw} {w : World} {K : W.Frag} {h : Heap} {mg : Str → Option Value} {fa  C0 C1 : Addr} {ty0 ty1 tyn : Tok} (X : K.In h) (G : h.Ns mainGlobals mg) (hfa : mg "law" = some (.ref fa))
    (C0_ : W.nsIn K mainGlobals "NoLine" = some (some (.ref C0)))
    (C1_ : W.nsIn K mainGlobals "OnceError" = some (some (.ref C1)))
    (h_is_name : FG K "is_name" s_is_name)
    (h_names_text : FG K "names_text" s_names_text)
    (h_ties_text : FG K "ties_text" s_ties_text)
    (h_text_or_nothing : FG K "text_or_nothing" s_text_or_nothing)
    (h_read_names : FG K "read_names" s_read_names)
    (h_read_ties : FG K "read_ties" s_read_ties)
    (h_is_written_tie : FG K "is_written_tie" s_is_written_tie)
    (h_words_or_none : FG K "words_or_none" s_words_or_none)
    (h_words_of : FG K "words_of" s_words_of)
    (h_is_word : FG K "is_word" s_is_word)
    (h_l_cell : FG K "_law_cell" s_l_cell)
    (h_l_numbers : FG K "_law_numbers" s_l_numbers)
    (h_l_names : FG K "_law_names" s_l_names)
    (h_l_is_name : FG K "_law_is_name" s_l_is_name)
    (h_l_parts : FG K "_law_parts" s_l_parts)
    (h_l_due_names : FG K "_law_due_names" s_l_due_names)
    (h_l_due_ties : FG K "_law_due_ties" s_l_due_ties)
    (h_l_due_words : FG K "_law_due_words" s_l_due_words)
    (h_l_read : FG K "_law_read" s_l_read)
    (h_l_reads_right : FG K "_law_reads_right" s_l_reads_right)
    (h_l_spoilt : FG K "_law_spoilt" s_l_spoilt)
    (h_l_written_right : FG K "_law_written_right" s_l_written_right)
    (h_law : FG K "law" s_law)
    (h_i0 : FM K C0 "__init__" "NoLine.__init__" s_NoLine_init)
    (h_i1 : FC K C1 "__init__" "OnceError.__init__" s_OnceError_init)
    (X0 : XL K C0 (.ref C1 :: veMro))
    (q0 : XQ K C0)
    (X1 : XL K C1 veMro)
    (q1 : XQ K C1)
    (y0 : W.findIn K (.ref C0) "found" = some none)
    (mo0 : W.mroIn K C0 (.ref C1) = some true)
    (nd : ([C0] ++ [C1]).Nodup)
    (r1 : W.readsIn K C1 (.type "type") = true)
    (r3 : W.specialIn K (.ref C1) "__getattribute__" = some (some (.builtin "type.__getattribute__")))
    (v1 : W.findIn K (.type "type") "__getattribute__" = some (some (.builtin "type.__getattribute__")))
    (v3 : W.subIn K (.type "type") (.type "type") = some true)
    (v4 : W.findCls K (.type "ValueError") (.type "type") "__init__" = some (.val (.builtin "ValueError.__init__")))
    (w16 : W.specialIn K (.builtin "object.__class__") "__get__" = some (some (.builtin "getset_descriptor.__get__")))
    (w17 : W.takesIn K (.builtin "object.__class__") = some true)
    (gno : W.nsIn K mainGlobals "NOTHING" = some (some (.str "-" tyn)))
    (mr0 : W.mroIn K C0 (.ref C0) = some true)
    (z0 : W.nsIn K mainGlobals "len" = some none)
    (z1 : W.nsIn K mainGlobals "int" = some none)
    (z2 : W.nsIn K mainGlobals "enumerate" = some none)
    (z3 : W.nsIn K mainGlobals "all" = some none)
    (z4 : W.nsIn K mainGlobals "max" = some none)
    (z5 : W.nsIn K mainGlobals "min" = some none)
    (z6 : W.nsIn K mainGlobals "isinstance" = some none)
    (z7 : W.nsIn K mainGlobals "bool" = some none)
    (z8 : W.nsIn K mainGlobals "str" = some none)
    (z9 : W.nsIn K mainGlobals "range" = some none)
    (z10 : W.nsIn K mainGlobals "list" = some none)
    (z11 : W.nsIn K mainGlobals "tuple" = some none)
    (z12 : W.nsIn K mainGlobals "ValueError" = some none)
    (u0 : W.nsIn K mainGlobals "LONGEST_NAME" = some (some (.int 6 ty0)))
    (u1 : W.nsIn K mainGlobals "LONGEST_LINE" = some (some (.int 400 ty1))) :
    ∃ fd : FuncData, (∀ (s : Shared) (v : Value), BindsTo s fd ⟨[v], []⟩ [("_law_script", v)]) ∧ ∀ base : Heap, K.In base → base.Ns mainGlobals mg → FnOk l.prog w K mg base CX0 8 fa fd ["_law_script"] (spLaw K) := by
  obtain ⟨f_is_name, e_is_name, a_is_name, F_Qaa⟩ := h_is_name
  obtain ⟨f_names_text, e_names_text, a_names_text, F_Qaq⟩ := h_names_text
  obtain ⟨f_ties_text, e_ties_text, a_ties_text, F_Qau⟩ := h_ties_text
  obtain ⟨f_text_or_nothing, e_text_or_nothing, a_text_or_nothing, F_Qat⟩ := h_text_or_nothing
  obtain ⟨f_read_names, e_read_names, a_read_names, F_Qar⟩ := h_read_names
  obtain ⟨f_read_ties, e_read_ties, a_read_ties, F_Qas⟩ := h_read_ties
  obtain ⟨f_is_written_tie, e_is_written_tie, a_is_written_tie, F_Qac⟩ := h_is_written_tie
  obtain ⟨f_words_or_none, e_words_or_none, a_words_or_none, F_Qaw⟩ := h_words_or_none
  obtain ⟨f_words_of, e_words_of, a_words_of, F_Qav⟩ := h_words_of
  obtain ⟨f_is_word, e_is_word, a_is_word, F_Qab⟩ := h_is_word
  obtain ⟨f_l_cell, e_l_cell, a_l_cell, F_Qad⟩ := h_l_cell
  obtain ⟨f_l_numbers, e_l_numbers, a_l_numbers, F_Qaj⟩ := h_l_numbers
  obtain ⟨f_l_names, e_l_names, a_l_names, F_Qai⟩ := h_l_names
  obtain ⟨f_l_is_name, e_l_is_name, a_l_is_name, F_Qah⟩ := h_l_is_name
  obtain ⟨f_l_parts, e_l_parts, a_l_parts, F_Qak⟩ := h_l_parts
  obtain ⟨f_l_due_names, e_l_due_names, a_l_due_names, F_Qae⟩ := h_l_due_names
  obtain ⟨f_l_due_ties, e_l_due_ties, a_l_due_ties, F_Qaf⟩ := h_l_due_ties
  obtain ⟨f_l_due_words, e_l_due_words, a_l_due_words, F_Qag⟩ := h_l_due_words
  obtain ⟨f_l_read, e_l_read, a_l_read, F_Qal⟩ := h_l_read
  obtain ⟨f_l_reads_right, e_l_reads_right, a_l_reads_right, F_Qam⟩ := h_l_reads_right
  obtain ⟨f_l_spoilt, e_l_spoilt, a_l_spoilt, F_Qan⟩ := h_l_spoilt
  obtain ⟨f_l_written_right, e_l_written_right, a_l_written_right, F_Qao⟩ := h_l_written_right
  obtain ⟨f_law, e_law, a_law, F_Qap⟩ := h_law
  obtain ⟨f_i0, e_i0, a_i0, n_i0, F_i0⟩ := h_i0
  obtain ⟨f_i1, e_i1, a_i1, F_i1⟩ := h_i1
  have e := hfa.symm.trans (W.mg_of X G a_law)
  cases e
  have Y0 : XAt K C0 := xq_at X0 xmro_on q0 w16 w17
  have Y1 : XAt K C1 := xq_at X1 xmro_ve q1 w16 w17
  obtain ⟨kt1, kt2, kt3, kt4⟩ := kits nd (fun i hi => match i, hi with | 0, _ => X0 | n + 1, h => absurd h (by simp only [List.length_cons, List.length_nil]; omega)) X1
  have T : Txt K mg (fun i => ([C0] : List Addr).getD i C1) C0 := ⟨W.mg_none_of X G z0,
    W.mg_none_of X G z1,
    W.mg_none_of X G z2,
    W.mg_none_of X G z3,
    W.mg_none_of X G z4,
    W.mg_none_of X G z5,
    W.mg_none_of X G z6,
    W.mg_none_of X G z7,
    W.mg_none_of X G z8,
    W.mg_none_of X G z9,
    W.mg_none_of X G z10,
    W.mg_none_of X G z11,
    W.mg_none_of X G z12,
    ⟨ty0, W.mg_of X G u0⟩,
    ⟨ty1, W.mg_of X G u1⟩,
    W.mg_of X G C0_,
    W.mg_of X G C1_,
    ⟨v1, v3, v4⟩,
    fun i hi => match i, hi with | 0, _ => Y0 | 1, _ => Y1 | n + 2, h => absurd h (by omega),
    fun i hi => match i, hi with | 0, _ => y0 | n + 1, h => absurd h (by omega),
    kt1,
    kt3,
    fun i hi => match i, hi with | 0, _ => mo0 | n + 1, h => absurd h (by omega),
    ⟨tyn, W.mg_of X G gno⟩,
    mr0⟩
  obtain ⟨oc, od, kV, doc, pm, an, cd, ct, sl, rfl, lk, hc⟩ := F_Qap.ex
  refine ⟨W.fnOf "law" "law" (defArgs s_law) (defBody s_law) (defScope s_law) .none kV doc pm an cd ct, fun s v => .of_eq rfl, fun base _ _ => ?_⟩
  have d_once : CMethOk l.prog w K mg base CX0 1 C1 "OnceError" "__init__" ["self", "text"] (spOnce K) := fc_mk X G C1_ r1 a_i1 r3 F_i1 (ok_once F_i1 T)
  have d0 : XMakeOk l.prog w K mg base 2 C0 "NoLine" ["self", "found"] (spX C0 (fldn 0)) := fx_mk X G C0_ Y0 q0 a_i0 n_i0 F_i0 (ok_NoLine F_i0 T d_once)
  have fg := @fg_mk l.prog w K mg base h
  have fm := @fm_mk l.prog w K mg base
  have d_name := fg X G a_is_name F_Qaa (ok_name F_Qaa T)
  have d_wn := fg X G a_words_or_none F_Qaw (ok_wn F_Qaw T d0)
  have d_rn := fg X G a_read_names F_Qar (ok_rn F_Qar T d_wn d_name d0)
  have d_two := fg X G a_is_written_tie F_Qac (ok_twoS F_Qac T d_name)
  have d_rti := fg X G a_read_ties F_Qas (ok_rti F_Qas T d_wn d_two d0)
  have d_wd := fg X G a_is_word F_Qab (ok_wd F_Qab T)
  have d_wo := fg X G a_words_of F_Qav (ok_wo F_Qav T d_wd d0)
  have d_ton := fg X G a_text_or_nothing F_Qat (ok_ton F_Qat T)
  have d_nt := fg X G a_names_text F_Qaq (ok_nt F_Qaq d_ton)
  have d_tt := fg X G a_ties_text F_Qau (ok_tt F_Qau d_ton)
  have d_ns := fg X G a_l_numbers F_Qaj (ok_ns F_Qaj T)
  have d_nm := fg X G a_l_names F_Qai (ok_nm F_Qai T d_ns)
  have d_isn := fg X G a_l_is_name F_Qah (ok_isn F_Qah T)
  have d_pts := fg X G a_l_parts F_Qak (ok_pts F_Qak T)
  have d_dn := fg X G a_l_due_names F_Qae (ok_dn F_Qae T d_pts d_isn)
  have d_dt := fg X G a_l_due_ties F_Qaf (ok_dt F_Qaf T d_pts d_isn)
  have d_dw := fg X G a_l_due_words F_Qag (ok_dw F_Qag T d_pts)
  have d_rd := fg X G a_l_read F_Qal (ok_rd F_Qal T d_rn d_rti d_wo)
  have d_rr := fg X G a_l_reads_right F_Qam (ok_rr F_Qam T d_dn d_dt d_dw d_rd)
  have d_spl := fg X G a_l_spoilt F_Qan (ok_spl F_Qan T)
  have d_wr := fg X G a_l_written_right F_Qao (ok_wr F_Qao T d_nt d_tt d_rd)
  exact ok_law75 F_Qap T (fg X G a_l_cell F_Qad (ok_cl F_Qad T)) d_ns d_nm d_wr d_nt d_tt d_spl d_rr d_rd
theorem walk {l : PySem.W.OpenLaw} {q : Program} {loose : List Str} {XP : (Str → Option Value) → Heap → Prop} {YP : World → Heap → Prop} {d : DefRec} {K : Params → PySem.W.Frag} (hn : l.most = some 63) (hdf : d.params.defaults = [])
    (hY : ∀ (w : World) (h : Heap), YP w h → (K w.params).In h)
    (F : ∀ (w : World) (mg : Str → Option Value) (fa : Addr) (h : Heap), (K w.params).In h → h.Ns mainGlobals mg → mg d.name = some (.ref fa) →
      ∃ fd : FuncData, (∀ (s : Shared) (u : Value), BindsTo s fd ⟨[u], []⟩ [("_law_script", u)]) ∧ ∀ base : Heap, (K w.params).In base → base.Ns mainGlobals mg → FnOk l.prog w (K w.params) mg base CX0 8 fa fd ["_law_script"] (spLaw (K w.params))) :
    PySem.W.WalkO q loose XP YP l.row.toRowW d [] (fun f vs => PySem.call f vs) :=
  L2.walk_of (n := 63) (k := 8) (x := "_law_script") (CX := fun _ => CX0) (sp := fun w => spLaw (K w.params)) hn (by decide) hdf ⟨rfl, by decide, by decide⟩ hY F (fun _ _ a ns hl _ hS => ⟨a, ns, rfl, hS, hl, fun _ => rfl⟩) fun _ _ _ _ _ z => z
end K75
namespace Hd
open PySem PySem.W PySem.Calls PyProof.Rows
def runT (tb : String → Option Builtin) (p : Program) (w : World) (n₀ : Nat) (ann : Option Value) : Nat → SharedT → Thread → Option SharedT
  | 0, _, _ => none
  | n + 1, s, t => match through t with
    | true => some s
    | false => match stepOk n₀ ann t with
      | false => none
      | true => match stepT (denote tb) p w s t with
        | some (s', t') => runT tb p w n₀ ann n s' t'
        | none => none
theorem run_of {tb : String → Option Builtin} {p : Program} {w : World} {n₀ : Nat} {ann : Option Value} : ∀ {n : Nat} {s s' : SharedT} {t : Thread}, runT tb p w n₀ ann n s t = some s' → topRun tb p w n₀ ann n s.abs t = some s'.abs
  | 0, _, _, _, h => by cases h
  | n + 1, s, s', t, h => by
    unfold runT at h
    unfold topRun
    cases he : through t with
    | true => rw [he] at h; cases h; rfl
    | false =>
      rw [he] at h
      cases hk : stepOk n₀ ann t with
      | false => rw [hk] at h; cases h
      | true =>
        rw [hk] at h
        cases hs : stepT (denote tb) p w s t with
        | none => rw [hs] at h; cases h
        | some r => obtain ⟨s₂, t₂⟩ := r; rw [hs] at h; rw [stepT_spec hs]; exact run_of h
def treeIns : List Obj → Nat → BT → BT
  | [], _, t => t
  | o :: r, n, t => treeIns r (n + 1) (t.ins n o)
noncomputable def bootT (P : Params) (os : OsState) : SharedT := ⟨treeIns (boot_heap P).objs.toList 0 .nil, (boot_heap P).objs.size, (boot_heap P).life, Array.mk [], boot_drawn, boot_toks, os⟩
theorem boot_abs (P : Params) : absHeap (treeIns (boot_heap P).objs.toList 0 .nil) (boot_heap P).objs.size (boot_heap P).life = boot_heap P := by kernel_rfl
noncomputable def lookT (p q : Program) (Xt : Shared → Bool) {α : Type} (Yf : Shared → α) (N : Nat) (w : World) (os : OsState) := match (boot_heap w.params).isNs mainGlobals && (Array.mk [] : Array GenState).size == 0 with
  | true => (runT treeTable p w (boot_heap w.params).objs.size ((boot_heap w.params).nsMap mainGlobals "__annotations__") N (bootT w.params os) (topStub p)).bind fun s => match staticsOk (importedModules p.main.body) (boot_heap w.params) s.abs.heap && namesBound p s.abs.heap && gensDone s.abs && laidKept (boot_heap w.params) s.abs.heap with
      | true => some (openSeen q [] (importedModules p.main.body) Xt true s.abs, Yf s.abs)
      | false => none
  | false => none
theorem left_of {p q : Program} {Xt : Shared → Bool} {α : Type} {Yf : Shared → α} {Ya : World → α} {N : Nat} (e : opening p = plainProg p.main.scope.names) (hN : Nat.ble 600 N = true) (f : ∀ s, fenceModules? p s = some s)
    (h : ∀ w os, lookT p q Xt Yf N w os = some (openGood q [], Ya w)) : LeftO p q [] Xt Yf Ya N := fun w => by
  obtain ⟨⟨h0, gs, d, k, os⟩, e1, e2⟩ := Option.map_eq_some_iff.mp (boot_open e hN f w)
  obtain ⟨rfl, rfl, rfl, rfl⟩ : h0 = boot_heap w.params ∧ gs = Array.mk [] ∧ d = boot_drawn ∧ k = boot_toks := by simpa using e2
  have hh := h w os
  unfold lookT at hh
  unfold openEnds
  rw [e1]
  show (topFrom treeTable p w N _).map _ = _
  unfold topFrom
  dsimp only
  split at hh
  · rename_i z
    rw [z]
    obtain ⟨s, hs, q2⟩ := Option.bind_eq_some_iff.mp hh
    have r := run_of hs
    have ba : (bootT w.params os).abs = ⟨boot_heap w.params, Array.mk [], boot_drawn, boot_toks, os⟩ := by
      unfold bootT SharedT.abs
      dsimp only
      rw [boot_abs]
    rw [ba] at r
    dsimp only
    rw [r]
    split at q2
    · rename_i z2
      show ((match staticsOk (importedModules p.main.body) (boot_heap w.params) s.abs.heap && namesBound p s.abs.heap && gensDone s.abs && laidKept (boot_heap w.params) s.abs.heap with | true => some s.abs | false => none) : Option Shared).map _ = _
      rw [z2]
      exact q2
    · cases q2
  · cases hh
end Hd
namespace K75
open PySem L2 PyProof.Rows PySem.W
abbrev NN : Nat := 20000
noncomputable def Q : Program := view PySem.Challenge.pw_onceroad_k75_names_ties_and_lines [1, 2, 4, 5, 7, 8, 9, 10, 11, 12, 13, 14, 15, 16, 17, 19, 20, 21, 22, 23, 24, 25, 26, 27, 28, 29, 30, 31]
def en (P : Params) (k : Str) (t : Tok) (v : Value) : DictEntry := ⟨PyData.keyHash P k, .str k t, v⟩
noncomputable def Kf (P : Params) : Frag :=
  (nat_lit 2, (⟨.none, none, .dict #[] 0, #[]⟩ : Obj)) ::
  (nat_lit 3, (⟨(.type "dict"), none, .dict #[en P "__name__" 165 (.str "law_onceroad_k75_names_ties_and_lines" 314), en P "__doc__" 166 .none, en P "__package__" 167 .none, en P "__loader__" 168 (.builtin "__main__.__loader__#opaque"), en P "__spec__" 169 .none, en P "__annotations__" 170 (.ref 6), en P "__builtins__" 171 (.ref 4), en P "__file__" 173 (.str "/claim/cut.py" 172), en P "__cached__" 174 .none, en P "OnceError" 214 (.ref 31), en P "NoLine" 239 (.ref 51), en P "LONGEST_NAME" 243 (.int 6 242), en P "is_name" 249 (.ref 58), en P "NOTHING" 253 (.str "-" 252), en P "LONGEST_LINE" 255 (.int 400 254), en P "names_text" 262 (.ref 65), en P "ties_text" 268 (.ref 70), en P "text_or_nothing" 275 (.ref 77), en P "read_names" 281 (.ref 82), en P "read_ties" 287 (.ref 87), en P "is_written_tie" 294 (.ref 94), en P "words_or_none" 301 (.ref 101), en P "words_of" 307 (.ref 106), en P "is_word" 313 (.ref 111), en P "_law_cell" 323 (.ref 118), en P "_law_numbers" 336 (.ref 125), en P "_law_names" 342 (.ref 130), en P "_law_is_name" 348 (.ref 135), en P "_law_parts" 358 (.ref 142), en P "_law_due_names" 364 (.ref 147), en P "_law_due_ties" 374 (.ref 154), en P "_law_due_words" 382 (.ref 161), en P "_law_read" 392 (.ref 168), en P "_law_reads_right" 404 (.ref 175), en P "_law_spoilt" 416 (.ref 182), en P "_law_written_right" 430 (.ref 189), en P "law" 436 (.ref 194)] 37, #[]⟩ : Obj)) ::
  (nat_lit 27, (⟨(.type "code"), none, .fields #[(.str "__init__" 201), (.str "OnceError.__init__" 202), (.str "/claim/cut.py" 203), (.int 4 0), (.int 2 0), (.int 0 0), (.int 0 0), (.int 3 0), (.ref 22), (.bool true), (.int 181 0), (.ref 23), .none, (.ref 24), (.ref 25), (.ref 26), (.int 206 0), (.int 4 0), (.str "/claim/cut.py" 207)], #[]⟩ : Obj)) ::
  (nat_lit 28, (⟨(.type "function"), none, .func (fnOf "__init__" "OnceError.__init__" (defArgs s_OnceError_init) (defBody s_OnceError_init) (defScope s_OnceError_init) .none .none .none (.str "onceroad.errors" 187) none (.ref 27) .none), #[]⟩ : Obj)) ::
  (nat_lit 30, (⟨(.type "dict"), none, .dict #[en P "__module__" 196 (.str "onceroad.errors" 187), en P "__firstlineno__" 200 (.int 2 199), en P "__init__" 208 (.ref 28), en P "__static_attributes__" 209 (.ref 29), en P "__weakref__" 211 (.ref 32), en P "__doc__" 212 .none] 3, #[]⟩ : Obj)) ::
  (nat_lit 31, (⟨(.type "type"), none, .cls { name := "OnceError", bases := [(.type "ValueError")], mro := [(.ref 31), (.type "ValueError"), (.type "Exception"), (.type "BaseException"), (.type "object")], ns := 30, qualname := "OnceError", hasDict := true, slotNames := [], subclasses := [(.ref 51)], abstract := false, collection := none, hasDel := false }, #[(some (.ref 15)), none, (some (.str "OnceError" 189)), (some (.str "OnceError" 197)), (some (.builtin "ValueError.__new__")), (some (.bool true))]⟩ : Obj)) ::
  (nat_lit 47, (⟨(.type "code"), none, .fields #[(.str "__init__" 227), (.str "NoLine.__init__" 228), (.str "/claim/cut.py" 229), (.int 8 0), (.int 2 0), (.int 0 0), (.int 0 0), (.int 3 0), (.ref 42), (.bool true), (.int 181 0), (.ref 43), .none, (.ref 44), (.ref 45), (.ref 46), (.int 232 0), (.int 8 0), (.str "/claim/cut.py" 233)], #[]⟩ : Obj)) ::
  (nat_lit 48, (⟨(.type "function"), none, .func (fnOf "__init__" "NoLine.__init__" (defArgs s_NoLine_init) (defBody s_NoLine_init) (defScope s_NoLine_init) .none .none .none (.str "onceroad.errors" 187) none (.ref 47) .none), #[]⟩ : Obj)) ::
  (nat_lit 50, (⟨(.type "dict"), none, .dict #[en P "__module__" 222 (.str "onceroad.errors" 187), en P "__firstlineno__" 226 (.int 6 225), en P "__init__" 234 (.ref 48), en P "__static_attributes__" 236 (.ref 49), en P "__doc__" 237 .none] 2, #[]⟩ : Obj)) ::
  (nat_lit 51, (⟨(.type "type"), none, .cls { name := "NoLine", bases := [(.ref 31)], mro := [(.ref 51), (.ref 31), (.type "ValueError"), (.type "Exception"), (.type "BaseException"), (.type "object")], ns := 50, qualname := "NoLine", hasDict := true, slotNames := [], subclasses := [], abstract := false, collection := none, hasDel := false }, #[(some (.ref 35)), none, (some (.str "NoLine" 215)), (some (.str "NoLine" 223)), (some (.builtin "ValueError.__new__")), (some (.bool true))]⟩ : Obj)) ::
  (nat_lit 57, (⟨(.type "code"), none, .fields #[(.str "is_name" 244), (.str "is_name" 245), (.str "/claim/cut.py" 246), (.int 13 0), (.int 1 0), (.int 0 0), (.int 0 0), (.int 3 0), (.ref 54), (.bool true), (.int 181 0), (.ref 55), .none, .none, .none, (.ref 56), (.int 247 0), (.int 13 0), (.str "/claim/cut.py" 248)], #[]⟩ : Obj)) ::
  (nat_lit 58, (⟨(.type "function"), none, .func (fnOf "is_name" "is_name" (defArgs s_is_name) (defBody s_is_name) (defScope s_is_name) .none .none .none (.str "onceroad.names" 240) none (.ref 57) .none), #[]⟩ : Obj)) ::
  (nat_lit 64, (⟨(.type "code"), none, .fields #[(.str "names_text" 256), (.str "names_text" 257), (.str "/claim/cut.py" 258), (.int 20 0), (.int 1 0), (.int 0 0), (.int 0 0), (.int 3 0), (.ref 59), (.bool true), (.int 181 0), (.ref 60), .none, (.ref 61), (.ref 62), (.ref 63), (.int 260 0), (.int 20 0), (.str "/claim/cut.py" 261)], #[]⟩ : Obj)) ::
  (nat_lit 65, (⟨(.type "function"), none, .func (fnOf "names_text" "names_text" (defArgs s_names_text) (defBody s_names_text) (defScope s_names_text) .none .none .none (.str "onceroad.words" 250) none (.ref 64) .none), #[]⟩ : Obj)) ::
  (nat_lit 69, (⟨(.type "code"), none, .fields #[(.str "ties_text" 263), (.str "ties_text" 264), (.str "/claim/cut.py" 265), (.int 22 0), (.int 1 0), (.int 0 0), (.int 0 0), (.int 3 0), (.ref 66), (.bool true), (.int 181 0), (.ref 67), .none, .none, .none, (.ref 68), (.int 266 0), (.int 22 0), (.str "/claim/cut.py" 267)], #[]⟩ : Obj)) ::
  (nat_lit 70, (⟨(.type "function"), none, .func (fnOf "ties_text" "ties_text" (defArgs s_ties_text) (defBody s_ties_text) (defScope s_ties_text) .none .none .none (.str "onceroad.words" 250) none (.ref 69) .none), #[]⟩ : Obj)) ::
  (nat_lit 76, (⟨(.type "code"), none, .fields #[(.str "text_or_nothing" 269), (.str "text_or_nothing" 270), (.str "/claim/cut.py" 271), (.int 24 0), (.int 1 0), (.int 0 0), (.int 0 0), (.int 3 0), (.ref 71), (.bool true), (.int 181 0), (.ref 72), .none, (.ref 73), (.ref 74), (.ref 75), (.int 273 0), (.int 24 0), (.str "/claim/cut.py" 274)], #[]⟩ : Obj)) ::
  (nat_lit 77, (⟨(.type "function"), none, .func (fnOf "text_or_nothing" "text_or_nothing" (defArgs s_text_or_nothing) (defBody s_text_or_nothing) (defScope s_text_or_nothing) .none .none .none (.str "onceroad.words" 250) none (.ref 76) .none), #[]⟩ : Obj)) ::
  (nat_lit 81, (⟨(.type "code"), none, .fields #[(.str "read_names" 276), (.str "read_names" 277), (.str "/claim/cut.py" 278), (.int 26 0), (.int 1 0), (.int 0 0), (.int 0 0), (.int 3 0), (.ref 78), (.bool true), (.int 181 0), (.ref 79), .none, .none, .none, (.ref 80), (.int 279 0), (.int 26 0), (.str "/claim/cut.py" 280)], #[]⟩ : Obj)) ::
  (nat_lit 82, (⟨(.type "function"), none, .func (fnOf "read_names" "read_names" (defArgs s_read_names) (defBody s_read_names) (defScope s_read_names) .none .none .none (.str "onceroad.words" 250) none (.ref 81) .none), #[]⟩ : Obj)) ::
  (nat_lit 86, (⟨(.type "code"), none, .fields #[(.str "read_ties" 282), (.str "read_ties" 283), (.str "/claim/cut.py" 284), (.int 31 0), (.int 1 0), (.int 0 0), (.int 0 0), (.int 3 0), (.ref 83), (.bool true), (.int 181 0), (.ref 84), .none, .none, .none, (.ref 85), (.int 285 0), (.int 31 0), (.str "/claim/cut.py" 286)], #[]⟩ : Obj)) ::
  (nat_lit 87, (⟨(.type "function"), none, .func (fnOf "read_ties" "read_ties" (defArgs s_read_ties) (defBody s_read_ties) (defScope s_read_ties) .none .none .none (.str "onceroad.words" 250) none (.ref 86) .none), #[]⟩ : Obj)) ::
  (nat_lit 93, (⟨(.type "code"), none, .fields #[(.str "is_written_tie" 288), (.str "is_written_tie" 289), (.str "/claim/cut.py" 290), (.int 36 0), (.int 1 0), (.int 0 0), (.int 0 0), (.int 3 0), (.ref 88), (.bool true), (.int 181 0), (.ref 89), .none, (.ref 90), (.ref 91), (.ref 92), (.int 292 0), (.int 36 0), (.str "/claim/cut.py" 293)], #[]⟩ : Obj)) ::
  (nat_lit 94, (⟨(.type "function"), none, .func (fnOf "is_written_tie" "is_written_tie" (defArgs s_is_written_tie) (defBody s_is_written_tie) (defScope s_is_written_tie) .none .none .none (.str "onceroad.words" 250) none (.ref 93) .none), #[]⟩ : Obj)) ::
  (nat_lit 100, (⟨(.type "code"), none, .fields #[(.str "words_or_none" 295), (.str "words_or_none" 296), (.str "/claim/cut.py" 297), (.int 38 0), (.int 1 0), (.int 0 0), (.int 0 0), (.int 3 0), (.ref 95), (.bool true), (.int 181 0), (.ref 96), .none, (.ref 97), (.ref 98), (.ref 99), (.int 299 0), (.int 38 0), (.str "/claim/cut.py" 300)], #[]⟩ : Obj)) ::
  (nat_lit 101, (⟨(.type "function"), none, .func (fnOf "words_or_none" "words_or_none" (defArgs s_words_or_none) (defBody s_words_or_none) (defScope s_words_or_none) .none .none .none (.str "onceroad.words" 250) none (.ref 100) .none), #[]⟩ : Obj)) ::
  (nat_lit 105, (⟨(.type "code"), none, .fields #[(.str "words_of" 302), (.str "words_of" 303), (.str "/claim/cut.py" 304), (.int 42 0), (.int 1 0), (.int 0 0), (.int 0 0), (.int 3 0), (.ref 102), (.bool true), (.int 181 0), (.ref 103), .none, .none, .none, (.ref 104), (.int 305 0), (.int 42 0), (.str "/claim/cut.py" 306)], #[]⟩ : Obj)) ::
  (nat_lit 106, (⟨(.type "function"), none, .func (fnOf "words_of" "words_of" (defArgs s_words_of) (defBody s_words_of) (defScope s_words_of) .none .none .none (.str "onceroad.words" 250) none (.ref 105) .none), #[]⟩ : Obj)) ::
  (nat_lit 110, (⟨(.type "code"), none, .fields #[(.str "is_word" 308), (.str "is_word" 309), (.str "/claim/cut.py" 310), (.int 49 0), (.int 1 0), (.int 0 0), (.int 0 0), (.int 3 0), (.ref 107), (.bool true), (.int 181 0), (.ref 108), .none, .none, .none, (.ref 109), (.int 311 0), (.int 49 0), (.str "/claim/cut.py" 312)], #[]⟩ : Obj)) ::
  (nat_lit 111, (⟨(.type "function"), none, .func (fnOf "is_word" "is_word" (defArgs s_is_word) (defBody s_is_word) (defScope s_is_word) .none .none .none (.str "onceroad.words" 250) none (.ref 110) .none), #[]⟩ : Obj)) ::
  (nat_lit 117, (⟨(.type "code"), none, .fields #[(.str "_law_cell" 316), (.str "_law_cell" 317), (.str "/claim/cut.py" 318), (.int 52 0), (.int 2 0), (.int 0 0), (.int 0 0), (.int 3 0), (.ref 112), (.bool true), (.int 181 0), (.ref 113), .none, (.ref 114), (.ref 115), (.ref 116), (.int 321 0), (.int 52 0), (.str "/claim/cut.py" 322)], #[]⟩ : Obj)) ::
  (nat_lit 118, (⟨(.type "function"), none, .func (fnOf "_law_cell" "_law_cell" (defArgs s_l_cell) (defBody s_l_cell) (defScope s_l_cell) .none .none .none (.str "law_onceroad_k75_names_ties_and_lines" 314) none (.ref 117) .none), #[]⟩ : Obj)) ::
  (nat_lit 124, (⟨(.type "code"), none, .fields #[(.str "_law_numbers" 324), (.str "_law_numbers" 325), (.str "/claim/cut.py" 326), (.int 56 0), (.int 3 0), (.int 0 0), (.int 0 0), (.int 3 0), (.ref 119), (.bool true), (.int 181 0), (.ref 120), .none, (.ref 121), (.ref 122), (.ref 123), (.int 334 0), (.int 56 0), (.str "/claim/cut.py" 335)], #[]⟩ : Obj)) ::
  (nat_lit 125, (⟨(.type "function"), none, .func (fnOf "_law_numbers" "_law_numbers" (defArgs s_l_numbers) (defBody s_l_numbers) (defScope s_l_numbers) .none .none .none (.str "law_onceroad_k75_names_ties_and_lines" 314) none (.ref 124) .none), #[]⟩ : Obj)) ::
  (nat_lit 129, (⟨(.type "code"), none, .fields #[(.str "_law_names" 337), (.str "_law_names" 338), (.str "/claim/cut.py" 339), (.int 68 0), (.int 1 0), (.int 0 0), (.int 0 0), (.int 3 0), (.ref 126), (.bool true), (.int 181 0), (.ref 127), .none, .none, .none, (.ref 128), (.int 340 0), (.int 68 0), (.str "/claim/cut.py" 341)], #[]⟩ : Obj)) ::
  (nat_lit 130, (⟨(.type "function"), none, .func (fnOf "_law_names" "_law_names" (defArgs s_l_names) (defBody s_l_names) (defScope s_l_names) .none .none .none (.str "law_onceroad_k75_names_ties_and_lines" 314) none (.ref 129) .none), #[]⟩ : Obj)) ::
  (nat_lit 134, (⟨(.type "code"), none, .fields #[(.str "_law_is_name" 343), (.str "_law_is_name" 344), (.str "/claim/cut.py" 345), (.int 76 0), (.int 1 0), (.int 0 0), (.int 0 0), (.int 3 0), (.ref 131), (.bool true), (.int 181 0), (.ref 132), .none, .none, .none, (.ref 133), (.int 346 0), (.int 76 0), (.str "/claim/cut.py" 347)], #[]⟩ : Obj)) ::
  (nat_lit 135, (⟨(.type "function"), none, .func (fnOf "_law_is_name" "_law_is_name" (defArgs s_l_is_name) (defBody s_l_is_name) (defScope s_l_is_name) .none .none .none (.str "law_onceroad_k75_names_ties_and_lines" 314) none (.ref 134) .none), #[]⟩ : Obj)) ::
  (nat_lit 141, (⟨(.type "code"), none, .fields #[(.str "_law_parts" 349), (.str "_law_parts" 350), (.str "/claim/cut.py" 351), (.int 80 0), (.int 2 0), (.int 0 0), (.int 0 0), (.int 3 0), (.ref 136), (.bool true), (.int 181 0), (.ref 137), .none, (.ref 138), (.ref 139), (.ref 140), (.int 356 0), (.int 80 0), (.str "/claim/cut.py" 357)], #[]⟩ : Obj)) ::
  (nat_lit 142, (⟨(.type "function"), none, .func (fnOf "_law_parts" "_law_parts" (defArgs s_l_parts) (defBody s_l_parts) (defScope s_l_parts) .none .none .none (.str "law_onceroad_k75_names_ties_and_lines" 314) none (.ref 141) .none), #[]⟩ : Obj)) ::
  (nat_lit 146, (⟨(.type "code"), none, .fields #[(.str "_law_due_names" 359), (.str "_law_due_names" 360), (.str "/claim/cut.py" 361), (.int 88 0), (.int 1 0), (.int 0 0), (.int 0 0), (.int 3 0), (.ref 143), (.bool true), (.int 181 0), (.ref 144), .none, .none, .none, (.ref 145), (.int 362 0), (.int 88 0), (.str "/claim/cut.py" 363)], #[]⟩ : Obj)) ::
  (nat_lit 147, (⟨(.type "function"), none, .func (fnOf "_law_due_names" "_law_due_names" (defArgs s_l_due_names) (defBody s_l_due_names) (defScope s_l_due_names) .none .none .none (.str "law_onceroad_k75_names_ties_and_lines" 314) none (.ref 146) .none), #[]⟩ : Obj)) ::
  (nat_lit 153, (⟨(.type "code"), none, .fields #[(.str "_law_due_ties" 365), (.str "_law_due_ties" 366), (.str "/claim/cut.py" 367), (.int 95 0), (.int 1 0), (.int 0 0), (.int 0 0), (.int 3 0), (.ref 148), (.bool true), (.int 181 0), (.ref 149), .none, (.ref 150), (.ref 151), (.ref 152), (.int 372 0), (.int 95 0), (.str "/claim/cut.py" 373)], #[]⟩ : Obj)) ::
  (nat_lit 154, (⟨(.type "function"), none, .func (fnOf "_law_due_ties" "_law_due_ties" (defArgs s_l_due_ties) (defBody s_l_due_ties) (defScope s_l_due_ties) .none .none .none (.str "law_onceroad_k75_names_ties_and_lines" 314) none (.ref 153) .none), #[]⟩ : Obj)) ::
  (nat_lit 160, (⟨(.type "code"), none, .fields #[(.str "_law_due_words" 375), (.str "_law_due_words" 376), (.str "/claim/cut.py" 377), (.int 105 0), (.int 1 0), (.int 0 0), (.int 0 0), (.int 3 0), (.ref 155), (.bool true), (.int 181 0), (.ref 156), .none, (.ref 157), (.ref 158), (.ref 159), (.int 380 0), (.int 105 0), (.str "/claim/cut.py" 381)], #[]⟩ : Obj)) ::
  (nat_lit 161, (⟨(.type "function"), none, .func (fnOf "_law_due_words" "_law_due_words" (defArgs s_l_due_words) (defBody s_l_due_words) (defScope s_l_due_words) .none .none .none (.str "law_onceroad_k75_names_ties_and_lines" 314) none (.ref 160) .none), #[]⟩ : Obj)) ::
  (nat_lit 167, (⟨(.type "code"), none, .fields #[(.str "_law_read" 383), (.str "_law_read" 384), (.str "/claim/cut.py" 385), (.int 110 0), (.int 2 0), (.int 0 0), (.int 0 0), (.int 3 0), (.ref 162), (.bool true), (.int 181 0), (.ref 163), .none, (.ref 164), (.ref 165), (.ref 166), (.int 390 0), (.int 110 0), (.str "/claim/cut.py" 391)], #[]⟩ : Obj)) ::
  (nat_lit 168, (⟨(.type "function"), none, .func (fnOf "_law_read" "_law_read" (defArgs s_l_read) (defBody s_l_read) (defScope s_l_read) .none .none .none (.str "law_onceroad_k75_names_ties_and_lines" 314) none (.ref 167) .none), #[]⟩ : Obj)) ::
  (nat_lit 174, (⟨(.type "code"), none, .fields #[(.str "_law_reads_right" 393), (.str "_law_reads_right" 394), (.str "/claim/cut.py" 395), (.int 122 0), (.int 1 0), (.int 0 0), (.int 0 0), (.int 3 0), (.ref 169), (.bool true), (.int 181 0), (.ref 170), .none, (.ref 171), (.ref 172), (.ref 173), (.int 402 0), (.int 122 0), (.str "/claim/cut.py" 403)], #[]⟩ : Obj)) ::
  (nat_lit 175, (⟨(.type "function"), none, .func (fnOf "_law_reads_right" "_law_reads_right" (defArgs s_l_reads_right) (defBody s_l_reads_right) (defScope s_l_reads_right) .none .none .none (.str "law_onceroad_k75_names_ties_and_lines" 314) none (.ref 174) .none), #[]⟩ : Obj)) ::
  (nat_lit 181, (⟨(.type "code"), none, .fields #[(.str "_law_spoilt" 405), (.str "_law_spoilt" 406), (.str "/claim/cut.py" 407), (.int 135 0), (.int 4 0), (.int 0 0), (.int 0 0), (.int 3 0), (.ref 176), (.bool true), (.int 181 0), (.ref 177), .none, (.ref 178), (.ref 179), (.ref 180), (.int 414 0), (.int 135 0), (.str "/claim/cut.py" 415)], #[]⟩ : Obj)) ::
  (nat_lit 182, (⟨(.type "function"), none, .func (fnOf "_law_spoilt" "_law_spoilt" (defArgs s_l_spoilt) (defBody s_l_spoilt) (defScope s_l_spoilt) .none .none .none (.str "law_onceroad_k75_names_ties_and_lines" 314) none (.ref 181) .none), #[]⟩ : Obj)) ::
  (nat_lit 188, (⟨(.type "code"), none, .fields #[(.str "_law_written_right" 417), (.str "_law_written_right" 418), (.str "/claim/cut.py" 419), (.int 149 0), (.int 2 0), (.int 0 0), (.int 0 0), (.int 3 0), (.ref 183), (.bool true), (.int 181 0), (.ref 184), .none, (.ref 185), (.ref 186), (.ref 187), (.int 428 0), (.int 149 0), (.str "/claim/cut.py" 429)], #[]⟩ : Obj)) ::
  (nat_lit 189, (⟨(.type "function"), none, .func (fnOf "_law_written_right" "_law_written_right" (defArgs s_l_written_right) (defBody s_l_written_right) (defScope s_l_written_right) .none .none .none (.str "law_onceroad_k75_names_ties_and_lines" 314) none (.ref 188) .none), #[]⟩ : Obj)) ::
  (nat_lit 193, (⟨(.type "code"), none, .fields #[(.str "law" 431), (.str "law" 432), (.str "/claim/cut.py" 433), (.int 162 0), (.int 1 0), (.int 0 0), (.int 0 0), (.int 3 0), (.ref 190), (.bool true), (.int 181 0), (.ref 191), .none, .none, .none, (.ref 192), (.int 434 0), (.int 162 0), (.str "/claim/cut.py" 435)], #[]⟩ : Obj)) ::
  (nat_lit 194, (⟨(.type "function"), none, .func (fnOf "law" "law" (defArgs s_law) (defBody s_law) (defScope s_law) .none .none .none (.str "law_onceroad_k75_names_ties_and_lines" 314) none (.ref 193) .none), #[]⟩ : Obj)) ::
  []
def ks : List Addr := [2, 3, 27, 28, 30, 31, 47, 48, 50, 51, 57, 58, 64, 65, 69, 70, 76, 77, 81, 82, 86, 87, 93, 94, 100, 101, 105, 106, 110, 111, 117, 118, 124, 125, 129, 130, 134, 135, 141, 142, 146, 147, 153, 154, 160, 161, 167, 168, 174, 175, 181, 182, 188, 189, 193, 194]
theorem ks_eq : ∀ P, ks = (Kf P).map (·.1) := fun P => by kernel_rfl
noncomputable abbrev Hk : Hook := kHook Kf ks ks_eq
noncomputable abbrev Xt (s : Shared) : Bool := xlAt Q [] s && recOk [] s
noncomputable def runAt (w : World) (os : OsState) := Hd.lookT PySem.Challenge.pw_onceroad_k75_names_ties_and_lines Q Xt (fun s => ks.map s.heap.get?) NN w os
noncomputable def goodAt (w : World) (_ : OsState) := some (openGood Q [], (Kf w.params).map fun p => some p.2)
def tag {α : Type} (f g : World → OsState → α) : Bool := true
theorem tag1 : tag runAt goodAt = true := by k_qdec
theorem hl1 (w : World) (os : OsState) : runAt w os = goodAt w os := by
  rw [PySem.W.Fast.te4266645916058496230, PySem.W.Fast.te16840987990606096226]
  kernel_rfl
theorem hl : LeftO PySem.Challenge.pw_onceroad_k75_names_ties_and_lines Q [] Xt (Hook.obs Hk) (Hook.val Hk) NN := Hd.left_of (by kernel_rfl) (by decide) (fun s => by kernel_rfl) fun w os => hl1 w os
end K75
set_option maxRecDepth 100000 in
set_option maxHeartbeats 0 in
theorem PySem.Challenge.cw_onceroad_k75_names_ties_and_lines_holds : PySem.Challenge.rw_onceroad_k75_names_ties_and_lines.Holds := by
  w_on; o_law
  refine PySem.W.holds_open (q := K75.Q) (loose := []) (Xt := K75.Xt) (XP := PySem.W.XL K75.Q []) (Yf := PySem.W.Hook.obs K75.Hk) (Ya := PySem.W.Hook.val K75.Hk) (YP := PySem.W.Hook.says (PySem.W.kHook K75.Kf K75.ks K75.ks_eq)) (N := K75.NN) K75.hl (PySem.W.Hook.of K75.Hk) (PySem.W.Hook.keeps K75.Hk) (fun s e => PySem.W.xl_of s (Bool.and_eq_true_iff.mp e).1) PySem.W.XL.keeps (by rfl) (by rfl) (by rfl) (fun s e => PySem.W.recFacts_of (Bool.and_eq_true_iff.mp e).2) (by rfl) (by first | assumption | decide +kernel) (by decide +kernel) ⟨rfl, rfl, rfl, rfl, rfl, by decide +kernel⟩ ?hw ?hc
  (case hw => w_witness2)
  k_fill
  refine K75.walk (l := PySem.Challenge.rw_onceroad_k75_names_ties_and_lines) rfl rfl (fun w h Y => PySem.W.kIn_of Y) ?F
  case F =>
    intro w mg fa h KX G hmg
    refine' K75.all_mk KX G hmg ?_ ?_ ?_ ?_ ?_ ?_ ?_ ?_ ?_ ?_ ?_ ?_ ?_ ?_ ?_ ?_ ?_ ?_ ?_ ?_ ?_ ?_ ?_ ?_ ?_ ?_ ?_ ?_ ?_ ?_ ?_ ?_ ?_ ?_ ?_ ?_ ?_ ?_ ?_ ?_ ?_ ?_ ?_ ?_ ?_ ?_ ?_ ?_ ?_ ?_ ?_ ?_ ?_ ?_ ?_ ?_ ?_ ?_
    any_goals first | k_is | decide
    any_goals first | k_is | decide | exact ⟨_, _, by k_is, L2.fun_mk (by k_is) (by k_is) (by k_is)⟩ | exact ⟨_, _, by k_is, by k_is, L2.fun_mk (by k_is) (by k_is) (by k_is)⟩ | exact ⟨_, _, _, _, _, _, _, _, _, _, _, _, _, _, _, by k_is⟩ | exact ⟨by k_is, by k_is, by k_is, by k_is, by k_is, by k_is, by k_is, by k_is⟩ | fail
