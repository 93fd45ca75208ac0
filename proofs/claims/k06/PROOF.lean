import PyProof.Rows.All
import Wide.All
import OpenK.AllK
import Wide.FinOn
import PyProof.EqAt
import PyProof.EqKinds
import PyProof.TupleCall
import Lean
import PySem.Challenge.RW_onceroad_k06_web_texts_refused
set_option Elab.async false
set_option linter.all false
set_option maxRecDepth 100000
namespace L2
open PySem PySem.Spec PyProof.Rows
abbrev Key := Sum Int Str
def keyIs : Key → Value → Bool
  | .inl k, v => Value.isInt k v
  | .inr x, v => Value.isStrOf x v
def keyH (w : World) : Key → Int
  | .inl k => hashInt k
  | .inr x => hashStr w x
theorem keyIs_shape : ∀ {k : Key} {v : Value}, keyIs k v = true → (∃ i t, k = Sum.inl i ∧ v = Value.int i t) ∨ (∃ x t, k = Sum.inr x ∧ v = Value.str x t)
  | .inl i, v, h => by
    obtain ⟨t, e⟩ := Value.isInt_shape (k := i) (v := v) h
    exact .inl ⟨i, t, rfl, e⟩
  | .inr x, v, h => by
    obtain ⟨t, e⟩ := Value.isStrOf_shape (x := x) (v := v) h
    exact .inr ⟨x, t, rfl, e⟩
theorem keyIs_int (i : Int) (t : Tok) : keyIs (.inl i) (.int i t) = true := by simp [keyIs, Value.isInt]
theorem keyIs_str (x : Str) (t : Tok) : keyIs (.inr x) (.str x t) = true := by simp [keyIs, Value.isStrOf]
theorem key_ll (a b : Int) : decide ((Sum.inl a : Key) = Sum.inl b) = (a == b) := by
  by_cases e : a = b
  · subst e; simp
  · have h : ¬ (Sum.inl a : Key) = Sum.inl b := fun q => e (Sum.inl.inj q)
    rw [decide_eq_false h]
    exact (beq_eq_false_iff_ne.mpr e).symm
theorem key_rr (a b : Str) : decide ((Sum.inr a : Key) = Sum.inr b) = decide (a = b) := by
  by_cases e : a = b
  · subst e; simp
  · have h : ¬ (Sum.inr a : Key) = Sum.inr b := fun q => e (Sum.inr.inj q)
    rw [decide_eq_false h, decide_eq_false e]
theorem key_lr (a : Int) (b : Str) : decide ((Sum.inl a : Key) = Sum.inr b) = false := decide_eq_false (fun q => nomatch q)
theorem key_rl (a : Str) (b : Int) : decide ((Sum.inr a : Key) = Sum.inl b) = false := decide_eq_false (fun q => nomatch q)
def mixKind (prog : Program) (w : World) : PySem.KeyKind prog w Key where
  is := keyIs
  hash := keyH w
  inj := fun v a b ha hb => by
    rcases keyIs_shape ha with ⟨i, t, rfl, rfl⟩ | ⟨x, t, rfl, rfl⟩
    · rcases keyIs_shape hb with ⟨j, u, rfl, e⟩ | ⟨y, u, rfl, e⟩
      · injection e with e1 _; rw [e1]
      · exact nomatch e
    · rcases keyIs_shape hb with ⟨j, u, rfl, e⟩ | ⟨y, u, rfl, e⟩
      · exact nomatch e
      · injection e with e1 _; rw [e1]
  byValue := fun k v h => by
    rcases keyIs_shape h with ⟨i, t, rfl, rfl⟩ | ⟨x, t, rfl, rfl⟩ <;> rfl
  pyHash := fun hv h => by
    rcases keyIs_shape hv with ⟨i, t, rfl, rfl⟩ | ⟨x, t, rfl, rfl⟩
    · exact wpAny_pyHash_int h
    · exact wpAny_pyHash_str h
  eqBool := fun hu hv h => by
    rcases keyIs_shape hu with ⟨i, t, rfl, rfl⟩ | ⟨x, t, rfl, rfl⟩
    · rcases keyIs_shape hv with ⟨j, u, rfl, rfl⟩ | ⟨y, u, rfl, rfl⟩
      · rw [key_ll] at h; exact wpAny_eqBool_int h
      · rw [key_lr] at h; exact SeqAt.EqAt.int_str i t y u _ _ _ _ h
    · rcases keyIs_shape hv with ⟨j, u, rfl, rfl⟩ | ⟨y, u, rfl, rfl⟩
      · rw [key_rl] at h; exact SeqAt.EqAt.str_int x t j u _ _ _ _ h
      · rw [key_rr] at h; exact wpAny_eqBool_str h
  «strs» := fun k x t v h => by
    rcases keyIs_shape h with ⟨i, u, rfl, e⟩ | ⟨y, u, rfl, e⟩
    · exact nomatch e
    · injection e with e1 _
      subst e1
      cases v <;> rfl
theorem mixKind_int (prog : Program) (w : World) (i : Int) (t : Tok) : (mixKind prog w).is (.inl i) (.int i t) = true := keyIs_int i t
theorem mixKind_str (prog : Program) (w : World) (x : Str) (t : Tok) : (mixKind prog w).is (.inr x) (.str x t) = true := keyIs_str x t
end L2
namespace L2
open PySem PySem.Spec PyProof.Rows
inductive V where
  | non | bl (b : Bool) | int (i : Int) | str (x : Str) | byt (b : Array UInt8) | flt (b : UInt64) | ref (a : Addr) | ty (n : String)
  deriving DecidableEq
def RelV : V → Value → Prop
  | .non, u => u = Value.none
  | .bl b, u => u = Value.bool b
  | .int i, u => ∃ t, u = Value.int i t
  | .str x, u => ∃ t, u = Value.str x t
  | .byt b, u => ∃ t, u = Value.bytes b t
  | .flt b, u => ∃ t, u = Value.float b t
  | .ref a, u => u = Value.ref a
  | .ty n, u => u = Value.type n
abbrev Vals : List V → List Value → Prop := Paired RelV
theorem Vals.length {xs : List V} {us : List Value} (r : Vals xs us) : xs.length = us.length := Paired.length r
theorem Vals.get : ∀ {xs : List V} {us : List Value} {i : Nat} {x : V}, Vals xs us → xs[i]? = some x → ∃ u, us[i]? = some u ∧ RelV x u
  | _, _, _, _, .nil, e => by simp at e
  | _, _, 0, _, .cons r _, e => by simp at e; subst e; exact ⟨_, rfl, r⟩
  | _, _, i + 1, x, .cons _ t, e => by
    obtain ⟨u, h1, h2⟩ := Vals.get (i := i) (x := x) t (by simpa using e)
    exact ⟨u, by simpa using h1, h2⟩
theorem Vals.set {x : V} {u : Value} (r : RelV x u) : ∀ {xs : List V} {us : List Value} (i : Nat), Vals xs us → Vals (xs.set i x) (us.set i u)
  | _, _, _, .nil => .nil
  | _, _, 0, .cons _ t => .cons r t
  | _, _, i + 1, .cons q t => .cons q (Vals.set r i t)
theorem Vals.append : ∀ {xs ys : List V} {us ws : List Value}, Vals xs us → Vals ys ws → Vals (xs ++ ys) (us ++ ws)
  | _, _, _, _, .nil, s => s
  | _, _, _, _, .cons r t, s => .cons r (Vals.append t s)
theorem Vals.take : ∀ {xs : List V} {us : List Value} (n : Nat), Vals xs us → Vals (xs.take n) (us.take n)
  | _, _, 0, _ => .nil
  | _, _, _ + 1, .nil => .nil
  | _, _, n + 1, .cons r t => .cons r (Vals.take n t)
theorem Vals.drop : ∀ {xs : List V} {us : List Value} (n : Nat), Vals xs us → Vals (xs.drop n) (us.drop n)
  | _, _, 0, r => r
  | _, _, _ + 1, .nil => .nil
  | _, _, n + 1, .cons _ t => Vals.drop n t
def RelO : Option V → Option Value → Prop
  | some v, some u => RelV v u
  | none, none => True
  | _, _ => False
def KV {κ : Type} : List (κ × V) → List (κ × Value) → Prop := Paired fun (p : κ × V) (q : κ × Value) => p.1 = q.1 ∧ RelV p.2 q.2
def kV : Key → V
  | .inl i => .int i
  | .inr x => .str x
inductive HO where
  /-- a list -/
  | lst (xs : List V)
  /-- a tuple (never changes) -/
  | tup (xs : List V)
  /-- a dict whose keys are ints and texts; one whose keys are tuples of ints and texts (the empty one is both) -/
  | dK (kvs : List (Key × V)) | dT (kvs : List (List Key × V))
  /-- a set of ints: its members, its size -/
  | set (S : Int → Bool) (n : Nat)
  /-- an instance of the class at C, its dict at dx, its attributes -/
  | ins (C dx : Addr) (fs : List (Str × V))
  /-- the dict of the instance at x -/
  | own (x : Addr)
  /-- the dict of an exception -/
  | xd (fs : List (Str × V))
  /-- a bound method, f of x -/
  | met (f x : Addr)
  /-- a range object lo, lo + 1, .. below hi -/
  | rng (lo hi : Int)
  /-- a thing that is known to the object (the script; a dict while a loop walks it): read, never written while it is so -/
  | frz (o : Obj) (u : HO)
  /-- a code object's table -/
  | tbl (ps : Array Value)
  /-- any other thing, by what is true of its one object (a def of one's own: SetO a S n := HO.ext fun h => ..) -/
  | ext (φ : Heap → Prop)
abbrev Hp := Addr → Option HO
def upd (H : Hp) (a : Addr) (o : HO) : Hp := fun b => if b = a then some o else H b
theorem upd_same {H : Hp} {a : Addr} {o : HO} : upd H a o a = some o := by unfold upd; rw [if_pos rfl]
theorem upd_ne {H : Hp} {a b : Addr} {o : HO} (h : b ≠ a) : upd H a o b = H b := by unfold upd; rw [if_neg h]
theorem ne_of {H : Hp} {a b : Addr} {o u : HO} (h : H a = some o) (h' : H b = some u) (d : o ≠ u) : a ≠ b := by
  intro e; subst e; rw [h] at h'; exact d (Option.some.inj h')
theorem ne_of_none {H : Hp} {a b : Addr} {o : HO} (h : H a = some o) (h' : H b = none) : a ≠ b := by
  intro e; subst e; rw [h] at h'; cases h'
section
variable (P : Program) (w : World)
def ObjOk (H : Hp) (h : Heap) (a : Addr) : HO → Prop
  | .lst xs => xs.length ≤ sizeLine ∧ ∃ (its : List Value) (n : Nat), Vals xs its ∧ h.get? a = some { cls := .type "list", data := .seq its.toArray n }
  | .tup xs => xs.length ≤ sizeLine ∧ ∃ its : List Value, Vals xs its ∧ IsTup h a its.toArray
  | .dK kvs => kvs.length ≤ sizeLine ∧ (a == sysModules) = false ∧ ∃ vs, KV kvs vs ∧ h.DictOf (mixKind P w) a vs
  | .dT kvs => kvs.length ≤ sizeLine ∧ (a == sysModules) = false ∧ ∃ xs : List (List Key × Addr × Value),
      Paired (fun (p : List Key × V) (q : List Key × Addr × Value) => p.1 = q.1 ∧ H q.2.1 = some (.tup (p.1.map kV)) ∧ RelV p.2 q.2.2) kvs xs ∧
      ∃ o es ep, h.get? a = some o ∧ o.ExactDict ∧ o.data = .dict es ep ∧ es.toList = xs.map (entryOfKey (tupleKind (mixKind P w))) ∧ (xs.map (·.1)).Nodup
  | .set S n => h.SetOf (intKind P w) a S n
  | .ins C dx fs => H dx = some (.own a) ∧ fs.length ≤ 1000 ∧ dx ≠ a ∧ h.get? a = some (PySem.W.instObj C dx) ∧
      ∃ mA, h.Ns1 dx mA ∧ (∀ f, RelO (fs.lookup f) (mA f)) ∧ PySem.Within mA (fs.map (·.1))
  | .own _ => ∃ o, h.get? a = some o
  | .xd fs => ∃ mA, h.Ns1 a mA ∧ ∀ f, RelO (fs.lookup f) (mA f)
  | .rng lo hi => ∃ t u v, h.get? a = some { cls := .type "range", data := .fields #[.int lo t, .int hi u, .int 1 v] }
  | .frz o u => h.get? a = some o ∧ ObjOk H h a u
  | .tbl ps => h.get? a = some { cls := .none, data := .fields ps }
  | .met f x => h.get? a = some (PySem.W.methodObj (.ref f) (.ref x))
  | .ext φ => φ h ∧ (∃ o, h.get? a = some o) ∧ ∀ h1 h2 : Heap, φ h1 → (∀ o, h1.get? a = some o → h2.get? a = some o) → φ h2
def HOk (H : Hp) (h : Heap) : Prop := ∀ a o, H a = some o → ObjOk P w H h a o
end
section
variable {P : Program} {w : World} {H H' : Hp} {h h' : Heap} {a : Addr} {o : HO}
theorem ObjOk.lt (x : ObjOk P w H h a o) : a < h.objs.size := by
  cases o with
  | lst xs => obtain ⟨_, _, _, _, e⟩ := x; exact Heap.lt_size e
  | tup xs => obtain ⟨_, _, _, p⟩ := x; exact p.lt
  | dK kvs => obtain ⟨_, _, _, _, o, _, _, e, _⟩ := x; exact Heap.lt_size e
  | dT kvs => obtain ⟨_, _, _, _, o, _, _, e, _⟩ := x; exact Heap.lt_size e
  | set S n => obtain ⟨o, _, _, _, e, _⟩ := x; exact Heap.lt_size e
  | ins C dx fs => obtain ⟨_, _, _, e, _⟩ := x; exact Heap.lt_size e
  | own y => obtain ⟨_, e⟩ := x; exact Heap.lt_size e
  | xd fs => obtain ⟨_, ⟨_, _, _, e, _⟩, _⟩ := x; exact Heap.lt_size e
  | rng lo hi => obtain ⟨_, _, _, e⟩ := x; exact Heap.lt_size e
  | frz ob u => obtain ⟨e, _⟩ := x; exact Heap.lt_size e
  | tbl ps => exact Heap.lt_size (show h.get? a = some _ from x)
  | met f y => exact Heap.lt_size (show h.get? a = some _ from x)
  | ext φ => obtain ⟨_, ⟨_, e⟩, _⟩ := x; exact Heap.lt_size e
theorem Paired.mapP {α β : Type} {F G : α → β → Prop} : ∀ {l₁ : List α} {l₂ : List β}, Paired F l₁ l₂ → (∀ a b, F a b → G a b) → Paired G l₁ l₂
  | _, _, .nil, _ => .nil
  | _, _, .cons r t, f => .cons (f _ _ r) (Paired.mapP t f)
theorem ObjOk.stay (x : ObjOk P w H h a o) (k : ∀ b u, (b = a ∨ H b = some (.own a)) → h.get? b = some u → h'.get? b = some u)
    (ho : ∀ b, H b = some (.own a) → H' b = some (.own a)) (ht : ∀ b xs, H b = some (.tup xs) → H' b = some (.tup xs)) : ObjOk P w H' h' a o := by
  induction o with
  | lst xs => obtain ⟨z, its, n, r, e⟩ := x; exact ⟨z, its, n, r, k _ _ (.inl rfl) e⟩
  | tup xs => obtain ⟨z, its, r, ob, e, c⟩ := x; exact ⟨z, its, r, ob, k _ _ (.inl rfl) e, c⟩
  | dK kvs => obtain ⟨z, y, vs, r, ob, es, ep, e, c⟩ := x; exact ⟨z, y, vs, r, ob, es, ep, k _ _ (.inl rfl) e, c⟩
  | dT kvs =>
    obtain ⟨z, y, xs, r, ob, es, ep, e, c⟩ := x
    exact ⟨z, y, xs, Paired.mapP r fun p q z => ⟨z.1, ht _ _ z.2.1, z.2.2⟩, ob, es, ep, k _ _ (.inl rfl) e, c⟩
  | set S n => obtain ⟨ob, es, ep, t, e, c⟩ := x; exact ⟨ob, es, ep, t, k _ _ (.inl rfl) e, c⟩
  | ins C dx fs =>
    obtain ⟨d, z, ne, e, mA, ⟨od, es, ep, e2, c⟩, r⟩ := x
    exact ⟨ho _ d, z, ne, k _ _ (.inl rfl) e, mA, ⟨od, es, ep, k _ _ (.inr d) e2, c⟩, r⟩
  | own y => obtain ⟨ob, e⟩ := x; exact ⟨ob, k _ _ (.inl rfl) e⟩
  | xd fs => obtain ⟨mA, ⟨od, es, ep, e, c⟩, r⟩ := x; exact ⟨mA, ⟨od, es, ep, k _ _ (.inl rfl) e, c⟩, r⟩
  | rng lo hi => obtain ⟨t, u, v, e⟩ := x; exact ⟨t, u, v, k _ _ (.inl rfl) e⟩
  | frz ob u ih => obtain ⟨e, q⟩ := x; exact ⟨k _ _ (.inl rfl) e, ih q⟩
  | tbl ps =>
    have e : h.get? a = some { cls := .none, data := .fields ps } := x
    show h'.get? a = some { cls := .none, data := .fields ps }
    exact k a _ (.inl rfl) e
  | met f y =>
    have e : h.get? a = some (PySem.W.methodObj (.ref f) (.ref y)) := x
    show h'.get? a = some (PySem.W.methodObj (.ref f) (.ref y))
    exact k a _ (.inl rfl) e
  | ext φ => obtain ⟨p, ⟨o, e⟩, st⟩ := x; exact ⟨st _ _ p fun o q => k _ _ (.inl rfl) q, ⟨o, k _ _ (.inl rfl) e⟩, st⟩
theorem HOk.lt (x : HOk P w H h) (e : H a = some o) : a < h.objs.size := (x a o e).lt
theorem HOk.fresh (x : HOk P w H h) (e : h.objs.size ≤ a) : H a = none := by
  cases q : H a with
  | none => rfl
  | some u => exact absurd (Nat.lt_of_lt_of_le (x.lt q) e) (Nat.lt_irrefl _)
theorem HOk.kept (x : HOk P w H h) (k : ∀ b u, h.get? b = some u → h'.get? b = some u) : HOk P w H h' := fun a o e =>
  (x a o e).stay (fun b u _ q => k b u q) (fun _ q => q) fun _ _ q => q
theorem HOk.laid (x : HOk P w H h) (k : ∀ b u, h.get? b = some u → h'.get? b = some u) (hp : h.objs.size ≤ a) (new : ObjOk P w (upd H a o) h' a o) : HOk P w (upd H a o) h' := fun b u e => by
  have hn := x.fresh hp
  by_cases hb : b = a
  · subst hb; rw [upd_same] at e; cases e; exact new
  · rw [upd_ne hb] at e
    exact (x b u e).stay (fun c v _ q => k c v q) (fun c q => by rw [upd_ne (ne_of_none q hn)]; exact q) fun c xs q => by rw [upd_ne (ne_of_none q hn)]; exact q
end
def Rd (H : Hp) (a : Addr) (u : HO) : Prop := H a = some u ∨ ∃ o, H a = some (.frz o u)
theorem Rd.ok {P : Program} {w : World} {H : Hp} {h : Heap} {a : Addr} {u : HO} (r : Rd H a u) (x : HOk P w H h) : ObjOk P w H h a u := by
  rcases r with r | ⟨o, r⟩
  · exact x a u r
  · obtain ⟨_, q⟩ := x a _ r
    exact q
def Mut : Option HO → Prop
  | some (.lst _) => True
  | some (.dK _) => True
  | some (.dT _) => True
  | some (.set _ _) => True
  | some (.ins _ _ _) => True
  | some (.ext _) => True
  | _ => False
section
variable {P : Program} {w : World} {H : Hp} {h h' : Heap} {x e : Addr} {o' : HO}
theorem HOk.write (ok : HOk P w H h) (mu : Mut (H x)) (he : e = x ∨ H e = some (.own x)) (k : ∀ b u, b ≠ e → h.get? b = some u → h'.get? b = some u) (heo : ∃ u, h'.get? e = some u)
    (new : ObjOk P w (upd H x o') h' x o') : HOk P w (upd H x o') h' := fun b u q => by
  have nown : ∀ c y, H c = some (.own y) → c ≠ x := fun c y r z => by subst z; rw [r] at mu; exact mu
  have ntup : ∀ c xs, H c = some (.tup xs) → c ≠ x := fun c xs r z => by subst z; rw [r] at mu; exact mu
  by_cases hb : b = x
  · subst hb; rw [upd_same] at q; cases q; exact new
  · rw [upd_ne hb] at q
    by_cases hbe : b = e
    · have q' : H b = some (.own x) := by
        rcases he with z | z
        · exact absurd (hbe.trans z) hb
        · rw [hbe]; exact z
      rw [q] at q'; cases q'
      obtain ⟨v, hv⟩ := heo
      exact ⟨v, by rw [hbe]; exact hv⟩
    · refine (ok b u q).stay (fun c v hc r => k c v ?_ r) (fun c r => by rw [upd_ne (nown c b r)]; exact r) fun c xs r => by rw [upd_ne (ntup c xs r)]; exact r
      rcases hc with rfl | hc
      · exact hbe
      · rintro rfl
        rcases he with z | z
        · exact nown c b hc z
        · rw [hc] at z; cases z; exact hb rfl
end
structure Un (fs ex : List Addr) (H H' : Hp) (h h' : Heap) : Prop where
  keep : ∀ b o, h.get? b = some o → H b = none → b ∉ fs → b ∉ ex → h'.get? b = some o
  slot : ∀ b o, h.get? b = some o → H b = none → b ∈ fs → b ∉ ex → ∃ sl, h'.get? b = some { o with slots := sl }
  free : ∀ b o, h.get? b = some o → H b = none → b ∉ ex → H' b = none
  there : ∀ b o, h.get? b = some o → b ∉ ex → ∃ o', h'.get? b = some o'
  tups : ∀ b xs, H b = some (.tup xs) → H' b = some (.tup xs)
  frzs : ∀ b o u, H b = some (.frz o u) → H' b = some (.frz o u)
  tbls : ∀ b ps, H b = some (.tbl ps) → ∃ more, H' b = some (.tbl (ps ++ more))
section
variable {fs fs' ex ex' : List Addr} {H H1 H2 : Hp} {h h1 h2 h' : Heap} {a x e : Addr} {o : HO}
theorem Un.any (u : Un fs ex H H1 h h1) {b : Addr} {ob : Obj} (q : h.get? b = some ob) (n : H b = none) (hx : b ∉ ex) : ∃ sl, h1.get? b = some { ob with slots := sl } := by
  by_cases hb : b ∈ fs
  · exact u.slot b ob q n hb hx
  · exact ⟨ob.slots, u.keep b ob q n hb hx⟩
theorem Un.kept (k : ∀ b u, h.get? b = some u → h'.get? b = some u) : Un fs ex H H h h' :=
  ⟨fun b ob q _ _ _ => k b ob q, fun b ob q _ _ _ => ⟨ob.slots, k b ob q⟩, fun _ _ _ n _ => n, fun b ob q _ => ⟨ob, k b ob q⟩, fun _ _ q => q, fun _ _ _ q => q, fun _ ps q => ⟨#[], by rw [q]; simp⟩⟩
theorem Un.refl : Un fs ex H H h h := Un.kept fun _ _ q => q
theorem Un.laid (k : ∀ b u, h.get? b = some u → h'.get? b = some u) (hp : h.objs.size ≤ a) (hn : H a = none) : Un fs ex H (upd H a o) h h' where
  keep := fun b u q _ _ _ => k b u q
  slot := fun b u q _ _ _ => ⟨u.slots, k b u q⟩
  free := fun b u q n _ => by rw [upd_ne (Nat.ne_of_lt (Nat.lt_of_lt_of_le (Heap.lt_size q) hp))]; exact n
  there := fun b u q _ => ⟨u, k b u q⟩
  tups := fun b xs q => by rw [upd_ne (ne_of_none q hn)]; exact q
  frzs := fun b u xs q => by rw [upd_ne (ne_of_none q hn)]; exact q
  tbls := fun b ps q => ⟨#[], by rw [upd_ne (ne_of_none q hn), q]; simp⟩
theorem Un.write (mu : Mut (H x)) (he : e = x ∨ H e = some (.own x)) (k : ∀ b u, b ≠ e → h.get? b = some u → h'.get? b = some u) (heo : ∃ u, h'.get? e = some u) : Un fs ex H (upd H x o) h h' := by
  have hx : ∀ b, H b = none → b ≠ x := fun b n z => by subst z; rw [n] at mu; exact mu
  have hb : ∀ b, H b = none → b ≠ e := fun b n z => by
    subst z
    rcases he with r | r
    · exact hx b n r
    · rw [n] at r; cases r
  have hm : ∀ b u, H b = some u → ¬ Mut (some u) → b ≠ x := fun b u q nm z => by subst z; rw [q] at mu; exact nm mu
  refine ⟨fun b u q n _ _ => k b u (hb b n) q, fun b u q n _ _ => ⟨u.slots, k b u (hb b n) q⟩, fun b u q n _ => by rw [upd_ne (hx b n)]; exact n, fun b u q _ => ?_,
    fun b xs q => by rw [upd_ne (hm b _ q fun z => z)]; exact q, fun b u xs q => by rw [upd_ne (hm b _ q fun z => z)]; exact q, fun b ps q => ⟨#[], by rw [upd_ne (hm b _ q fun z => z), q]; simp⟩⟩
  by_cases hbe : b = e
  · subst hbe; exact heo
  · exact ⟨u, k b u hbe q⟩
end
def trk (h : Heap) (H : Hp) : List Addr := (List.range h.objs.size).filter fun a => (H a).isSome
def hidT (h : Heap) (H : Hp) : Heap := PySem.W.hideAll h (trk h H)
theorem hidT_size (h : Heap) (H : Hp) : (hidT h H).objs.size = h.objs.size := PySem.W.hideAll_size _ _
theorem hidT_get {h : Heap} {H : Hp} {b : Addr} {o : Obj} (e : h.get? b = some o) (n : H b = none) : (hidT h H).get? b = some o :=
  PySem.W.hideAll_get _ e fun hm => by
    have q : (H b).isSome = true := (List.mem_filter.mp hm).2
    rw [n] at q; simp at q
theorem of_hidT {h : Heap} {H : Hp} {b : Addr} {o : Obj} (e : (hidT h H).get? b = some o) : h.get? b = some o ∧ H b = none := by
  have e' : h.get? b = some o := PySem.W.of_hideAll (trk h H) e
  refine ⟨e', ?_⟩
  cases q : H b with
  | none => rfl
  | some x =>
    have hm : b ∈ trk h H := List.mem_filter.mpr ⟨List.mem_range.mpr (Heap.lt_size e'), by simp [q]⟩
    have z : (hidT h H).get? b = none := PySem.W.hideAll_none (trk h H) hm
    rw [z] at e; cases e
def allNews (g h : Heap) (L : Addr) : List (Addr × Obj) := (List.range h.objs.size).filterMap fun a => if a = L ∨ (g.get? a).isSome = true then none else (h.get? a).map fun o => (a, o)
def rest (g h : Heap) (L d : Addr) : List (Addr × Obj) := (allNews g h L).filter fun p => decide (p.1 ≠ d)
end L2
namespace L2
open PySem PySem.Spec PyProof.Rows
structure Mod (K : PySem.W.Frag) (mg : Str → Option Value) (base : Heap) : Prop where
  kin : K.In base
  glob : base.Ns mainGlobals mg
  blt : ∃ mb, base.Ns builtinsNs mb ∧ ∀ x : Str, x ≠ "__name__" → mb x = bootBuiltins x
  nolimit : base.NoLimit
structure Cx where
  prog : Program
  w : World
  K : PySem.W.Frag
  mg : Str → Option Value
  base : Heap
  A : Around
  N : List Str
  s₀ : Shared
  H₀ : Hp
  env : Env
  outer : List Env
  stack : List Env
  ex : List Addr
  fn : Str → Bool
  calm : Bool
  pn : List (Addr × Obj)
  xe : Value → Shared → Prop
def frs (l : List Env) : List Addr := l.filterMap (·.frame)
abbrev Cx.fs (X : Cx) : List Addr := frs X.outer
def Vis (sc : Scope) (x : Str) : Prop := sc.names.lookup x = some .local ∨ sc.names.lookup x = some .cell ∨ sc.names.lookup x = some .free
def Loc (sc : Scope) (x : Str) : Prop := sc.names.lookup x = some .local ∨ sc.names.lookup x = some .cell
def Look (env : Env) (h : Heap) (m : Str → Option Value) (x : Str) (u : Value) : Prop :=
  (env.kindOf x = some .local ∧ m x = some u) ∨ ((env.kindOf x = some .cell ∨ env.kindOf x = some .free) ∧ ∃ c, env.cells.lookup x = some c ∧ h.IsCell c (some u))
structure Cx.Ok (X : Cx) : Prop where
  mod : Mod X.K X.mg X.base
  kind : X.env.scope.kind = .function
  glob : X.env.globals = mainGlobals
  blt : X.env.builtins = builtinsNs
  above : X.s₀.heap.objs.size ≤ X.env.locals
  inj : ∀ x y c, X.env.cells.lookup x = some c → X.env.cells.lookup y = some c → x = y
  has : ∀ x, (X.env.kindOf x = some .cell ∨ X.env.kindOf x = some .free) → ∃ c, X.env.cells.lookup x = some c
  cab : ∀ x c, X.fn x = true → X.env.cells.lookup x = some c → X.s₀.heap.objs.size ≤ c
  hd : X.calm = true → X.A.handled = none
  frames : X.A.frames = some X.stack
  stk : X.stack = X.outer ∨ (X.stack = X.env :: X.outer ∧ X.env.frame = some X.env.locals)
  exf : ∀ b ∈ X.ex, b ≠ X.env.locals ∧ ∀ x c, X.env.cells.lookup x = some c → c ≠ b
  bs : ∀ b o, X.base.get? b = some o → X.s₀.heap.get? b = some o ∧ X.H₀ b = none
  bsz : X.base.objs.size ≤ X.s₀.heap.objs.size
  noex : ∀ b o, X.base.get? b = some o → b ∉ X.ex
  exfs : ∀ b ∈ X.ex, b ∉ X.fs
  funs : X.s₀.heap.FunFrames X.base X.outer
  frf : ∀ b ∈ X.fs, X.H₀ b = none
structure Inv (X : Cx) (pins : List (Addr × Obj)) (σ : List (Option V)) (H : Hp) (s : Shared) : Prop where
  ok : X.Ok
  os : s.os = X.s₀.os
  bare : AllBare s.gens
  base : Un X.fs X.ex X.H₀ H X.s₀.heap s.heap
  loc : ∃ m, s.heap.Ns X.env.locals m ∧ ∀ (i : Nat) (x : Str) (v : V), X.N[i]? = some x → σ[i]? = some (some v) → Vis X.env.scope x → ∃ u, RelV v u ∧ Look X.env s.heap m x u
  cell : ∀ x c, X.env.cells.lookup x = some c → ∃ v, s.heap.IsCell c v
  free : H X.env.locals = none
  freeC : ∀ x c, X.env.cells.lookup x = some c → H c = none
  pin : ∀ p ∈ X.pn ++ pins, s.heap.get? p.1 = some p.2 ∧ H p.1 = none ∧ p.1 ≠ X.env.locals ∧ p.1 ∉ X.fs ∧ ∀ v, p.2.data ≠ .cell v
  hok : HOk X.prog X.w H s.heap
  len : σ.length = X.N.length
section
variable {X : Cx} {pins : List (Addr × Obj)} {σ : List (Option V)} {H H' : Hp} {s : Shared} {h' : Heap}
theorem Cx.Ok.nofr (ok : X.Ok) {b : Addr} {o : Obj} (e : X.base.get? b = some o) : b ∉ X.fs := fun hb => by
  have := (ok.funs.mem hb).1
  rw [e] at this; cases this
theorem Inv.bs (I : Inv X pins σ H s) : ∀ b o, X.base.get? b = some o → s.heap.get? b = some o ∧ H b = none := fun b o e =>
  ⟨I.base.keep b o (I.ok.bs b o e).1 (I.ok.bs b o e).2 (I.ok.nofr e) (I.ok.noex b o e), I.base.free b o (I.ok.bs b o e).1 (I.ok.bs b o e).2 (I.ok.noex b o e)⟩
theorem Inv.bk (I : Inv X pins σ H s) : ∀ b o, X.base.get? b = some o → s.heap.get? b = some o := fun b o e => (I.bs b o e).1
theorem Inv.mod (I : Inv X pins σ H s) : Mod X.K X.mg X.base := I.ok.mod
theorem Inv.kIn (I : Inv X pins σ H s) : X.K.In s.heap := I.ok.mod.kin.keeps I.bk
theorem Inv.lt (I : Inv X pins σ H s) : X.env.locals < s.heap.objs.size := let ⟨_, hn, _⟩ := I.loc; hn.lt
theorem Inv.sz (I : Inv X pins σ H s) : X.s₀.heap.objs.size ≤ s.heap.objs.size := Nat.le_trans I.ok.above (Nat.le_of_lt I.lt)
theorem Inv.nofs (I : Inv X pins σ H s) {a : Addr} (h : s.heap.objs.size ≤ a) : a ∉ X.fs := fun hb => by
  obtain ⟨_, o, ho, _⟩ := I.ok.funs.mem hb
  exact absurd (Nat.lt_of_lt_of_le (Heap.lt_size ho) (Nat.le_trans I.sz h)) (Nat.lt_irrefl _)
theorem Inv.cne (I : Inv X pins σ H s) : ∀ x c, X.env.cells.lookup x = some c → c ≠ X.env.locals := fun x c e z => by
  obtain ⟨v, o, ho, hd⟩ := I.cell x c e
  obtain ⟨m, ⟨o', es, ep, ho', hd', _⟩, _⟩ := I.loc
  rw [z, ho'] at ho; cases ho; rw [hd'] at hd; cases hd
theorem Inv.funs (I : Inv X pins σ H s) : s.heap.FunFrames X.base X.outer := by
  have all : ∀ (l : List Env), (∀ b ∈ frs l, b ∈ X.fs) → X.s₀.heap.FunFrames X.base l → s.heap.FunFrames X.base l := by
    intro l
    induction l with
    | nil => intro _ _; trivial
    | cons env r ih =>
      intro hs hl
      obtain ⟨hk, ⟨L, o, hf, hn, ho, hd⟩, hr⟩ := hl
      have hL : L ∈ X.fs := hs L (by unfold frs; rw [List.filterMap_cons, hf]; exact List.mem_cons_self)
      obtain ⟨sl, e⟩ := I.base.slot L o ho (I.ok.frf L hL) hL fun z => I.ok.exfs L z hL
      exact ⟨hk, ⟨L, _, hf, hn, e, hd⟩, ih (fun b hb => hs b (by unfold frs; rw [List.filterMap_cons, hf]; exact List.mem_cons_of_mem _ hb)) hr⟩
  exact all X.outer (fun _ hb => hb) I.ok.funs
theorem Inv.stack (I : Inv X pins σ H s) : s.heap.FunFrames X.base X.stack := by
  rcases I.ok.stk with e | ⟨e, hf⟩
  · rw [e]; exact I.funs
  · rw [e]
    obtain ⟨m, hn, _⟩ := I.loc
    refine .cons (by rw [I.ok.kind]; decide) hf hn ?_ I.funs
    exact Heap.get?_none_of_le (Nat.le_trans I.ok.bsz I.ok.above)
theorem Inv.stkSub (I : Inv X pins σ H s) : ∀ b ∈ frs X.stack, b ∈ X.env.locals :: X.fs := fun b hb => by
  rcases I.ok.stk with e | ⟨e, hf⟩
  · rw [e] at hb; exact List.mem_cons_of_mem _ hb
  · rw [e] at hb
    unfold frs at hb
    rw [List.filterMap_cons, hf] at hb
    exact hb
theorem Inv.stkFree (I : Inv X pins σ H s) : ∀ b ∈ frs X.stack, H b = none := fun b hb => by
  rcases List.mem_cons.mp (I.stkSub b hb) with e | hb
  · rw [e]; exact I.free
  · obtain ⟨_, o, ho, _⟩ := I.ok.funs.mem hb
    exact I.base.free b o ho (I.ok.frf b hb) fun z => I.ok.exfs b z hb
theorem Inv.step {g' : Array GenState} {t' : Nat} {d' : Drawn} {ch : List Addr} (I : Inv X pins σ H s)
    (hch : ∀ b ∈ ch, (b ∈ X.ex ∨ X.s₀.heap.objs.size ≤ b) ∧ b ≠ X.env.locals ∧ (∀ x c, X.env.cells.lookup x = some c → c ≠ b) ∧ ∀ p ∈ X.pn ++ pins, p.1 ≠ b)
    (keep : ∀ b o, b ≠ X.env.locals → b ∉ X.fs → b ∉ ch → s.heap.get? b = some o → H b = none → h'.get? b = some o)
    (slot : ∀ b o, b ≠ X.env.locals → b ∈ X.fs → b ∉ ch → s.heap.get? b = some o → H b = none → ∃ sl, h'.get? b = some { o with slots := sl }) (free : ∀ b o, b ∉ ch → s.heap.get? b = some o → H b = none → H' b = none)
    (there : ∀ b o, b ∉ ch → s.heap.get? b = some o → ∃ o', h'.get? b = some o')
    (tups : ∀ b xs, H b = some (.tup xs) → H' b = some (.tup xs)) (frzs : ∀ b o u, H b = some (.frz o u) → H' b = some (.frz o u)) (tbls : ∀ b ps, H b = some (.tbl ps) → ∃ more, H' b = some (.tbl (ps ++ more)))
    (ns : ∀ m, s.heap.Ns X.env.locals m → h'.Ns X.env.locals m) (hok : HOk X.prog X.w H' h') (hg : AllBare g') :
    Inv X pins σ H' { s with heap := h', gens := g', drawn := d', toks := t' } := by
  have neL : ∀ b o, X.s₀.heap.get? b = some o → b ≠ X.env.locals := fun b o e => Nat.ne_of_lt (Nat.lt_of_lt_of_le (Heap.lt_size e) I.ok.above)
  have neC : ∀ b o, X.s₀.heap.get? b = some o → b ∉ X.ex → b ∉ ch := fun b o e hx hb => by
    rcases (hch b hb).1 with z | z
    · exact hx z
    · exact absurd (Nat.lt_of_lt_of_le (Heap.lt_size e) z) (Nat.lt_irrefl _)
  have cellK : ∀ x c, X.env.cells.lookup x = some c → ∀ v, s.heap.IsCell c v → h'.IsCell c v := fun x c e v ⟨o, ho, hd⟩ => by
    have nch : c ∉ ch := fun z => (hch c z).2.2.1 x c e rfl
    by_cases hc : c ∈ X.fs
    · obtain ⟨sl, q⟩ := slot c o (I.cne x c e) hc nch ho (I.freeC x c e)
      exact ⟨_, q, hd⟩
    · exact ⟨o, keep c o (I.cne x c e) hc nch ho (I.freeC x c e), hd⟩
  refine ⟨I.ok, I.os, hg, ⟨fun b o e n hb hx => ?_, fun b o e n hb hx => ?_, fun b o e n hx => ?_, fun b o e hx => ?_, fun b xs e => tups b xs (I.base.tups b xs e), fun b o xs e => frzs b o xs (I.base.frzs b o xs e), fun b ps e => ?_⟩, ?_, fun x c e => ?_, ?_, fun x c e => ?_, fun p hp => ?_, hok, I.len⟩
  · exact keep b o (neL b o e) hb (neC b o e hx) (I.base.keep b o e n hb hx) (I.base.free b o e n hx)
  · obtain ⟨sl, e1⟩ := I.base.slot b o e n hb hx
    obtain ⟨sl', e2⟩ := slot b _ (neL b o e) hb (neC b o e hx) e1 (I.base.free b o e n hx)
    exact ⟨sl', e2⟩
  · obtain ⟨o', e1⟩ := I.base.there b o e hx
    exact free b o' (neC b o e hx) e1 (I.base.free b o e n hx)
  · obtain ⟨o', e1⟩ := I.base.there b o e hx
    exact there b o' (neC b o e hx) e1
  · obtain ⟨m1, e1⟩ := I.base.tbls b ps e
    obtain ⟨m2, e2⟩ := tbls b _ e1
    exact ⟨m1 ++ m2, by rw [e2, Array.append_assoc]⟩
  · obtain ⟨m, hn, hl⟩ := I.loc
    refine ⟨m, ns m hn, fun i x v e1 e2 e3 => ?_⟩
    obtain ⟨u, r, l⟩ := hl i x v e1 e2 e3
    refine ⟨u, r, ?_⟩
    rcases l with l | ⟨k, c, e, z⟩
    · exact .inl l
    · exact .inr ⟨k, c, e, cellK x c e _ z⟩
  · obtain ⟨v, z⟩ := I.cell x c e
    exact ⟨v, cellK x c e v z⟩
  · obtain ⟨m, ⟨o, _, _, ho, _⟩, _⟩ := I.loc
    exact free _ o (fun z => (hch _ z).2.1 rfl) ho I.free
  · obtain ⟨v, o, ho, hd⟩ := I.cell x c e
    exact free c o (fun z => (hch c z).2.2.1 x c e rfl) ho (I.freeC x c e)
  · obtain ⟨e, n, ne, nf, d⟩ := I.pin p hp
    have nch : p.1 ∉ ch := fun z => (hch p.1 z).2.2.2 p hp rfl
    exact ⟨keep p.1 p.2 ne nf nch e n, free p.1 p.2 nch e n, ne, nf, d⟩
theorem Inv.un {t' : Nat} (I : Inv X pins σ H s) (u : Un X.fs [] H H' s.heap h') (hok : HOk X.prog X.w H' h') : Inv X pins σ H' { s with heap := h', toks := t' } := by
  obtain ⟨m, ⟨o, es, ep, ho, r⟩, _⟩ := id I.loc
  obtain ⟨sl, hL⟩ := u.any ho I.free (by simp)
  exact I.step (g' := s.gens) (d' := s.drawn) (ch := []) (fun _ z => nomatch z) (fun b o _ hb _ e n => u.keep b o e n hb (by simp)) (fun b o _ hb _ e n => u.slot b o e n hb (by simp)) (fun b o _ e n => u.free b o e n (by simp)) (fun b o _ e => u.there b o e (by simp)) u.tups u.frzs u.tbls (fun m' hm => by
    obtain ⟨o', es', ep', ho', r'⟩ := hm
    rw [ho] at ho'; cases ho'
    exact ⟨_, es', ep', hL, r'⟩) hok I.bare
theorem Inv.call {g' : Array GenState} {t' : Nat} {d' : Drawn} {ch : List Addr} (I : Inv X pins σ H s) (u : Un (frs X.stack) ch H H' s.heap h') (hok : HOk X.prog X.w H' h') (hg : AllBare g')
    (hch : ∀ b ∈ ch, (b ∈ X.ex ∨ X.s₀.heap.objs.size ≤ b) ∧ b ≠ X.env.locals ∧ (∀ x c, X.env.cells.lookup x = some c → c ≠ b) ∧ ∀ p ∈ X.pn ++ pins, p.1 ≠ b) :
    Inv X pins σ H' { s with heap := h', gens := g', drawn := d', toks := t' } := by
  obtain ⟨m, ⟨o, es, ep, ho, r⟩, _⟩ := id I.loc
  obtain ⟨sl, hL⟩ := u.any ho I.free fun z => (hch _ z).2.1 rfl
  exact I.step (ch := ch) hch (fun b o hL hb hc e n => u.keep b o e n (fun z => (List.mem_cons.mp (I.stkSub b z)).elim hL hb) hc) (fun b o _ _ hc e n => u.any e n hc) (fun b o hc e n => u.free b o e n hc) (fun b o hc e => u.there b o e hc) u.tups u.frzs u.tbls (fun m' hm => by
    obtain ⟨o', es', ep', ho', r'⟩ := hm
    rw [ho] at ho'; cases ho'
    exact ⟨_, es', ep', hL, r'⟩) hok hg
theorem Inv.turned {t' : Nat} {it : Addr} (I : Inv X pins σ H s) (k : ∀ b o, b ≠ it → s.heap.get? b = some o → h'.get? b = some o) (hn : H it = none) (hL : it ≠ X.env.locals)
    (h1 : it ∈ X.ex ∨ X.s₀.heap.objs.size ≤ it) (h2 : ∀ x c, X.env.cells.lookup x = some c → c ≠ it) (h3 : ∀ p ∈ X.pn ++ pins, p.1 ≠ it) : Inv X pins σ H { s with heap := h', toks := t' } := by
  have nit : ∀ b u, H b = some u → b ≠ it := fun b u e z => by rw [z, hn] at e; cases e
  refine I.step (g' := s.gens) (d' := s.drawn) (ch := [it]) (fun b hb => ?_) (fun b o _ _ hc e _ => k b o (fun z => hc (by simp [z])) e) (fun b o _ _ hc e _ => ⟨o.slots, k b o (fun z => hc (by simp [z])) e⟩) (fun _ _ _ _ n => n)
    (fun b o hc e => ⟨o, k b o (fun z => hc (by simp [z])) e⟩) (fun _ _ e => e) (fun _ _ _ e => e) (fun b ps e => ⟨#[], by rw [e]; simp⟩) (fun m hm => ?_) (fun b u e => ?_) I.bare
  · have e : b = it := by simpa using hb
    subst e
    exact ⟨h1, hL, h2, h3⟩
  · obtain ⟨o, es, ep, ho, r⟩ := hm
    exact ⟨o, es, ep, k _ o (Ne.symm hL) ho, r⟩
  · refine (I.hok b u e).stay (fun c v hc q => k c v ?_ q) (fun _ q => q) fun _ _ q => q
    rcases hc with z | z
    · rw [z]; exact nit b u e
    · exact nit c _ z
theorem Inv.tok (I : Inv X pins σ H s) (t : Nat) : Inv X pins σ H { s with toks := t } := I.un (h' := s.heap) (t' := t) Un.refl I.hok
theorem Inv.kept {t' : Nat} (I : Inv X pins σ H s) (k : ∀ b u, s.heap.get? b = some u → h'.get? b = some u) : Inv X pins σ H { s with heap := h', toks := t' } := I.un (Un.kept k) (I.hok.kept k)
theorem Inv.laid {a : Addr} {o : HO} {t' : Nat} (I : Inv X pins σ H s) (k : ∀ b u, s.heap.get? b = some u → h'.get? b = some u) (hp : s.heap.objs.size ≤ a) (new : ObjOk X.prog X.w (upd H a o) h' a o) :
    Inv X pins σ (upd H a o) { s with heap := h', toks := t' } := I.un (Un.laid k hp (I.hok.fresh hp)) (I.hok.laid k hp new)
theorem Inv.write {x e : Addr} {o : HO} {t' : Nat} (I : Inv X pins σ H s) (mu : Mut (H x)) (he : e = x ∨ H e = some (.own x)) (k : ∀ b u, b ≠ e → s.heap.get? b = some u → h'.get? b = some u) (heo : ∃ u, h'.get? e = some u)
    (new : ObjOk X.prog X.w (upd H x o) h' x o) : Inv X pins σ (upd H x o) { s with heap := h', toks := t' } := I.un (Un.write mu he k heo) (I.hok.write mu he k heo new)
theorem Inv.weak {σ' : List (Option V)} (I : Inv X pins σ H s) (hl : σ'.length = σ.length) (w : ∀ (i : Nat) v, σ'[i]? = some (some v) → σ[i]? = some (some v)) : Inv X pins σ' H s :=
  ⟨I.ok, I.os, I.bare, I.base, let ⟨m, hn, hl'⟩ := I.loc; ⟨m, hn, fun i x v e1 e2 e3 => hl' i x v e1 (w i v e2) e3⟩, I.cell, I.free, I.freeC, I.pin, I.hok, hl.trans I.len⟩
theorem Inv.pins_of {pins' : List (Addr × Obj)} (I : Inv X pins σ H s) (h : ∀ p ∈ pins', s.heap.get? p.1 = some p.2 ∧ H p.1 = none ∧ p.1 ≠ X.env.locals ∧ p.1 ∉ X.fs ∧ ∀ v, p.2.data ≠ .cell v) : Inv X pins' σ H s :=
  ⟨I.ok, I.os, I.bare, I.base, I.loc, I.cell, I.free, I.freeC, fun p hp => (List.mem_append.mp hp).elim (fun z => I.pin p (List.mem_append_left _ z)) (h p), I.hok, I.len⟩
theorem nodup_ix {N : List Str} (hN : N.Nodup) {i j : Nat} {x : Str} (a : N[i]? = some x) (b : N[j]? = some x) : i = j := by
  obtain ⟨h1, e1⟩ := List.getElem?_eq_some_iff.mp a
  obtain ⟨h2, e2⟩ := List.getElem?_eq_some_iff.mp b
  exact (List.getElem_inj hN).mp (e1.trans e2.symm)
theorem store_ok2 {M : Model} {A : Around} {E : Value → Shared → Prop} {i : Nat} {x : Str} {v : V} {u : Value} {Q : Unit → Shared → Prop} (I : Inv X pins σ H s) (hN : X.N.Nodup) (hi : X.N[i]? = some x) (hx : Loc X.env.scope x) (r : RelV v u)
    (h : ∀ s', Inv X pins (σ.set i (some v)) H s' → (∃ a, Heap.SameBut a s.heap s'.heap ∧ (a = X.env.locals ∨ X.env.cells.lookup x = some a)) → Q () s') (hf : X.fn x = true ∨ X.env.scope.names.lookup x = some .local := by first | exact .inl rfl | exact .inr rfl | assumption) : wpAny M A (storeName X.env x u) Q E s := by
  obtain ⟨m, hn, hl⟩ := id I.loc
  have hcls : (X.env.scope.kind == .class || (X.env.scope.kind == .module && X.env.locals != X.env.globals)) = false := by rw [I.ok.kind]; rfl
  have hiσ : i < σ.length := by rw [I.len]; exact (List.getElem?_eq_some_iff.mp hi).1
  have cne := I.cne
  have tracked : ∀ {a : Addr} {h' : Heap}, (∃ o, s.heap.get? a = some o ∧ H a = none) → Heap.SameBut a s.heap h' → HOk X.prog X.w H h' := fun {a h'} ha hs b ob e => by
    obtain ⟨_, _, hfree⟩ := ha
    refine (I.hok b ob e).stay (fun c w' hc q => (hs.2 c ?_).trans q) (fun _ q => q) fun _ _ q => q
    rintro rfl
    rcases hc with rfl | hc
    · rw [hfree] at e; cases e
    · rw [hfree] at hc; cases hc
  rcases hx with hk | hk
  · refine wpAny_storeName_local hk hn (fun h' hn' hs => ?_) hcls
    obtain ⟨oL, _, _, hoL, _⟩ := id hn
    refine h _ ⟨I.ok, I.os, I.bare, ⟨fun b o e n hb hx => ?_, fun b o e n hb hx => ?_, I.base.free, fun b o e hx => ?_, I.base.tups, I.base.frzs, I.base.tbls⟩, ⟨_, hn', fun j y v' e1 e2 e3 => ?_⟩, fun y c e => ?_, I.free, I.freeC, fun p hp => ?_, tracked ⟨oL, hoL, I.free⟩ hs, by simpa using I.len⟩ ⟨_, hs, .inl rfl⟩
    · exact (hs.2 b (Nat.ne_of_lt (Nat.lt_of_lt_of_le (Heap.lt_size e) I.ok.above))).trans (I.base.keep b o e n hb hx)
    · obtain ⟨sl, e1⟩ := I.base.slot b o e n hb hx
      exact ⟨sl, (hs.2 b (Nat.ne_of_lt (Nat.lt_of_lt_of_le (Heap.lt_size e) I.ok.above))).trans e1⟩
    · obtain ⟨o', e1⟩ := I.base.there b o e hx
      exact ⟨o', (hs.2 b (Nat.ne_of_lt (Nat.lt_of_lt_of_le (Heap.lt_size e) I.ok.above))).trans e1⟩
    · by_cases hj : j = i
      · subst hj
        rw [hi] at e1; cases e1
        rw [List.getElem?_set_self hiσ] at e2
        cases e2
        exact ⟨u, r, .inl ⟨hk, by simp⟩⟩
      · rw [List.getElem?_set_ne (Ne.symm hj)] at e2
        obtain ⟨u', r', q⟩ := hl j y v' e1 e2 e3
        refine ⟨u', r', ?_⟩
        rcases q with ⟨k, e⟩ | ⟨k, c, e, z⟩
        · refine .inl ⟨k, ?_⟩
          have : y ≠ x := fun e => hj (nodup_ix hN e1 (e ▸ hi))
          simp [this, e]
        · exact .inr ⟨k, c, e, z.sameBut hs (cne y c e)⟩
    · obtain ⟨w', z⟩ := I.cell y c e
      exact ⟨w', z.sameBut hs (cne y c e)⟩
    · obtain ⟨e, n, ne, nf, d⟩ := I.pin p hp
      exact ⟨(hs.2 p.1 ne).trans e, n, ne, nf, d⟩
  · have hfn : X.fn x = true := by
      rcases hf with z | z
      · exact z
      · rw [z] at hk; cases hk
    obtain ⟨c, hc⟩ := I.ok.has x (.inl hk)
    obtain ⟨w', z⟩ := I.cell x c hc
    refine wpAny_storeName_cell I.ok.kind hk hc z (fun h' hc' hs => ?_)
    obtain ⟨oc, hoc, hocd⟩ := id z
    refine h { s with heap := h' } ⟨I.ok, I.os, I.bare, ⟨fun b o e n hb hx => ?_, fun b o e n hb hx => ?_, I.base.free, fun b o e hx => ?_, I.base.tups, I.base.frzs, I.base.tbls⟩, ⟨m, hn.sameBut hs (Ne.symm (cne x c hc)), fun j y v' e1 e2 e3 => ?_⟩, fun y c' e => ?_, I.free, I.freeC, fun p hp => ?_, tracked ⟨oc, hoc, I.freeC x c hc⟩ hs, by simpa using I.len⟩ ⟨c, hs, .inr hc⟩
    · exact (hs.2 b (Nat.ne_of_lt (Nat.lt_of_lt_of_le (Heap.lt_size e) (I.ok.cab x c hfn hc)))).trans (I.base.keep b o e n hb hx)
    · obtain ⟨sl, e1⟩ := I.base.slot b o e n hb hx
      exact ⟨sl, (hs.2 b (Nat.ne_of_lt (Nat.lt_of_lt_of_le (Heap.lt_size e) (I.ok.cab x c hfn hc)))).trans e1⟩
    · obtain ⟨o', e1⟩ := I.base.there b o e hx
      exact ⟨o', (hs.2 b (Nat.ne_of_lt (Nat.lt_of_lt_of_le (Heap.lt_size e) (I.ok.cab x c hfn hc)))).trans e1⟩
    · by_cases hj : j = i
      · subst hj
        rw [hi] at e1; cases e1
        rw [List.getElem?_set_self hiσ] at e2
        cases e2
        exact ⟨u, r, .inr ⟨.inl hk, c, hc, hc'⟩⟩
      · rw [List.getElem?_set_ne (Ne.symm hj)] at e2
        obtain ⟨u', r', q⟩ := hl j y v' e1 e2 e3
        refine ⟨u', r', ?_⟩
        rcases q with q | ⟨k, c', e, z'⟩
        · exact .inl q
        · refine .inr ⟨k, c', e, z'.sameBut hs ?_⟩
          rintro rfl
          exact hj (nodup_ix hN e1 (I.ok.inj _ _ _ e hc ▸ hi))
    · by_cases hcc : c' = c
      · subst hcc; exact ⟨_, hc'⟩
      · obtain ⟨w2, z2⟩ := I.cell y c' e
        exact ⟨w2, z2.sameBut hs hcc⟩
    · obtain ⟨e, n, ne, nf, d⟩ := I.pin p hp
      refine ⟨(hs.2 p.1 ?_).trans e, n, ne, nf, d⟩
      intro q
      rw [q, hoc] at e
      have q' : oc = p.2 := Option.some.inj e
      exact d w' (by rw [← q']; exact hocd)
theorem store_ok {M : Model} {A : Around} {E : Value → Shared → Prop} {i : Nat} {x : Str} {v : V} {u : Value} {Q : Unit → Shared → Prop} (I : Inv X pins σ H s) (hN : X.N.Nodup) (hi : X.N[i]? = some x) (hx : Loc X.env.scope x) (r : RelV v u)
    (h : ∀ s', Inv X pins (σ.set i (some v)) H s' → Q () s') (hf : X.fn x = true ∨ X.env.scope.names.lookup x = some .local := by first | exact .inl rfl | exact .inr rfl | assumption) : wpAny M A (storeName X.env x u) Q E s :=
  store_ok2 I hN hi hx r (fun s' I' _ => h s' I') hf
theorem Inv.call' {s' : Shared} {ch : List Addr} (I : Inv X pins σ H s) (ho : s'.os = s.os) (u : Un (frs X.stack) ch H H' s.heap s'.heap) (hok : HOk X.prog X.w H' s'.heap) (hg : AllBare s'.gens)
    (hch : ∀ b ∈ ch, (b ∈ X.ex ∨ X.s₀.heap.objs.size ≤ b) ∧ b ≠ X.env.locals ∧ (∀ x c, X.env.cells.lookup x = some c → c ≠ b) ∧ ∀ p ∈ X.pn ++ pins, p.1 ≠ b) : Inv X pins σ H' s' := by
  obtain ⟨h', g', d', t', o'⟩ := s'
  have e : o' = s.os := ho
  subst e
  exact I.call (g' := g') (t' := t') (d' := d') u hok hg hch
end
abbrev XK := Value → Option Addr → Hp → Prop
abbrev St := List (Option V)
abbrev VK := V → Hp → Prop
abbrev TE := St → Hp → VK → Prop
abbrev TT := St → Hp → (Bool → Hp → Prop) → Prop
abbrev TA := St → Hp → (List V → Hp → Prop) → Prop
structure Ends where
  nx : St → Hp → Prop
  rt : VK
  bk : St → Hp → Prop := fun _ _ => False
  ct : St → Hp → Prop := fun _ _ => False
abbrev TS := Ends → St → Hp → Prop
def EP (X : Cx) (pins : List (Addr × Obj)) (σ : St) (Q : VK) (u : Value) (s' : Shared) : Prop := ∃ v H', Inv X pins σ H' s' ∧ RelV v u ∧ Q v H'
def TP (X : Cx) (pins : List (Addr × Obj)) (σ : St) (Q : Bool → Hp → Prop) (b : Bool) (s' : Shared) : Prop := ∃ H', Inv X pins σ H' s' ∧ Q b H'
def AP (X : Cx) (pins : List (Addr × Obj)) (σ : St) (Q : List V → Hp → Prop) (us : List Value) (s' : Shared) : Prop := ∃ vs H', Inv X pins σ H' s' ∧ Vals vs us ∧ Q vs H'
def SP (X : Cx) (pins : List (Addr × Obj)) (D : Ends) (f : Flow) (s' : Shared) : Prop :=
  match f with
  | .next => ∃ σ' H', Inv X pins σ' H' s' ∧ D.nx σ' H'
  | .brk => ∃ σ' H', Inv X pins σ' H' s' ∧ D.bk σ' H'
  | .cont => ∃ σ' H', Inv X pins σ' H' s' ∧ D.ct σ' H'
  | .ret u => ∃ v σ' H', Inv X pins σ' H' s' ∧ RelV v u ∧ D.rt v H'
def PE (X : Cx) (e : Expr) (t : TE) : Prop :=
  ∀ (pins : List (Addr × Obj)) (s : Shared) (σ : St) (H : Hp) (Q : VK), Inv X pins σ H s → t σ H Q → wpAny (model X.prog X.w) X.A (eval e X.env) (EP X pins σ Q) X.xe s
def PT (X : Cx) (e : Expr) (t : TT) : Prop :=
  ∀ (pins : List (Addr × Obj)) (s : Shared) (σ : St) (H : Hp) (Q : Bool → Hp → Prop), Inv X pins σ H s → t σ H Q → wpAny (model X.prog X.w) X.A (isTrue e X.env (eval e X.env)) (TP X pins σ Q) X.xe s
def PW (X : Cx) (e : Expr) (t : TT) : Prop :=
  ∀ (whole : Sem Value) (pins : List (Addr × Obj)) (s : Shared) (σ : St) (H : Hp) (Q : Bool → Hp → Prop), Inv X pins σ H s → t σ H Q → wpAny (model X.prog X.w) X.A (isTrue e X.env whole) (TP X pins σ Q) X.xe s
theorem PW.pt {X : Cx} {e : Expr} {t : TT} (h : PW X e t) : PT X e t := h _
def PA (X : Cx) (es : List Expr) (t : TA) : Prop :=
  ∀ (pos : Pos) (pins : List (Addr × Obj)) (s : Shared) (σ : St) (H : Hp) (Q : List V → Hp → Prop), Inv X pins σ H s → t σ H Q → wpAny (model X.prog X.w) X.A (spliced (backTo pos (starEach es X.env))) (AP X pins σ Q) X.xe s
def PS (X : Cx) (st : Stmt) (t : TS) : Prop :=
  ∀ (pins : List (Addr × Obj)) (s : Shared) (σ : St) (H : Hp) (D : Ends), Inv X pins σ H s → t D σ H → wpAny (model X.prog X.w) X.A (exec st X.env) (SP X pins D) X.xe s
def PSs (X : Cx) (st : List Stmt) (t : TS) : Prop :=
  ∀ (pins : List (Addr × Obj)) (s : Shared) (σ : St) (H : Hp) (D : Ends), Inv X pins σ H s → t D σ H → wpAny (model X.prog X.w) X.A (execs st X.env) (SP X pins D) X.xe s
theorem thn {α : Type} {t : Sem α} {Q Q' : α → Shared → Prop} {M : Model} {A : Around} {E : Value → Shared → Prop} {s : Shared} (h : wpAny M A t Q E s) (hQ : ∀ a s, Q a s → Q' a s) : wpAny M A t Q' E s := wpAny_mono h hQ fun _ _ x => x
end L2
namespace L2
open PySem PySem.Spec PyProof.Rows
section
variable {X : Cx}
def tVar (i : Nat) : TE := fun σ H Q => ∃ v, σ[i]? = some (some v) ∧ Q v H
def tC (v : V) : TE := fun _ H Q => Q v H
theorem pe_var {i : Nat} {x : Str} {pos : Pos} (hN : X.N[i]? = some x) (hv : Vis X.env.scope x) (hd : (x == ("__debug__" : Str)) = false := by decide) (hcd : (x == ("__classdict__" : Str)) = false := by decide) : PE X (.Name x pos) (tVar i) := by
  intro pins s σ H Q I h
  obtain ⟨v, e, h⟩ := h
  obtain ⟨m, hn, hl⟩ := I.loc
  obtain ⟨u, r, l⟩ := hl i x v hN e hv
  have fin : EP X pins σ Q u s := ⟨v, H, I, r, h⟩
  rcases l with ⟨hk, hm⟩ | ⟨hk, c, hc, hcell⟩
  · exact wpAny_Name (wpAny_loadName_local I.ok.kind hk hn hm fin) hd
  · rcases hk with hk | hk
    · exact wpAny_Name (wpAny_loadName_cell I.ok.kind hk hc hcell fin) hd
    · exact wpAny_Name (wpAny_loadName_free I.ok.kind hk hc hcell fin hcd) hd
theorem pe_int {i j pos} : PE X (.Constant (.int i) j pos) (tC (.int i)) := fun _ _ _ H _ I h => wpAny_Constant_int ⟨.int i, H, I.tok _, ⟨_, rfl⟩, h⟩
theorem pe_bl {b j pos} : PE X (.Constant (.bool b) j pos) (tC (.bl b)) := fun _ _ _ H _ I h => Constant_bool ⟨.bl b, H, I, rfl, h⟩
theorem pe_non {j pos} : PE X (.Constant .none j pos) (tC .non) := fun _ _ _ H _ I h => Constant_none ⟨.non, H, I, rfl, h⟩
theorem pe_str {x j pos} : PE X (.Constant (.str x) j pos) (tC (.str x)) := fun _ _ _ H _ I h => Calls.Constant_str ⟨.str x, H, I.tok _, ⟨_, rfl⟩, h⟩
def Gl (X : Cx) (x : Str) : Prop := X.env.kindOf x = some .globalImplicit
theorem ld_glob {E : Value → Shared → Prop} {pins : List (Addr × Obj)} {s : Shared} {σ : St} {H : Hp} {x : Str} {u : Value} {pos : Pos} {Q : Value → Shared → Prop} (I : Inv X pins σ H s) (hg : Gl X x) (hm : X.mg x = some u) (h : Q u s)
    (hd : (x == ("__debug__" : Str)) = false := by decide) : wpAny (model X.prog X.w) X.A (eval (.Name x pos) X.env) Q E s :=
  Calls.Name_function_global I.ok.kind hg (Calls.loadGlobal_global (by rw [I.ok.glob]; exact I.mod.glob.keeps I.bk) hm h) hd
theorem ld_blt {E : Value → Shared → Prop} {pins : List (Addr × Obj)} {s : Shared} {σ : St} {H : Hp} {x : Str} {u : Value} {pos : Pos} {Q : Value → Shared → Prop} (I : Inv X pins σ H s) (hg : Gl X x) (hm : X.mg x = none) (hv : bootBuiltins x = some u) (h : Q u s)
    (hn : x ≠ "__name__" := by decide) (hd : (x == ("__debug__" : Str)) = false := by decide) : wpAny (model X.prog X.w) X.A (eval (.Name x pos) X.env) Q E s := by
  obtain ⟨mb, h1, h2⟩ := I.mod.blt
  exact Calls.Name_function_global I.ok.kind hg (Calls.loadGlobal_builtin (by rw [I.ok.glob]; exact I.mod.glob.keeps I.bk) hm (by rw [I.ok.blt]; exact h1.keeps I.bk) ((h2 x hn).trans hv) h) hd
theorem pe_glob {x : Str} {v : V} {u : Value} {pos : Pos} (hg : Gl X x) (hm : X.mg x = some u) (r : RelV v u) (hd : (x == ("__debug__" : Str)) = false := by decide) : PE X (.Name x pos) (tC v) :=
  fun _ _ _ H _ I h => ld_glob I hg hm ⟨v, H, I, r, h⟩ hd
theorem pe_bltn {x : Str} {v : V} {u : Value} {pos : Pos} (hg : Gl X x) (hm : X.mg x = none) (hv : bootBuiltins x = some u) (r : RelV v u) (hn : x ≠ "__name__" := by decide) (hd : (x == ("__debug__" : Str)) = false := by decide) : PE X (.Name x pos) (tC v) :=
  fun _ _ _ H _ I h => ld_blt I hg hm hv ⟨v, H, I, r, h⟩ hn hd
variable {a b : Expr} {ta tb : TE} {pos : Pos}
def tB (t : TE) : TT := fun σ H Q => t σ H fun x H1 => ∃ c, x = .bl c ∧ Q c H1
theorem pt_val {e : Expr} {t : TE} (h : PE X e t) (he : ∀ whole, isTrue e X.env whole = (do let v ← whole; standAt e.pos; holding [v] (truthy v)) := by intro _; rfl) : PT X e (tB t) := by
  intro pins s σ H Q I hw
  refine isTrue_plain (thn (h pins s σ H _ I hw) fun v s1 ⟨x, H1, I1, r1, q1⟩ => ?_) (he _)
  obtain ⟨d, rfl, q⟩ := q1
  cases r1
  exact wpAny_truthy_bool ⟨H1, I1, q⟩
variable {tA tB' : TT} {rest : List Expr}
def tAnd (t u : TT) : TT := fun σ H Q => t σ H fun c H1 => if c = true then u σ H1 Q else Q false H1
def tOr (t u : TT) : TT := fun σ H Q => t σ H fun c H1 => if c = true then Q true H1 else u σ H1 Q
def tNot (t : TT) : TT := fun σ H Q => t σ H fun c H1 => Q (!c) H1
theorem pw_and1 (ha : PT X a tA) : PW X (.BoolOp .And [a] pos) tA := by
  intro wh pins s σ H Q I h
  refine isTrue_and (thn (ha pins s σ H Q I h) fun c s1 e => ?_)
  cases c with
  | true => exact isTrue_and_nil e
  | false => exact e
theorem pw_or1 (ha : PT X a tA) : PW X (.BoolOp .Or [a] pos) tA := by
  intro wh pins s σ H Q I h
  refine isTrue_or (thn (ha pins s σ H Q I h) fun c s1 e => ?_)
  cases c with
  | false => exact isTrue_or_nil e
  | true => exact e
theorem pw_and (ha : PT X a tA) (hb : PW X (.BoolOp .And (b :: rest) pos) tB') : PW X (.BoolOp .And (a :: b :: rest) pos) (tAnd tA tB') := by
  intro wh pins s σ H Q I h
  refine isTrue_and (thn (ha pins s σ H _ I h) fun c s1 ⟨H1, I1, q1⟩ => ?_)
  cases c with
  | true => exact hb wh pins s1 σ H1 Q I1 q1
  | false => exact ⟨H1, I1, q1⟩
theorem pw_or (ha : PT X a tA) (hb : PW X (.BoolOp .Or (b :: rest) pos) tB') : PW X (.BoolOp .Or (a :: b :: rest) pos) (tOr tA tB') := by
  intro wh pins s σ H Q I h
  refine isTrue_or (thn (ha pins s σ H _ I h) fun c s1 ⟨H1, I1, q1⟩ => ?_)
  cases c with
  | true => exact ⟨H1, I1, q1⟩
  | false => exact hb wh pins s1 σ H1 Q I1 q1
theorem pt_not (ha : PT X a tA) : PT X (.UnaryOp .Not a pos) (tNot tA) := by
  intro pins s σ H Q I h
  exact isTrue_not (ha pins s σ H (fun c H1 => Q (!c) H1) I h)
def tAndV (ta tb : TE) : TE := fun σ H Q => ta σ H fun x H1 => ∃ c, x = .bl c ∧ if c = true then tb σ H1 Q else Q (.bl false) H1
def tOrV (ta tb : TE) : TE := fun σ H Q => ta σ H fun x H1 => ∃ c, x = .bl c ∧ if c = true then Q (.bl true) H1 else tb σ H1 Q
def tNotV (ta : TE) : TE := fun σ H Q => ta σ H fun x H1 => ∃ c, x = .bl c ∧ Q (.bl (!c)) H1
theorem pe_one {op} {t : TE} (h : PE X a t) : PE X (.BoolOp op [a] pos) t := fun pins s σ H Q I hw => BoolOp_one (h pins s σ H Q I hw)
theorem pe_and (ha : PE X a ta) (hb : PE X (.BoolOp .And (b :: rest) pos) tb) : PE X (.BoolOp .And (a :: b :: rest) pos) (tAndV ta tb) := by
  intro pins s σ H Q I h
  refine BoolOp_and (thn (ha pins s σ H _ I h) fun v s1 ⟨x, H1, I1, r1, q1⟩ => ?_)
  obtain ⟨c, rfl, q1⟩ := q1
  cases r1
  refine wpAny_truthy_bool ?_
  cases c with
  | true => exact hb pins s1 σ H1 Q I1 q1
  | false => exact ⟨.bl false, H1, I1, rfl, q1⟩
def tIf (t : TT) (ta tb : TE) : TE := fun σ H Q => t σ H fun c H1 => if c = true then ta σ H1 Q else tb σ H1 Q
end
end L2
namespace L2
open PySem PySem.Spec PyProof.Rows
def SqL (K : PySem.W.Frag) (H : Hp) (a : Addr) (xs : List V) : Prop :=
  Rd H a (.lst xs) ∨
    ∃ (o : Obj) (its : Array Value) (n : Nat), K.lookup a = some o ∧ o.cls = .type "list" ∧ o.dict = none ∧ o.data = .seq its n ∧ its.size ≤ sizeLine ∧ Vals xs its.toList
def SqT (K : PySem.W.Frag) (H : Hp) (a : Addr) (xs : List V) : Prop :=
  Rd H a (.tup xs) ∨
    ∃ (o : Obj) (its : Array Value) (n : Nat), K.lookup a = some o ∧ o.cls = .type "tuple" ∧ o.data = .seq its n ∧ its.size ≤ sizeLine ∧ Vals xs its.toList
def absV : Value → Option V
  | .none => some .non
  | .bool b => some (.bl b)
  | .int i _ => some (.int i)
  | .str x _ => some (.str x)
  | .bytes b _ => some (.byt b)
  | .float b _ => some (.flt b)
  | .ref a => some (.ref a)
  | .type n => some (.ty n)
  | _ => none
theorem RelV.abs {x : V} {u : Value} (r : RelV x u) : absV u = some x := by
  cases x with
  | non => cases r; rfl
  | bl _ => cases r; rfl
  | int _ => obtain ⟨t, rfl⟩ := r; rfl
  | str _ => obtain ⟨t, rfl⟩ := r; rfl
  | byt _ => obtain ⟨t, rfl⟩ := r; rfl
  | flt _ => obtain ⟨t, rfl⟩ := r; rfl
  | ref _ => cases r; rfl
  | ty _ => cases r; rfl
theorem RelV.inj {x y : V} {u : Value} (r : RelV x u) (q : RelV y u) : x = y := Option.some.inj (r.abs.symm.trans q.abs)
theorem Vals.inj : ∀ {xs ys : List V} {us : List Value}, Vals xs us → Vals ys us → xs = ys
  | _, _, _, .nil, .nil => rfl
  | _, _, _, .cons r t, .cons r' t' => by rw [r.inj r', Vals.inj t t']
section
variable {X : Cx} {pins : List (Addr × Obj)} {σ : St} {H : Hp} {s : Shared} {a : Addr} {xs ys : List V}
theorem SqL.of {K : PySem.W.Frag} (h : H a = some (.lst xs)) : SqL K H a xs := .inl (.inl h)
theorem SqT.of {K : PySem.W.Frag} (h : H a = some (.tup xs)) : SqT K H a xs := .inl (.inl h)
theorem Inv.list (I : Inv X pins σ H s) (h : SqL X.K H a xs) : ∃ its : List Value, Vals xs its ∧ PlainL s.heap a its.toArray ∧ xs.length ≤ sizeLine := by
  rcases h with h | ⟨o, its, n, hk, hc, hd, hs, hz, r⟩
  · obtain ⟨z, its, n, r, e⟩ := h.ok I.hok
    exact ⟨its, r, ⟨_, n, e, rfl, rfl, rfl⟩, z⟩
  · refine ⟨its.toList, r, ⟨o, n, I.kIn a o hk, hc, hd, by simpa using hs⟩, ?_⟩
    have e := r.length
    simp only [Array.length_toList] at e
    omega
theorem Inv.tuple (I : Inv X pins σ H s) (h : SqT X.K H a xs) : ∃ its : List Value, Vals xs its ∧ IsTup s.heap a its.toArray ∧ xs.length ≤ sizeLine := by
  rcases h with h | ⟨o, its, n, hk, hc, hs, hz, r⟩
  · obtain ⟨z, its, r, p⟩ := h.ok I.hok
    exact ⟨its, r, p, z⟩
  · refine ⟨its.toList, r, ⟨o, I.kIn a o hk, hc, n, by simpa using hs⟩, ?_⟩
    have e := r.length
    simp only [Array.length_toList] at e
    omega
theorem Inv.list_inj (I : Inv X pins σ H s) (h : SqL X.K H a xs) (h' : SqL X.K H a ys) : xs = ys := by
  obtain ⟨its, r, ⟨o, n, e, _, _, d⟩, _⟩ := I.list h
  obtain ⟨its', r', ⟨o', n', e', _, _, d'⟩, _⟩ := I.list h'
  rw [e] at e'; cases e'
  rw [d] at d'
  injection d' with d1 _
  have : its = its' := by simpa using congrArg Array.toList d1
  subst this
  exact r.inj r'
theorem Inv.tuple_inj (I : Inv X pins σ H s) (h : SqT X.K H a xs) (h' : SqT X.K H a ys) : xs = ys := by
  obtain ⟨its, r, ⟨o, e, _, n, d⟩, _⟩ := I.tuple h
  obtain ⟨its', r', ⟨o', e', _, n', d'⟩, _⟩ := I.tuple h'
  rw [e] at e'; cases e'
  rw [d] at d'
  injection d' with d1 _
  have : its = its' := by simpa using congrArg Array.toList d1
  subst this
  exact r.inj r'
end
abbrev Cx.wish (X : Cx) (E : Value → Shared → Prop) : Cx := { X with xe := E }
abbrev Cx.nox (X : Cx) : Cx := X.wish fun _ _ => False
theorem Cx.Ok.wish {X : Cx} (ok : X.Ok) (E : Value → Shared → Prop) : (X.wish E).Ok :=
  ⟨ok.mod, ok.kind, ok.glob, ok.blt, ok.above, ok.inj, ok.has, ok.cab, ok.hd, ok.frames, ok.stk, ok.exf, ok.bs, ok.bsz, ok.noex, ok.exfs, ok.funs, ok.frf⟩
theorem Cx.Ok.unwish {X : Cx} {E : Value → Shared → Prop} (ok : (X.wish E).Ok) : X.Ok :=
  ⟨ok.mod, ok.kind, ok.glob, ok.blt, ok.above, ok.inj, ok.has, ok.cab, ok.hd, ok.frames, ok.stk, ok.exf, ok.bs, ok.bsz, ok.noex, ok.exfs, ok.funs, ok.frf⟩
section
variable {X : Cx} {pins : List (Addr × Obj)} {σ : St} {H : Hp} {s : Shared} {E : Value → Shared → Prop}
theorem Inv.wish (I : Inv X pins σ H s) (E : Value → Shared → Prop) : Inv (X.wish E) pins σ H s := ⟨I.ok.wish E, I.os, I.bare, I.base, I.loc, I.cell, I.free, I.freeC, I.pin, I.hok, I.len⟩
theorem Inv.unwish (I : Inv (X.wish E) pins σ H s) : Inv X pins σ H s := ⟨I.ok.unwish, I.os, I.bare, I.base, I.loc, I.cell, I.free, I.freeC, I.pin, I.hok, I.len⟩
theorem SP.unwish {D : Ends} {f : Flow} {s' : Shared} (h : SP (X.wish E) pins D f s') : SP X pins D f s' := by
  cases f with
  | next => obtain ⟨σ', H', I, q⟩ := h; exact ⟨σ', H', I.unwish, q⟩
  | brk => obtain ⟨σ', H', I, q⟩ := h; exact ⟨σ', H', I.unwish, q⟩
  | cont => obtain ⟨σ', H', I, q⟩ := h; exact ⟨σ', H', I.unwish, q⟩
  | ret u => obtain ⟨v, σ', H', I, r, q⟩ := h; exact ⟨v, σ', H', I.unwish, r, q⟩
theorem PSs.nox {st : List Stmt} {t : TS} (h : PSs X.nox st t) : PSs X st t := fun pins s σ H D I hw =>
  wpAny_mono (h pins s σ H D (I.wish _) hw) (fun _ _ q => q.unwish) fun _ _ z => False.elim z
end
section
variable {X : Cx} {st : Stmt} {rest : List Stmt} {t u : TS} {e : Expr} {te : TE} {pos : Pos}
def tNext : TS := fun D σ H => D.nx σ H
def tSeq (t u : TS) : TS := fun D σ H => t { D with nx := u D } σ H
theorem pss_nil : PSs X [] tNext := fun _ _ σ H _ I h => wpAny_execs_nil ⟨σ, H, I, h⟩
theorem pss_cons (h1 : PS X st t) (h2 : PSs X rest u) : PSs X (st :: rest) (tSeq t u) := by
  intro pins s σ H D I h
  refine wpAny_execs_cons (thn (h1 pins s σ H { D with nx := u D } I h) fun f s1 q => ?_)
  cases f with
  | next =>
    obtain ⟨σ', H', I', q⟩ := q
    exact h2 pins s1 σ' H' D I' q
  | ret v => exact q
  | brk => exact q
  | cont => exact q
theorem pss_one (h1 : PS X st t) : PSs X [st] t := by
  intro pins s σ H D I h
  refine wpAny_execs_cons (thn (h1 pins s σ H D I h) fun f s1 q => ?_)
  cases f with
  | next => exact wpAny_execs_nil q
  | ret v => exact q
  | brk => exact q
  | cont => exact q
theorem Inv.quiet {pins : List (Addr × Obj)} {σ : St} {H : Hp} {s : Shared} (I : Inv X pins σ H s) : interactive X.env = false := by simp [interactive, I.ok.kind]
def tDrop (te : TE) : TS := fun D σ H => te σ H fun _ H1 => D.nx σ H1
theorem ps_expr (he : PE X e te) (hs : swapsWith e none pos.line X.env = pure false := by rfl) : PS X (.Expr e pos) (tDrop te) := by
  intro pins s σ H D I h
  exact wpAny_Expr_any (thn (he pins s σ H _ I h) fun v s1 ⟨x, H1, I1, r1, q1⟩ => ⟨σ, H1, I1, q1⟩) I.quiet hs
def tRet (te : TE) : TS := fun D σ H => te σ H D.rt
theorem ps_ret (he : PE X e te) : PS X (.Return (some e) pos) (tRet te) := by
  intro pins s σ H D I h
  exact wpAny_Return_some (thn (he pins s σ H _ I h) fun v s1 ⟨x, H1, I1, r1, q1⟩ => ⟨x, σ, H1, I1, r1, q1⟩)
def tRetN : TS := fun D _ H => D.rt .non H
def tIfS (c : TT) (t u : TS) : TS := fun D σ H => c σ H fun b H1 => if b = true then t D σ H1 else u D σ H1
theorem ps_if {c : Expr} {a b : List Stmt} {tc : TT} (hc : PT X c tc) (ha : PSs X a t) (hb : PSs X b u) : PS X (.If c a b pos) (tIfS tc t u) := by
  intro pins s σ H D I h
  refine wpAny_If (thn (hc pins s σ H _ I h) fun d s1 ⟨H1, I1, q1⟩ => ?_)
  cases d with
  | true => exact ha pins s1 σ H1 D I1 q1
  | false => exact hb pins s1 σ H1 D I1 q1
end
abbrev TG := V → St → Hp → (St → Hp → Prop) → Prop
abbrev TGs := List V → St → Hp → (St → Hp → Prop) → Prop
def PG (X : Cx) (target : Expr) (t : TG) : Prop :=
  ∀ (pins : List (Addr × Obj)) (s : Shared) (σ : St) (H : Hp) (v : V) (u : Value) (Q : St → Hp → Prop), Inv X pins σ H s → RelV v u → t v σ H Q →
    wpAny (model X.prog X.w) X.A (assign target X.env u) (fun _ s' => ∃ σ' H', Inv X pins σ' H' s' ∧ Q σ' H') X.xe s
def PGs (X : Cx) (ts : List Expr) (t : TGs) : Prop :=
  ∀ (pins : List (Addr × Obj)) (s : Shared) (σ : St) (H : Hp) (vs : List V) (us : List Value) (Q : St → Hp → Prop), Inv X pins σ H s → Vals vs us → t vs σ H Q →
    wpAny (model X.prog X.w) X.A (assignInOrder ((assignEach ts X.env).map (·.2)) us) (fun _ s' => ∃ σ' H', Inv X pins σ' H' s' ∧ Q σ' H') X.xe s
abbrev TSet := V → V → V → Hp → (Hp → Prop) → Prop
def PSet (X : Cx) (t : TSet) : Prop :=
  ∀ (pins : List (Addr × Obj)) (s : Shared) (σ : St) (H : Hp) (o i v : V) (ov iv u : Value) (Q : Hp → Prop), Inv X pins σ H s → RelV o ov → RelV i iv → RelV v u → t o i v H Q →
    wpAny (model X.prog X.w) X.A (setItem ov iv u) (fun _ s' => ∃ H', Inv X pins σ H' s' ∧ Q H') X.xe s
section
variable {X : Cx} {pos : Pos}
def gName (i : Nat) : TG := fun v σ H Q => Q (σ.set i (some v)) H
theorem pg_name {i : Nat} {x : Str} (hN : X.N.Nodup) (hi : X.N[i]? = some x) (hx : Loc X.env.scope x) (hf : X.fn x = true ∨ X.env.scope.names.lookup x = some .local := by first | exact .inl rfl | exact .inr rfl | assumption) : PG X (.Name x pos) (gName i) := by
  intro pins s σ H v u Q I r h
  exact wpAny_assign_Name (store_ok I hN hi hx r (fun s' I' => ⟨_, H, I', h⟩) hf)
def gNil : TGs := fun vs σ H Q => vs = [] ∧ Q σ H
def gCons (t : TG) (u : TGs) : TGs := fun vs σ H Q => ∃ v r, vs = v :: r ∧ t v σ H fun σ' H' => u r σ' H' Q
theorem pgs_nil : PGs X [] gNil := by
  intro pins s σ H vs us Q I r h
  obtain ⟨e, h⟩ := h
  subst e
  cases r
  exact assignInOrder_nil ⟨σ, H, I, h⟩
theorem pgs_cons {e : Expr} {es : List Expr} {t : TG} {u : TGs} (h1 : PG X e t) (h2 : PGs X es u)
    (hs : (assignEach (e :: es) X.env).map (·.2) = assign e X.env :: (assignEach es X.env).map (·.2) := by rfl) : PGs X (e :: es) (gCons t u) := by
  intro pins s σ H vs us Q I r h
  obtain ⟨v, vr, e1, h⟩ := h
  subst e1
  cases r with
  | cons r rr =>
    rw [hs]
    refine assignInOrder_cons (thn (h1 pins s σ H _ _ _ I r h) fun _ s1 ⟨σ1, H1, I1, q1⟩ => ?_)
    exact h2 pins s1 σ1 H1 _ _ Q I1 rr q1
def gTup (K : PySem.W.Frag) (n : Nat) (t : TGs) : TG := fun v σ H Q => ∃ a xs, v = .ref a ∧ SqT K H a xs ∧ xs.length = n ∧ t xs σ H Q
theorem pg_tup {es : List Expr} {k : Nat} {t : TGs} {n : Nat} (hc : X.calm = true) (h : PGs X es t)
    (hn : (assignEach es X.env).length = n := by rfl) (hst : (assignEach es X.env).findIdx? (·.1) = none := by rfl) : PG X (.Tuple es k pos) (gTup X.K n t) := by
  intro pins s σ H v u Q I r hw
  obtain ⟨a, xs, e1, hq, hl, hw⟩ := hw
  subst e1
  cases r
  obtain ⟨its, rv, ht, hz⟩ := I.tuple hq
  refine assign_Tuple_tuple (I.ok.hd hc) ht (by simp [hn, ← hl, rv.length]) hst fun h' hx => ?_
  have I1 : Inv X pins σ H { s with heap := h' } := I.kept (t' := s.toks) fun b o e => hx b o (Nat.ne_of_lt (Heap.lt_size e)) e
  exact h pins _ σ H xs _ Q I1 (by simpa using rv) hw
def gSub (to ti : TE) (t : TSet) : TG := fun v σ H Q => to σ H fun o H1 => ti σ H1 fun i H2 => t o i v H2 fun H3 => Q σ H3
theorem pg_sub {o i : Expr} {to ti : TE} {t : TSet} (ho : PE X o to) (hi : PE X i ti) (hs : PSet X t)
    (ha : ∀ v, assign (.Subscript o i pos) X.env v = (do
      let ov ← holding [v] (eval o X.env)
      let iv ← holding [v, ov] (eval i X.env)
      standAt pos
      holding [v, ov, iv] (setItem ov iv v)
      release [v, ov, iv] []) := by intro _; rfl) : PG X (.Subscript o i pos) (gSub to ti t) := by
  intro pins s σ H v u Q I r h
  rw [ha]
  refine wpAny_bind (wpAny_holding (thn (ho pins s σ H _ I h) fun ov s1 ⟨x, H1, I1, r1, q1⟩ => ?_))
  refine wpAny_bind (wpAny_holding (thn (hi pins s1 σ H1 _ I1 q1) fun iv s2 ⟨y, H2, I2, r2, q2⟩ => ?_))
  refine wpAny_bind (wpAny_standAt (wpAny_bind (wpAny_holding (thn (hs pins s2 σ H2 x y v ov iv u _ I2 r1 r2 r q2) fun _ s3 ⟨H3, I3, q3⟩ => ?_))))
  exact wpAny_release ⟨σ, H3, I3, q3⟩
def tAsg (te : TE) (g : TG) : TS := fun D σ H => te σ H fun x H1 => g x σ H1 D.nx
theorem ps_asg {tg e : Expr} {te : TE} {g : TG} (he : PE X e te) (hg : PG X tg g) (hs : swapsWithSole [tg] e pos.line X.env = pure false := by rfl) (hw : swappedStores [tg] e X.env = pure none := by rfl)
    (h1 : (assignEach [tg] X.env).map (·.2) = [assign tg X.env] := by rfl) : PS X (.Assign [tg] e pos) (tAsg te g) := by
  intro pins s σ H D I h
  refine wpAny_Assign_stores (thn (he pins s σ H _ I h) fun v s1 ⟨x, H1, I1, r1, q1⟩ => ?_) hs hw
  rw [h1]
  exact thn (hg pins s1 σ H1 x v _ I1 r1 q1) fun _ s2 q => q
theorem ps_set {i : Nat} {x : Str} {e : Expr} {te : TE} {pos' : Pos} (hN : X.N.Nodup) (hi : X.N[i]? = some x) (hx : Loc X.env.scope x) (he : PE X e te) (hs : swapsWith e (some (.Name x pos')) pos.line X.env = pure false := by rfl) (hf : X.fn x = true ∨ X.env.scope.names.lookup x = some .local := by first | exact .inl rfl | exact .inr rfl | assumption) :
    PS X (.Assign [.Name x pos'] e pos) (tAsg te (gName i)) := by
  intro pins s σ H D I h
  refine wpAny_Assign_Name (thn (he pins s σ H _ I h) fun v s1 ⟨y, H1, I1, r1, q1⟩ => ?_) hs
  exact store_ok I1 hN hi hx r1 (fun s2 I2 => ⟨_, H1, I2, q1⟩) hf
end
section
variable {X : Cx} {pos : Pos}
end
structure It where
  go : Nat → Hp → Prop
  yld : Nat → Hp → V → Hp → Prop
  stop : Nat → Hp → Prop
def FpOk (X : Cx) (pins : List (Addr × Obj)) (H : Hp) (b : Addr) : Prop :=
  H b = none ∧ b ≠ X.env.locals ∧ b ∉ X.fs ∧ (b ∈ X.ex ∨ X.s₀.heap.objs.size ≤ b) ∧ (∀ x c, X.env.cells.lookup x = some c → c ≠ b) ∧ ∀ p ∈ X.pn ++ pins, p.1 ≠ b
theorem Inv.fpOk {X : Cx} {pins : List (Addr × Obj)} {σ : St} {H H' : Hp} {s : Shared} {b : Addr} (I : Inv X pins σ H s) (hb : s.heap.objs.size ≤ b) (hn : H' b = none) : FpOk X pins H' b := by
  refine ⟨hn, Nat.ne_of_gt (Nat.lt_of_lt_of_le I.lt hb), I.nofs hb, .inr (Nat.le_trans I.sz hb), fun x c e z => ?_, fun p hp z => ?_⟩
  · obtain ⟨v, q⟩ := I.cell x c e
    exact absurd (Nat.lt_of_lt_of_le q.lt (by rw [z]; exact hb)) (Nat.lt_irrefl _)
  · exact absurd (Nat.lt_of_lt_of_le (Heap.lt_size (I.pin p hp).1) (by rw [z]; exact hb)) (Nat.lt_irrefl _)
structure Turn (P : Program) (w : World) (K : PySem.W.Frag) (tg : Expr) (J : It) (fp : List Addr) (it : Addr) (tn : Nat → Heap → Prop) : Prop where
  mem : it ∈ fp
  obj : ∀ i h, tn i h → ∀ b ∈ fp, ∃ o, h.get? b = some o ∧ ∀ v, o.data ≠ .cell v
  keep : ∀ i h h', tn i h → (∀ b ∈ fp, ∀ o, h.get? b = some o → h'.get? b = some o) → tn i h'
  item : ∀ (X : Cx), X.prog = P → X.w = w → X.K = K → X.calm = true → ∀ (i : Nat) (pins : List (Addr × Obj)) (s : Shared) (σ : St) (H : Hp) (E : Value → Shared → Prop), Inv X pins σ H s → (∀ b ∈ fp, FpOk X pins H b) → tn i s.heap → J.go i H →
    wpAny (model P w) X.A (pyNext (.ref it)) (fun r s1 => ∃ u, r = some u ∧
      wpAny (model P w) X.A (letOwnedTupleGo tg (.ref it) u) (fun _ s2 => ∃ x H', Inv X pins σ H' s2 ∧ RelV x u ∧ J.yld i H x H' ∧ tn (i + 1) s2.heap ∧ ∀ b ∈ fp, H' b = none) E s1) E s
  done : ∀ (X : Cx), X.prog = P → X.w = w → X.K = K → X.calm = true → ∀ (i : Nat) (pins : List (Addr × Obj)) (s : Shared) (σ : St) (H : Hp) (E : Value → Shared → Prop), Inv X pins σ H s → (∀ b ∈ fp, FpOk X pins H b) → tn i s.heap → J.stop i H →
    wpAny (model P w) X.A (pyNext (.ref it)) (fun r s1 => r = none ∧ Inv X pins σ H s1) E s
  self : ∀ (A : Around) (i : Nat) (s : Shared) (Q : Value → Shared → Prop) (E : Value → Shared → Prop), tn i s.heap → Q (.ref it) s → wpAny (model P w) A (pyIter (.ref it)) Q E s
abbrev TI := St → Hp → (It → Hp → Prop) → Prop
def PIE (X : Cx) (pins : List (Addr × Obj)) (σ : St) (tg : Expr) (R : It → Hp → Prop) (itv : Value) (s2 : Shared) : Prop :=
  ∃ (it : Addr) (fp : List Addr) (tn : Nat → Heap → Prop) (J : It) (H' : Hp), itv = .ref it ∧ Inv X pins σ H' s2 ∧ Turn X.prog X.w X.K tg J fp it tn ∧ tn 0 s2.heap ∧ (∀ b ∈ fp, FpOk X pins H' b) ∧ R J H'
def PI (X : Cx) (tg iter : Expr) (wi : TI) : Prop :=
  ∀ (pins : List (Addr × Obj)) (s : Shared) (σ : St) (H : Hp) (R : It → Hp → Prop), Inv X pins σ H s → wi σ H R →
    wpAny (model X.prog X.w) X.A (eval iter X.env) (fun v s1 => wpAny (model X.prog X.w) X.A (pyIter v) (PIE X pins σ tg R) X.xe s1) X.xe s
theorem go_of {M : Model} {A : Around} {E : Value → Shared → Prop} {s : Shared} {tg : Expr} {it : Addr} {u : Value} {o : Obj} {n : String} {vs : Array Value} {Q : Unit → Shared → Prop} (ho : s.heap.get? it = some o) (hc : o.cls = .type n) (hd : o.data = .fields vs)
    (hn : ["enumerate", "zip", "dict_itemiterator", "dict_reverseitemiterator", "odict_iterator", "itertools.zip_longest", "itertools.pairwise"].contains n = false) (hQ : Q () s) : wpAny M A (letOwnedTupleGo tg (.ref it) u) Q E s := by
  unfold letOwnedTupleGo
  cases tg <;> first
    | exact wpAny_pure hQ
    | (cases u <;> first
        | exact wpAny_pure hQ
        | (refine wpAny_bind (wpAny_load ho ?_)
           rw [hc, hd]
           show wpAny M A (if (["enumerate", "zip", "dict_itemiterator", "dict_reverseitemiterator", "odict_iterator", "itertools.zip_longest", "itertools.pairwise"].contains n && vs[0]? == some (rawInt _)) = true then _ else _) Q E s
           rw [if_neg (by intro h; rw [hn, Bool.false_and] at h; cases h)]
           exact wpAny_pure hQ))
def Itl (K : PySem.W.Frag) (a : Addr) : It :=
  ⟨fun i H => ∃ xs x, SqL K H a xs ∧ xs[i]? = some x, fun i H x H' => H' = H ∧ ∀ xs, SqL K H a xs → xs[i]? = some x, fun i H => ∃ xs, SqL K H a xs ∧ xs.length ≤ i⟩
def Itt (K : PySem.W.Frag) (a : Addr) : It :=
  ⟨fun i H => ∃ xs x, SqT K H a xs ∧ xs[i]? = some x, fun i H x H' => H' = H ∧ ∀ xs, SqT K H a xs → xs[i]? = some x, fun i H => ∃ xs, SqT K H a xs ∧ xs.length ≤ i⟩
def Itr (lo : Int) (n : Nat) : It := ⟨fun i _ => i < n, fun i H x H' => H' = H ∧ x = .int (lo + i), fun i _ => n ≤ i⟩
theorem turn_list {P : Program} {w : World} {K : PySem.W.Frag} {tg : Expr} (a it : Addr) : Turn P w K tg (Itl K a) [it] it (fun i h => h.IsListIter it a i) where
  mem := by simp
  obj := fun i h st b hb => by
    have e : b = it := by simpa using hb
    subst e
    obtain ⟨o, e, c, d⟩ := st
    exact ⟨o, e, fun v z => by rw [d] at z; cases z⟩
  keep := fun i h h' st k => st.at fun o e => k it (by simp) o e
  item := by
    intro X hP hw hK hc i pins s σ H E I hf st hg
    subst hP hw hK
    obtain ⟨xs, x, hq, hx⟩ := hg
    obtain ⟨its, rv, p, hz⟩ := I.list hq
    obtain ⟨u, hu, ru⟩ := rv.get hx
    obtain ⟨f0, f1, f2, f3, f4, f5⟩ := hf it (by simp)
    refine wpAny_pyNext_list_item st p.isList (x := u) (by simpa using hu) fun h' st' sb => ?_
    have I1 : Inv X pins σ H { s with heap := h' } := I.turned (t' := s.toks) (fun b o hb e => (sb.2 b hb).trans e) f0 f1 f3 f4 f5
    obtain ⟨o, e, c, d⟩ := id st'
    exact ⟨u, rfl, go_of (s := { s with heap := h' }) e c d (by decide) ⟨x, H, I1, ru, ⟨rfl, fun ys hy => by rw [I.list_inj hy hq]; exact hx⟩, st', fun b hb => (hf b hb).1⟩⟩
  done := by
    intro X hP hw hK hc i pins s σ H E I hf st hg
    subst hP hw hK
    obtain ⟨xs, hq, hx⟩ := hg
    obtain ⟨its, rv, p, hz⟩ := I.list hq
    obtain ⟨f0, f1, f2, f3, f4, f5⟩ := hf it (by simp)
    have hl := rv.length
    exact wpAny_pyNext_list_end (I.ok.hd hc) st p.isList (by simp; omega) fun h' eb => ⟨rfl, I.turned (t' := s.toks) (fun b o hb e => eb b o hb e) f0 f1 f3 f4 f5⟩
  self := fun _ _ _ _ _ st h => wpAny_pyIter_listiter st h
theorem turn_tuple {P : Program} {w : World} {K : PySem.W.Frag} {tg : Expr} (a it : Addr) : Turn P w K tg (Itt K a) [it] it (fun i h => h.IsTupleIter it a i) where
  mem := by simp
  obj := fun i h st b hb => by
    have e : b = it := by simpa using hb
    subst e
    obtain ⟨o, e, c, d⟩ := st
    exact ⟨o, e, fun v z => by rw [d] at z; cases z⟩
  keep := fun i h h' st k => st.at fun o e => k it (by simp) o e
  item := by
    intro X hP hw hK hc i pins s σ H E I hf st hg
    subst hP hw hK
    obtain ⟨xs, x, hq, hx⟩ := hg
    obtain ⟨its, rv, p, hz⟩ := I.tuple hq
    obtain ⟨u, hu, ru⟩ := rv.get hx
    obtain ⟨f0, f1, f2, f3, f4, f5⟩ := hf it (by simp)
    refine wpAny_pyNext_tuple_item st (show s.heap.IsTuple a its.toArray from p) (x := u) (by simpa using hu) fun h' st' sb => ?_
    have I1 : Inv X pins σ H { s with heap := h' } := I.turned (t' := s.toks) (fun b o hb e => (sb.2 b hb).trans e) f0 f1 f3 f4 f5
    obtain ⟨o, e, c, d⟩ := id st'
    exact ⟨u, rfl, go_of (s := { s with heap := h' }) e c d (by decide) ⟨x, H, I1, ru, ⟨rfl, fun ys hy => by rw [I.tuple_inj hy hq]; exact hx⟩, st', fun b hb => (hf b hb).1⟩⟩
  done := by
    intro X hP hw hK hc i pins s σ H E I hf st hg
    subst hP hw hK
    obtain ⟨xs, hq, hx⟩ := hg
    obtain ⟨its, rv, p, hz⟩ := I.tuple hq
    obtain ⟨f0, f1, f2, f3, f4, f5⟩ := hf it (by simp)
    have hl := rv.length
    exact wpAny_pyNext_tuple_end (I.ok.hd hc) st (show s.heap.IsTuple a its.toArray from p) (by simp; omega) fun h' eb => ⟨rfl, I.turned (t' := s.toks) (fun b o hb e => eb b o hb e) f0 f1 f3 f4 f5⟩
  self := fun _ _ _ _ _ st h => wpAny_pyIter_tupleiter st h
theorem turn_range {P : Program} {w : World} {K : PySem.W.Frag} {tg : Expr} (it : Addr) (lo : Int) (n : Nat) : Turn P w K tg (Itr lo n) [it] it (fun i h => IsRangeIter h it (lo + (i : Nat) * 1) ((n : Int) - (i : Nat)) 1) where
  mem := by simp
  obj := fun i h st b hb => by
    have e : b = it := by simpa using hb
    subst e
    exact ⟨_, st, fun v z => by
      have z' : Data.fields _ = Data.cell v := z
      cases z'⟩
  keep := fun i h h' st k => k it (by simp) _ st
  item := by
    intro X hP hw hK hc i pins s σ H E I hf st hg
    subst hP hw hK
    obtain ⟨f0, f1, f2, f3, f4, f5⟩ := hf it (by simp)
    have W := Walks.range (prog := X.prog) (w := X.w) (I.ok.hd hc) it lo 1 n
    refine W.item i s _ _ hg st fun v h' tk hv st' kk => ?_
    obtain ⟨t, rfl⟩ := hv
    have I1 : Inv X pins σ H { s with heap := h', toks := tk } := I.turned (fun b o hb e => kk b o (by simpa using hb) e) f0 f1 f3 f4 f5
    refine ⟨_, rfl, go_of (s := { s with heap := h', toks := tk }) (n := "range_iterator") st' rfl rfl (by decide) ⟨.int (lo + i), H, I1, ⟨t, ?_⟩, ⟨rfl, rfl⟩, st', fun b hb => (hf b hb).1⟩⟩
    rw [Int.mul_one]
  done := by
    intro X hP hw hK hc i pins s σ H E I hf st hg
    subst hP hw hK
    obtain ⟨f0, f1, f2, f3, f4, f5⟩ := hf it (by simp)
    exact wpAny_pyNext_range_end (I.ok.hd hc) st (by have : n ≤ i := hg; omega) fun h' eb => ⟨rfl, I.turned (t' := s.toks) (fun b o hb e => eb b o hb e) f0 f1 f3 f4 f5⟩
  self := fun _ _ _ _ _ st h => wpAny_pyIter_rangeiter st h
end L2
namespace L2
open PySem PySem.Spec PyProof.Rows
section
variable {X : Cx} {tg : Expr}
theorem range_it {pins : List (Addr × Obj)} {σ : St} {H : Hp} {s : Shared} {R : It → Hp → Prop} {E : Value → Shared → Prop} {lo hi : Int} {t u v : Tok} {tk : Nat} (I : Inv X pins σ H s) (h1 : -(2 ^ 62) ≤ lo) (h2 : lo < 2 ^ 62) (h3 : -(2 ^ 62) ≤ hi) (h4 : hi < 2 ^ 62)
    (q : R (Itr lo (hi - lo).toNat) H) : wpAny (model X.prog X.w) X.A (pyIter (.ref s.heap.objs.size)) (PIE X pins σ tg R) E { s with heap := s.heap.push { cls := .type "range", data := .fields #[.int lo t, .int hi u, .int 1 v] }, toks := tk } := by
  refine wpAny_pyIter_range (IsRange.new ..) (small_one h1 h2 h3 h4) ?_
  have I1 : Inv X pins σ H { s with heap := s.heap.push { cls := .type "range", data := .fields #[.int lo t, .int hi u, .int 1 v] }, toks := tk } := I.kept fun b o e => Heap.get?_push_of_some _ e
  refine ⟨(s.heap.push { cls := .type "range", data := .fields #[.int lo t, .int hi u, .int 1 v] }).objs.size, [(s.heap.push { cls := .type "range", data := .fields #[.int lo t, .int hi u, .int 1 v] }).objs.size], _, _, H, rfl,
    I1.kept (t' := tk) fun b o e => Heap.get?_push_of_some _ e, turn_range _ lo (hi - lo).toNat, ?_, fun b hb => ?_, q⟩
  · have e1 : lo + ((0 : Nat) : Int) * 1 = lo := by simp
    have e2 : (((hi - lo).toNat : Nat) : Int) - ((0 : Nat) : Int) = Builtin.Range.rangeSize lo hi 1 := by rw [rangeSize_one]; split <;> omega
    show IsRangeIter _ _ (lo + ((0 : Nat) : Int) * 1) ((((hi - lo).toNat : Nat) : Int) - ((0 : Nat) : Int)) 1
    rw [e1, e2]
    exact Heap.get?_push_size _ rfl
  · have e : b = (s.heap.push { cls := .type "range", data := .fields #[.int lo t, .int hi u, .int 1 v] }).objs.size := by simpa using hb
    subst e
    exact I1.fpOk (Nat.le_refl _) (I1.hok.fresh (Nat.le_refl _))
def iRng1 (ta : TA) : TI := fun σ H R => ta σ H fun vs H1 => ∃ j : Int, vs = [.int j] ∧ -(2 ^ 62) ≤ j ∧ j < 2 ^ 62 ∧ R (Itr 0 j.toNat) H1
def iRng2 (ta : TA) : TI := fun σ H R => ta σ H fun vs H1 => ∃ i j : Int, vs = [.int i, .int j] ∧ (-(2 ^ 62) ≤ i ∧ i < 2 ^ 62 ∧ -(2 ^ 62) ≤ j ∧ j < 2 ^ 62) ∧ R (Itr i (j - i).toNat) H1
theorem pi_range1 {a : Expr} {ta : TA} {p pos : Pos} (hg : Gl X "range") (hm : X.mg "range" = none) (ha : PA X [a] ta) (hs : starEach [a] X.env = [(false, eval a X.env)] := by rfl) : PI X tg (.Call (.Name "range" p) [a] [] pos) (iRng1 ta) := by
  intro pins s σ H R I h
  refine Call_ (ld_blt I hg hm boot_range (PyProof.Rows.callWith_type1 (thn (ha pos pins s σ H _ I h) fun us s1 ⟨vs, H1, I1, r1, q1⟩ => ?_) hs rfl))
  obtain ⟨j, e, q1, q2, q⟩ := q1
  subst e
  cases r1 with
  | cons r rr =>
    cases rr
    obtain ⟨t, rfl⟩ := r
    exact call_range_1 (range_it I1 (by omega) (by omega) q1 q2 (by simpa using q))
theorem pi_range2 {a b : Expr} {ta : TA} {p pos : Pos} (hg : Gl X "range") (hm : X.mg "range" = none) (ha : PA X [a, b] ta) (hs : starEach [a, b] X.env = [(false, eval a X.env), (false, eval b X.env)] := by rfl) (hs2 : starEach [b] X.env = [(false, eval b X.env)] := by rfl) :
    PI X tg (.Call (.Name "range" p) [a, b] [] pos) (iRng2 ta) := by
  intro pins s σ H R I h
  refine Call_ (ld_blt I hg hm boot_range (PyProof.Rows.callWith_type1 (thn (ha pos pins s σ H _ I h) fun us s1 ⟨vs, H1, I1, r1, q1⟩ => ?_) (by rw [hs, hs2]) (by rw [hs2]; rfl)))
  obtain ⟨i, j, e, ⟨q1, q2, q3, q4⟩, q⟩ := q1
  subst e
  cases r1 with
  | cons r rr =>
    cases rr with
    | cons r' rr =>
      cases rr
      obtain ⟨t, rfl⟩ := r
      obtain ⟨t', rfl⟩ := r'
      exact call_range_2 (range_it I1 q1 q2 q3 q4 q)
def tFor (wi : TI) (g : TG) (tb : TS) : TS := fun D σ H => wi σ H fun J H1 => ∃ W : Nat → Nat → St → Hp → Prop, (∃ m, W 0 m σ H1) ∧ ∀ i m σ H, W i m σ H →
  (J.stop i H ∧ D.nx σ H) ∨ (J.go i H ∧ ∃ N : St → Hp → Prop, (∀ σ' H', N σ' H' → ∃ m', m' < m ∧ W (i + 1) m' σ' H') ∧ ∀ x H', J.yld i H x H' → g x σ H' fun σ2 H2 => tb { D with nx := N, ct := N, bk := D.nx } σ2 H2)
def pinsAt (fp : List Addr) (h : Heap) : List (Addr × Obj) := fp.filterMap fun b => (h.get? b).map fun o => (b, o)
theorem mem_pinsAt {fp : List Addr} {h : Heap} {b : Addr} {o : Obj} (hb : b ∈ fp) (e : h.get? b = some o) : (b, o) ∈ pinsAt fp h := List.mem_filterMap.mpr ⟨b, hb, by rw [e]; rfl⟩
theorem of_pinsAt {fp : List Addr} {h : Heap} {p : Addr × Obj} (hp : p ∈ pinsAt fp h) : p.1 ∈ fp ∧ h.get? p.1 = some p.2 := by
  obtain ⟨b, hb, e⟩ := List.mem_filterMap.mp hp
  cases q : h.get? b with
  | none => rw [q] at e; cases e
  | some o =>
    rw [q] at e
    have e' : (b, o) = p := Option.some.inj e
    subst e'
    exact ⟨hb, q⟩
theorem Inv.pinned {pins : List (Addr × Obj)} {σ : St} {H : Hp} {s : Shared} {fp : List Addr} (I : Inv X pins σ H s) (hf : ∀ b ∈ fp, FpOk X pins H b) (ho : ∀ b ∈ fp, ∃ o, s.heap.get? b = some o ∧ ∀ v, o.data ≠ .cell v) : Inv X (pins ++ pinsAt fp s.heap) σ H s :=
  I.pins_of fun p hp => (List.mem_append.mp hp).elim (fun z => I.pin p (List.mem_append_right _ z)) fun z => by
    obtain ⟨hb, e⟩ := of_pinsAt z
    obtain ⟨f0, f1, f2, _⟩ := hf p.1 hb
    obtain ⟨o, e', d⟩ := ho p.1 hb
    rw [e] at e'; cases e'
    exact ⟨e, f0, f1, f2, d⟩
theorem Inv.unpinned {pins pl : List (Addr × Obj)} {σ : St} {H : Hp} {s : Shared} (I : Inv X (pins ++ pl) σ H s) : Inv X pins σ H s := I.pins_of fun p hp => I.pin p (List.mem_append_right _ (List.mem_append_left _ hp))
theorem ps_for {iter : Expr} {body : List Stmt} {wi : TI} {g : TG} {tb : TS} {pos : Pos} (hp : PassesOwn (model X.prog X.w) X.A X.env X.xe) (hc : X.calm = true) (hi : PI X tg iter wi) (hg : PG X tg g) (hb : PSs X body tb)
    (hs : ∀ x, foldedSetIterable iter X.env x = pure x := by intro _; rfl) : PS X (.For tg iter body [] pos) (tFor wi g tb) := by
  intro pins s σ H D I h
  refine wpAny_For (thn (hi pins s σ H _ I h) fun v s1 h1 => thn h1 fun itv s2 h2 => ?_) hs
  obtain ⟨it, fp, tn, J, H2, e, I2, T, st2, f2, W, ⟨m0, w0⟩, turn⟩ := h2
  subst e
  have stat : ∀ {H' : Hp}, (∀ b ∈ fp, H' b = none) → ∀ b ∈ fp, FpOk X pins H' b := fun hn b hb => ⟨hn b hb, (f2 b hb).2⟩
  refine codeAny_forLoop_any (fun n s' => ∃ i σ' H', Inv X pins σ' H' s' ∧ tn i s'.heap ∧ (∀ b ∈ fp, H' b = none) ∧ W i n σ' H') ?_ m0 ⟨0, σ, H2, I2, st2, fun b hb => (f2 b hb).1, w0⟩
  rintro n s3 ⟨i, σ3, H3, I3, st3, fr3, w3⟩
  rcases turn i n σ3 H3 w3 with ⟨stop, qn⟩ | ⟨go, N, hN, step⟩
  · refine wpAny_passesOwn hp (thn (T.done X rfl rfl rfl hc i pins s3 σ3 H3 X.xe I3 (stat fr3) st3 stop) fun r s4 ⟨hr, I4⟩ => ?_)
    subst hr
    exact wpAny_execs_nil ⟨σ3, H3, I4, qn⟩
  · refine wpAny_passesOwn hp (thn (T.item X rfl rfl rfl hc i pins s3 σ3 H3 X.xe I3 (stat fr3) st3 go) fun r s4 ⟨u, hr, h4⟩ => ?_)
    subst hr
    refine wpAny_passesOwn hp (thn h4 fun _ s5 ⟨x, H5, I5, r5, y5, st5, fr5⟩ => ?_)
    have I5' := I5.pinned (stat fr5) (T.obj _ _ st5)
    refine wpAny_passesOwn hp (thn (hg _ s5 σ3 H5 x u _ I5' r5 (step x H5 y5)) fun _ s6 ⟨σ6, H6, I6, q6⟩ => ?_)
    refine wpAny_passesOwn hp (thn (hb _ s6 σ6 H6 _ I6 q6) fun f s7 q7 => ?_)
    have again : ∀ {σ7 : St} {H7 : Hp}, Inv X (pins ++ pinsAt fp s5.heap) σ7 H7 s7 → N σ7 H7 → ∃ m, m < n ∧ ∃ i σ' H', Inv X pins σ' H' s7 ∧ tn i s7.heap ∧ (∀ b ∈ fp, H' b = none) ∧ W i m σ' H' := fun {σ7 H7} I7 n7 => by
      obtain ⟨m', hm, w7⟩ := hN σ7 H7 n7
      refine ⟨m', hm, i + 1, σ7, H7, I7.unpinned, T.keep _ _ _ st5 fun b hb o e => (I7.pin (b, o) (List.mem_append_right _ (List.mem_append_right _ (mem_pinsAt hb e)))).1, fun b hb => ?_, w7⟩
      obtain ⟨o, e, d⟩ := T.obj _ _ st5 b hb
      exact (I7.pin (b, o) (List.mem_append_right _ (List.mem_append_right _ (mem_pinsAt hb e)))).2.1
    cases f with
    | next => obtain ⟨σ7, H7, I7, n7⟩ := q7; exact again I7 n7
    | cont => obtain ⟨σ7, H7, I7, n7⟩ := q7; exact again I7 n7
    | brk => obtain ⟨σ7, H7, I7, q7⟩ := q7; exact ⟨σ7, H7, I7.unpinned, q7⟩
    | ret v => obtain ⟨x7, σ7, H7, I7, r7, q7⟩ := q7; exact ⟨x7, σ7, H7, I7.unpinned, r7, q7⟩
end
theorem for_list {K : PySem.W.Frag} {a : Addr} {xs : List V} {g : TG} {tb : TS} {D : Ends} {σ : St} {H : Hp} (Pv : Nat → St → Hp → Prop) (h0 : Pv 0 σ H) (hl : ∀ i σ H, i ≤ xs.length → Pv i σ H → SqL K H a xs)
    (hs : ∀ i x σ H, xs[i]? = some x → Pv i σ H → g x σ H fun σ2 H2 => tb { D with nx := Pv (i + 1), ct := Pv (i + 1), bk := D.nx } σ2 H2) (hd : ∀ σ H, Pv xs.length σ H → D.nx σ H) :
    ∃ W : Nat → Nat → St → Hp → Prop, (∃ m, W 0 m σ H) ∧ ∀ i m σ H, W i m σ H →
      ((Itl K a).stop i H ∧ D.nx σ H) ∨ ((Itl K a).go i H ∧ ∃ N : St → Hp → Prop, (∀ σ' H', N σ' H' → ∃ m', m' < m ∧ W (i + 1) m' σ' H') ∧ ∀ x H', (Itl K a).yld i H x H' → g x σ H' fun σ2 H2 => tb { D with nx := N, ct := N, bk := D.nx } σ2 H2) := by
  refine ⟨fun i m σ H => m = xs.length - i ∧ i ≤ xs.length ∧ Pv i σ H, ⟨xs.length, by simp, Nat.zero_le _, h0⟩, ?_⟩
  rintro i m σ H ⟨rfl, hi, p⟩
  have q := hl i σ H hi p
  by_cases hlt : i < xs.length
  · refine .inr ⟨⟨xs, xs[i], q, by simp [hlt]⟩, Pv (i + 1), fun σ' H' p' => ⟨xs.length - (i + 1), by omega, rfl, hlt, p'⟩, fun x H' y => ?_⟩
    obtain ⟨e, y⟩ := y
    subst e
    exact hs i x σ _ (y xs q) p
  · have e : i = xs.length := by omega
    subst e
    exact .inl ⟨⟨xs, q, Nat.le_refl _⟩, hd σ H p⟩
theorem for_tup {K : PySem.W.Frag} {a : Addr} {xs : List V} {g : TG} {tb : TS} {D : Ends} {σ : St} {H : Hp} (Pv : Nat → St → Hp → Prop) (h0 : Pv 0 σ H) (hl : ∀ i σ H, i ≤ xs.length → Pv i σ H → SqT K H a xs)
    (hs : ∀ i x σ H, xs[i]? = some x → Pv i σ H → g x σ H fun σ2 H2 => tb { D with nx := Pv (i + 1), ct := Pv (i + 1), bk := D.nx } σ2 H2) (hd : ∀ σ H, Pv xs.length σ H → D.nx σ H) :
    ∃ W : Nat → Nat → St → Hp → Prop, (∃ m, W 0 m σ H) ∧ ∀ i m σ H, W i m σ H →
      ((Itt K a).stop i H ∧ D.nx σ H) ∨ ((Itt K a).go i H ∧ ∃ N : St → Hp → Prop, (∀ σ' H', N σ' H' → ∃ m', m' < m ∧ W (i + 1) m' σ' H') ∧ ∀ x H', (Itt K a).yld i H x H' → g x σ H' fun σ2 H2 => tb { D with nx := N, ct := N, bk := D.nx } σ2 H2) := by
  refine ⟨fun i m σ H => m = xs.length - i ∧ i ≤ xs.length ∧ Pv i σ H, ⟨xs.length, by simp, Nat.zero_le _, h0⟩, ?_⟩
  rintro i m σ H ⟨rfl, hi, p⟩
  have q := hl i σ H hi p
  by_cases hlt : i < xs.length
  · refine .inr ⟨⟨xs, xs[i], q, by simp [hlt]⟩, Pv (i + 1), fun σ' H' p' => ⟨xs.length - (i + 1), by omega, rfl, hlt, p'⟩, fun x H' y => ?_⟩
    obtain ⟨e, y⟩ := y
    subst e
    exact hs i x σ _ (y xs q) p
  · have e : i = xs.length := by omega
    subst e
    exact .inl ⟨⟨xs, q, Nat.le_refl _⟩, hd σ H p⟩
theorem for_range {lo : Int} {n : Nat} {g : TG} {tb : TS} {D : Ends} {σ : St} {H : Hp} (Pv : Nat → St → Hp → Prop) (h0 : Pv 0 σ H)
    (hs : ∀ i σ H, i < n → Pv i σ H → g (.int (lo + i)) σ H fun σ2 H2 => tb { D with nx := Pv (i + 1), ct := Pv (i + 1), bk := D.nx } σ2 H2) (hd : ∀ σ H, Pv n σ H → D.nx σ H) :
    ∃ W : Nat → Nat → St → Hp → Prop, (∃ m, W 0 m σ H) ∧ ∀ i m σ H, W i m σ H →
      ((Itr lo n).stop i H ∧ D.nx σ H) ∨ ((Itr lo n).go i H ∧ ∃ N : St → Hp → Prop, (∀ σ' H', N σ' H' → ∃ m', m' < m ∧ W (i + 1) m' σ' H') ∧ ∀ x H', (Itr lo n).yld i H x H' → g x σ H' fun σ2 H2 => tb { D with nx := N, ct := N, bk := D.nx } σ2 H2) := by
  refine ⟨fun i m σ H => m = n - i ∧ i ≤ n ∧ Pv i σ H, ⟨n, by simp, Nat.zero_le _, h0⟩, ?_⟩
  rintro i m σ H ⟨rfl, hi, p⟩
  by_cases hlt : i < n
  · refine .inr ⟨hlt, Pv (i + 1), fun σ' H' p' => ⟨n - (i + 1), by omega, rfl, hlt, p'⟩, fun x H' y => ?_⟩
    obtain ⟨e, y⟩ := y
    subst e y
    exact hs i σ _ hlt p
  · have e : i = n := by omega
    subst e
    exact .inl ⟨Nat.le_refl _, hd σ H p⟩
end L2
namespace L2
open PySem PySem.Spec PyProof.Rows
abbrev R2 := V → V → Hp → VK → Prop
def OpR (X : Cx) (f : Value → Value → Sem Value) (r : R2) : Prop :=
  ∀ (pins : List (Addr × Obj)) (s : Shared) (σ : St) (H : Hp) (x y : V) (v u : Value) (Q : VK), Inv X pins σ H s → RelV x v → RelV y u → r x y H Q →
    wpAny (model X.prog X.w) X.A (f v u) (EP X pins σ Q) X.xe s
def UnR (X : Cx) (f : Value → Sem Value) (r : V → Hp → VK → Prop) : Prop :=
  ∀ (pins : List (Addr × Obj)) (s : Shared) (σ : St) (H : Hp) (x : V) (v : Value) (Q : VK), Inv X pins σ H s → RelV x v → r x H Q →
    wpAny (model X.prog X.w) X.A (f v) (EP X pins σ Q) X.xe s
def CallR (X : Cx) (f : Value) (r : List V → Hp → VK → Prop) : Prop :=
  ∀ (pins : List (Addr × Obj)) (s : Shared) (σ : St) (H : Hp) (xs : List V) (us : List Value) (Q : VK), Inv X pins σ H s → Vals xs us → r xs H Q →
    wpAny (model X.prog X.w) X.A (call f us) (EP X pins σ Q) X.xe s
def tOp (r : R2) (ta tb : TE) : TE := fun σ H Q => ta σ H fun x H1 => tb σ H1 fun y H2 => r x y H2 Q
def tUn (r : V → Hp → VK → Prop) (ta : TE) : TE := fun σ H Q => ta σ H fun x H1 => r x H1 Q
def rI (C : Int → Int → Prop) (g : Int → Int → V) : R2 := fun x y H Q => ∃ i j, x = .int i ∧ y = .int j ∧ C i j ∧ Q (g i j) H
def rI0 (g : Int → Int → V) : R2 := fun x y H Q => ∃ i j, x = .int i ∧ y = .int j ∧ Q (g i j) H
def rU (g : Int → V) : V → Hp → VK → Prop := fun x H Q => ∃ i, x = .int i ∧ Q (g i) H
section
variable {X : Cx} {a b c : Expr} {ta tb tc : TE} {pos : Pos}
theorem binT (ha : PE X a ta) (hb : PE X b tb) {pins : List (Addr × Obj)} {s : Shared} {σ : St} {H : Hp} {R : V → V → Hp → Prop} (I : Inv X pins σ H s)
    (h : ta σ H fun x H1 => tb σ H1 fun y H2 => R x y H2) {Q : Value → Shared → Prop} {f : Value → Value → Sem Value}
    (hf : ∀ v u s2 x y H2, Inv X pins σ H2 s2 → RelV x v → RelV y u → R x y H2 → wpAny (model X.prog X.w) X.A (f v u) Q X.xe s2) :
    wpAny (model X.prog X.w) X.A (eval a X.env) (fun v s₁ => wpAny (model X.prog X.w) X.A (eval b X.env) (fun u s₂ => wpAny (model X.prog X.w) X.A (f v u) Q X.xe s₂) X.xe s₁) X.xe s := by
  refine thn (ha pins s σ H _ I h) fun v s1 ⟨x, H1, I1, r1, q1⟩ => ?_
  refine thn (hb pins s1 σ H1 _ I1 q1) fun u s2 ⟨y, H2, I2, r2, q2⟩ => ?_
  exact hf v u s2 x y H2 I2 r1 r2 q2
theorem pe_op {op : Operator} {r : R2} (ho : OpR X (binaryOp op) r) (ha : PE X a ta) (hb : PE X b tb) : PE X (.BinOp a op b pos) (tOp r ta tb) := by
  intro pins s σ H Q I h
  exact wpAny_BinOp (binT ha hb I h fun v u s2 x y H2 I2 rx ry q => ho pins s2 σ H2 x y v u Q I2 rx ry q)
theorem pe_un {op : UnaryOp} {r : V → Hp → VK → Prop} (ho : UnR X (unaryOp op) r) (ha : PE X a ta) : PE X (.UnaryOp op a pos) (tUn r ta) := by
  intro pins s σ H Q I h
  exact UnaryOp_ (thn (ha pins s σ H _ I h) fun v s1 ⟨x, H1, I1, r1, q1⟩ => ho pins s1 σ H1 x v Q I1 r1 q1)
theorem opI {f : Value → Value → Sem Value} {C : Int → Int → Prop} {g : Int → Int → Int}
    (rule : ∀ (i j : Int) (t u : Tok) (s : Shared) (Q : Value → Shared → Prop) (E : Value → Shared → Prop), C i j → Q (.int (g i j) s.toks) { s with toks := s.toks + 1 } → wpAny (model X.prog X.w) X.A (f (.int i t) (.int j u)) Q E s) :
    OpR X f (rI C fun i j => .int (g i j)) := by
  intro pins s σ H x y v u Q I rx ry h
  obtain ⟨i, j, rfl, rfl, hc, q⟩ := h
  obtain ⟨t, rfl⟩ := rx
  obtain ⟨t', rfl⟩ := ry
  exact rule i j t t' s _ _ hc ⟨.int (g i j), H, I.tok _, ⟨_, rfl⟩, q⟩
theorem opI0 {f : Value → Value → Sem Value} {g : Int → Int → Int}
    (rule : ∀ (i j : Int) (t u : Tok) (s : Shared) (Q : Value → Shared → Prop) (E : Value → Shared → Prop), Q (.int (g i j) s.toks) { s with toks := s.toks + 1 } → wpAny (model X.prog X.w) X.A (f (.int i t) (.int j u)) Q E s) :
    OpR X f (rI0 fun i j => .int (g i j)) := by
  intro pins s σ H x y v u Q I rx ry h
  obtain ⟨i, j, rfl, rfl, q⟩ := h
  obtain ⟨t, rfl⟩ := rx
  obtain ⟨t', rfl⟩ := ry
  exact rule i j t t' s _ _ ⟨.int (g i j), H, I.tok _, ⟨_, rfl⟩, q⟩
theorem opB0 {f : Value → Value → Sem Value} {g : Int → Int → Bool}
    (rule : ∀ (i j : Int) (t u : Tok) (s : Shared) (Q : Value → Shared → Prop) (E : Value → Shared → Prop), Q (.bool (g i j)) s → wpAny (model X.prog X.w) X.A (f (.int i t) (.int j u)) Q E s) :
    OpR X f (rI0 fun i j => .bl (g i j)) := by
  intro pins s σ H x y v u Q I rx ry h
  obtain ⟨i, j, rfl, rfl, q⟩ := h
  obtain ⟨t, rfl⟩ := rx
  obtain ⟨t', rfl⟩ := ry
  exact rule i j t t' s _ _ ⟨.bl (g i j), H, I, rfl, q⟩
def CDiv (i j : Int) : Prop := 0 < j ∧ j < 1073741824
def CPow (i j : Int) : Prop := 0 ≤ j ∧ j ≤ 1000000 ∧ i.natAbs < 2 ^ 64
def CMul (i j : Int) : Prop := (-(2 ^ 64) < i ∧ i < 2 ^ 64) ∨ (-(2 ^ 64) < j ∧ j < 2 ^ 64)
theorem CMul.ok {i j : Int} (h : CMul i j) : IntMulOk i j := by
  rcases h with ⟨h1, h2⟩ | ⟨h1, h2⟩
  · exact .of_left (intBits_le_64 h1 h2)
  · exact .of_right (intBits_le_64 h1 h2)
theorem two_pow_nn (k : Nat) : (0 : Int) ≤ 2 ^ k := by
  rw [two_pow_cast]
  exact Int.natCast_nonneg _
theorem op_add : OpR X (binaryOp .Add) (rI0 fun i j => .int (i + j)) := opI0 fun _ _ _ _ _ _ _ q => add_int q
theorem op_sub : OpR X (binaryOp .Sub) (rI0 fun i j => .int (i - j)) := opI0 fun _ _ _ _ _ _ _ q => sub_int q
theorem op_mul : OpR X (binaryOp .Mult) (rI CMul fun i j => .int (i * j)) := opI fun _ _ _ _ _ _ _ hc q => mul_int q hc.ok
theorem op_fdiv : OpR X (binaryOp .FloorDiv) (rI CDiv fun i j => .int (i / j)) := opI fun i j _ _ _ _ _ hc q => by
  have h1 : (0 : Int) < j := hc.1
  have h2 : j < 1073741824 := hc.2
  exact floordiv_int (by omega) (by rw [Int.fdiv_eq_ediv_of_nonneg i (by omega)]; exact q) (.inl (PyProof.noPylong_small (by omega)))
theorem op_mod : OpR X (binaryOp .Mod) (rI (fun _ j => 0 < j) fun i j => .int (i % j)) := opI fun i j _ _ _ _ _ hc q => by
  have h1 : (0 : Int) < j := hc
  exact mod_int' (by omega) (by rw [Int.fmod_eq_emod_of_nonneg i (by omega)]; exact q)
theorem op_pow : OpR X (binaryOp .Pow) (rI CPow fun i j => .int (i ^ j.toNat)) := opI fun _ _ _ _ _ _ _ hc q => pow_int_small hc.1 hc.2.1 hc.2.2 q
theorem op_shl : OpR X (binaryOp .LShift) (rI CPow fun i j => .int (i * 2 ^ j.toNat)) := opI fun _ _ _ _ _ _ _ hc q => lshift_int_small hc.1 hc.2.1 hc.2.2 q
theorem op_shr : OpR X (binaryOp .RShift) (rI (fun _ j => 0 ≤ j) fun i j => .int (i / 2 ^ j.toNat)) := opI fun i j _ _ _ _ _ hc q =>
  rshift_int hc (by rw [Int.fdiv_eq_ediv_of_nonneg i (two_pow_nn _)]; exact q)
theorem op_and : OpR X (binaryOp .BitAnd) (rI0 fun i j => .int (Builtin.bitAnd i j)) := opI0 fun _ _ _ _ _ _ _ q => and_int q
theorem op_or : OpR X (binaryOp .BitOr) (rI0 fun i j => .int (Builtin.bitOr i j)) := opI0 fun _ _ _ _ _ _ _ q => or_int q
theorem unI {f : Value → Sem Value} {g : Int → Int}
    (rule : ∀ (i : Int) (t : Tok) (s : Shared) (Q : Value → Shared → Prop) (E : Value → Shared → Prop), Q (.int (g i) s.toks) { s with toks := s.toks + 1 } → wpAny (model X.prog X.w) X.A (f (.int i t)) Q E s) :
    UnR X f (rU fun i => .int (g i)) := by
  intro pins s σ H x v Q I rx h
  obtain ⟨i, rfl, q⟩ := h
  obtain ⟨t, rfl⟩ := rx
  exact rule i t s _ _ ⟨.int (g i), H, I.tok _, ⟨_, rfl⟩, q⟩
theorem un_neg : UnR X (unaryOp .USub) (rU fun i => .int (-i)) := unI fun _ _ _ _ _ q => neg_int q
end
def scal : V → V → Bool
  | .non, .non => true | .non, .int _ => true | .int _, .non => true | .non, .bl _ => true | .bl _, .non => true | .non, .str _ => true | .str _, .non => true
  | .int _, .int _ => true | .bl _, .bl _ => true | .str _, .str _ => true | .byt _, .byt _ => true
  | .int _, .str _ => true | .str _, .int _ => true | .bl _, .str _ => true | .str _, .bl _ => true
  | _, _ => false
def rEq : R2 := fun x y H Q => scal x y = true ∧ Q (.bl (decide (x = y))) H
theorem dec_bl {i j : Bool} : decide (V.bl i = V.bl j) = (i == j) := by
  rw [Bool.eq_iff_iff]
  simp
section
variable {X : Cx} {a b c : Expr} {ta tb tc : TE} {pos : Pos}
theorem fin_bl {pins : List (Addr × Obj)} {σ : St} {H : Hp} {s : Shared} {Q : VK} {k k' : Bool} (I : Inv X pins σ H s) (q : Q (.bl k) H) (e : k = k') : EP X pins σ Q (.bool k') s := by
  subst e
  exact ⟨.bl k, H, I, rfl, q⟩
theorem op_lt : OpR X (compareOp .Lt) (rI0 fun i j => .bl (decide (i < j))) := opB0 fun _ _ _ _ _ _ _ q => lt_int q
theorem op_le : OpR X (compareOp .LtE) (rI0 fun i j => .bl (decide (i ≤ j))) := opB0 fun _ _ _ _ _ _ _ q => le_int q
theorem op_gt : OpR X (compareOp .Gt) (rI0 fun i j => .bl (decide (j < i))) := opB0 fun _ _ _ _ _ _ _ q => gt_int q
theorem op_ge : OpR X (compareOp .GtE) (rI0 fun i j => .bl (decide (j ≤ i))) := opB0 fun _ _ _ _ _ _ _ q => ge_int q
theorem op_isN : OpR X (compareOp .Is) (fun x y H Q => y = .non ∧ Q (.bl (decide (x = .non))) H) := by
  intro pins s σ H x y v u Q I rx ry h
  obtain ⟨rfl, q⟩ := h
  cases ry
  refine is_none_gen (fin_bl I q ?_)
  cases x <;> first
    | (cases rx; rfl)
    | (obtain ⟨t, rfl⟩ := rx; rfl)
theorem nomark (b : Expr) {op : CmpOp} (h : op ≠ .In := by decide) (h2 : op ≠ .NotIn := by decide) : behindInMarks op b = false := by
  have e1 : (op == CmpOp.In) = false := by cases op <;> first | rfl | exact absurd rfl h
  have e2 : (op == CmpOp.NotIn) = false := by cases op <;> first | rfl | exact absurd rfl h2
  cases b <;> simp [behindInMarks, e1, e2]
theorem pe_cmpR {op : CmpOp} {r : R2} (ho : OpR X (compareOp op) r) (ha : PE X a ta) (hb : PE X b tb) (hm : behindInMarks op b = false) : PE X (.Compare a [op] [b] pos) (tOp r ta tb) := by
  intro pins s σ H Q I h
  exact wpAny_Compare1 (binT ha hb I h fun v u s2 x y H2 I2 rx ry q => ho pins s2 σ H2 x y v u Q I2 rx ry q) hm
def tTest (t : TE) : TT := fun σ H Q => t σ H fun x H' => ∃ k, x = .bl k ∧ Q k H'
theorem pt_cmpR {op : CmpOp} {r : R2} (ho : OpR X (compareOp op) r) (ha : PE X a ta) (hb : PE X b tb) (hm : behindInMarks op b = false) : PT X (.Compare a [op] [b] pos) (tTest (tOp r ta tb)) := by
  intro pins s σ H Q I h
  refine wpAny_isTrue_Compare1 (thn (ha pins s σ H _ I h) fun v s1 ⟨x, H1, I1, r1, q1⟩ => thn (hb pins s1 σ H1 _ I1 q1) fun u s2 ⟨y, H2, I2, r2, q2⟩ =>
    thn (ho pins s2 σ H2 x y v u _ I2 r1 r2 q2) fun c s3 ⟨z, H3, I3, r3, k, e, q3⟩ => ?_) hm
  subst e
  cases r3
  exact wpAny_truthy_bool ⟨H3, I3, q3⟩
def tChain (r r' : R2) (ta tb tc : TE) : TE := fun σ H Q => ta σ H fun x H1 => tb σ H1 fun y H2 => r x y H2 fun z H3 => ∃ k, z = .bl k ∧
  (if k = true then tc σ H3 fun w' H4 => r' y w' H4 Q else Q (.bl false) H3)
theorem pe_chain {op op' : CmpOp} {r r' : R2} (ho : OpR X (compareOp op) r) (ho' : OpR X (compareOp op') r') (ha : PE X a ta) (hb : PE X b tb) (hc : PE X c tc)
    (hm : lastMarks [op, op'] [b, c] = false := by with_unfolding_all rfl) : PE X (.Compare a [op, op'] [b, c] pos) (tChain r r' ta tb tc) := by
  intro pins s σ H Q I h
  refine Compare_chain (thn (ha pins s σ H _ I h) fun v s1 ⟨x, H1, I1, r1, q1⟩ => chain_link (thn (hb pins s1 σ H1 _ I1 q1) fun u s2 ⟨y, H2, I2, r2, q2⟩ =>
    thn (ho pins s2 σ H2 x y v u _ I2 r1 r2 q2) fun d s3 ⟨z, H3, I3, r3, k, e, q3⟩ => ?_)) hm
  subst e
  cases r3
  refine wpAny_truthy_bool ?_
  cases k with
  | false => exact ite_ff ⟨.bl false, H3, I3, rfl, q3⟩
  | true => exact ite_tt (chain_last (thn (hc pins s3 σ H3 _ I3 q3) fun w' s4 ⟨z', H4, I4, r4, q4⟩ => ho' pins s4 σ H4 y z' u w' Q I4 r2 r4 q4))
theorem pt_chain {op op' : CmpOp} {r r' : R2} (ho : OpR X (compareOp op) r) (ho' : OpR X (compareOp op') r') (ha : PE X a ta) (hb : PE X b tb) (hc : PE X c tc)
    (hm : lastMarks [op, op'] [b, c] = false := by with_unfolding_all rfl) : PT X (.Compare a [op, op'] [b, c] pos) (tTest (tChain r r' ta tb tc)) := by
  intro pins s σ H Q I h
  refine isTrue_chain (thn (ha pins s σ H _ I h) fun v s1 ⟨x, H1, I1, r1, q1⟩ => test_link (thn (hb pins s1 σ H1 _ I1 q1) fun u s2 ⟨y, H2, I2, r2, q2⟩ =>
    thn (ho pins s2 σ H2 x y v u _ I2 r1 r2 q2) fun d s3 ⟨z, H3, I3, r3, k, e, q3⟩ => ?_)) hm
  subst e
  cases r3
  refine wpAny_truthy_bool ?_
  cases k with
  | false =>
    obtain ⟨k', e', q'⟩ := q3
    cases e'
    exact ite_ff ⟨H3, I3, q'⟩
  | true =>
    refine ite_tt (test_last (thn (hc pins s3 σ H3 _ I3 q3) fun w' s4 ⟨z', H4, I4, r4, q4⟩ => thn (ho' pins s4 σ H4 y z' u w' _ I4 r2 r4 q4) fun d' s5 ⟨z2, H5, I5, r5, k2, e2, q5⟩ => ?_))
    subst e2
    cases r5
    exact wpAny_truthy_bool ⟨H5, I5, q5⟩
theorem line63 : (sizeLine : Nat) < 2 ^ 63 := by rw [sizeLine_eq]; decide
theorem op_add_str : OpR X (binaryOp .Add) (fun x y H Q => ∃ i j, x = .str i ∧ y = .str j ∧ i.length + j.length ≤ sizeLine ∧ Q (.str (i ++ j)) H) := by
  intro pins s σ H x y v u Q I rx ry h
  obtain ⟨i, j, rfl, rfl, hz, q⟩ := h
  obtain ⟨t, rfl⟩ := rx
  obtain ⟨t', rfl⟩ := ry
  exact add_str (fun t' tk => ⟨.str (i ++ j), H, I.tok _, ⟨_, rfl⟩, q⟩) hz
theorem vals1 {x : V} {us : List Value} (r : Vals [x] us) : ∃ u, us = [u] ∧ RelV x u := by
  cases r with
  | cons r1 r2 => cases r2; exact ⟨_, rfl, r1⟩
theorem vals2 {x y : V} {us : List Value} (r : Vals [x, y] us) : ∃ u w', us = [u, w'] ∧ RelV x u ∧ RelV y w' := by
  cases r with
  | cons r1 r2 =>
    cases r2 with
    | cons r3 r4 => cases r4; exact ⟨_, _, rfl, r1, r3⟩
theorem call_max2 (hc : X.calm = true) : CallR X (.builtin "max") (fun xs H Q => ∃ i j, xs = [.int i, .int j] ∧ Q (.int (if j > i then j else i)) H) := by
  intro pins s σ H xs us Q I r h
  obtain ⟨i, j, rfl, q⟩ := h
  obtain ⟨u, w', rfl, ⟨t, rfl⟩, ⟨t', rfl⟩⟩ := vals2 r
  refine max_two_ints (I.ok.hd hc) fun h' tk k => ⟨_, H, I.kept k, ?_, q⟩
  by_cases hj : j > i
  · rw [if_pos hj, if_pos hj]; exact ⟨_, rfl⟩
  · rw [if_neg hj, if_neg hj]; exact ⟨_, rfl⟩
theorem call_min2 (hc : X.calm = true) : CallR X (.builtin "min") (fun xs H Q => ∃ i j, xs = [.int i, .int j] ∧ Q (.int (if j < i then j else i)) H) := by
  intro pins s σ H xs us Q I r h
  obtain ⟨i, j, rfl, q⟩ := h
  obtain ⟨u, w', rfl, ⟨t, rfl⟩, ⟨t', rfl⟩⟩ := vals2 r
  refine min_two_ints (I.ok.hd hc) fun h' tk k => ⟨_, H, I.kept k, ?_, q⟩
  by_cases hj : j < i
  · rw [if_pos hj, if_pos hj]; exact ⟨_, rfl⟩
  · rw [if_neg hj, if_neg hj]; exact ⟨_, rfl⟩
end
end L2
namespace L2
open PySem PySem.Spec PyProof.Rows
structure ObjM (h : Heap) (x dx C : Addr) (mA : Str → Option Value) : Prop where
  obj : h.get? x = some (PySem.W.instObj C dx)
  ns : h.Ns1 dx mA
  ne : dx ≠ x
theorem lookIn_ns {h : Heap} {dx : Addr} {mA : Str → Option Value} (n : h.Ns1 dx mA) : ∃ od, h.get? dx = some od ∧ ∀ name, PySem.W.lookIn name od = some (mA name) := by
  obtain ⟨o, es, ep, ho, hd, hk, _, hm⟩ := n
  refine ⟨o, ho, fun name => ?_⟩
  have e := hm name
  unfold nsFind findBy at e
  rw [← Array.find?_toList] at e
  unfold PySem.W.lookIn
  rw [hd]
  dsimp only
  split
  · rename_i y q
    rw [q] at e
    exact congrArg some e
  · rename_i q
    rw [q] at e
    have a : es.toList.any (·.refKey) = false := by
      rw [List.any_eq_false]
      intro y hy
      obtain ⟨z, t, hkey⟩ := hk y (Array.mem_toList_iff.mp hy)
      simp [DictEntry.refKey, hkey]
    have a' : ¬ es.toList.any (·.refKey) = true := by rw [a]; exact Bool.false_ne_true
    rw [if_neg a']
    exact congrArg some e
theorem ObjM.look {h : Heap} {x dx C : Addr} {mA : Str → Option Value} (I : ObjM h x dx C mA) : ∃ od, PySem.W.InstAt h x (PySem.W.instObj C dx) C (some od) ∧ ∀ name, PySem.W.lookIn name od = some (mA name) :=
  let ⟨od, ho, hl⟩ := lookIn_ns I.ns
  ⟨od, ⟨I.obj, rfl, rfl, ho⟩, hl⟩
section
variable {prog : Program} {w : World} {A : Around} {E : Value → Shared → Prop} {s : Shared} {K : PySem.W.Frag} {x dx C f : Addr} {mA : Str → Option Value} {name : Str} {v : Value}
theorem get_map {expr : Bool} {Q : Value → Shared → Prop} (X : K.In s.heap) (I : ObjM s.heap x dx C mA) (hg : PySem.W.plainGet K C name = true) (hh : PySem.W.hasDictIn K C = true)
    (ha : PySem.W.findIn K (.ref C) name = some none) (hv : mA name = some v) (hv' : PySem.W.handedIn v = true) (h : Q v { s with toks := s.toks + 1 }) :
    wpAny (model prog w) A (getAttr (.ref x) name expr) Q E s := by
  obtain ⟨od, J, hl⟩ := I.look
  exact PySem.W.get_value X J (PySem.W.plainGet_of hg).1 (PySem.W.findObj_own hh ha rfl (by rw [hl, hv])) hv' h
theorem get_meth {pl : Sem Bool} {Q : Value × List Value → Shared → Prop} (X : K.In s.heap) (I : ObjM s.heap x dx C mA) (hg : PySem.W.plainGet K C name = true)
    (hf : PySem.W.findIn K (.ref C) name = some (some (.ref f))) (ht : PySem.W.isFn K (.ref f) = true) (hv : mA name = none) (h : Q (.ref f, [.ref x]) s) :
    wpAny (model prog w) A (getMethod (.ref x) name pl) Q E s := by
  obtain ⟨od, J, hl⟩ := I.look
  exact PySem.W.method_fn X J (PySem.W.plainGet_of hg).1 (PySem.W.plainGet_of hg).2 hf (beq_iff_eq.mp ht) (by show (PySem.W.lookIn name od).map (·.isSome) = some false; rw [hl, hv]; rfl) h
theorem set_map {ns : List Str} {Q : Unit → Shared → Prop} (X : K.In s.heap) (I : ObjM s.heap x dx C mA)
    (hs : PySem.W.findIn K (.ref C) "__setattr__" = some (some (.builtin "object.__setattr__"))) (hp : PySem.W.plainOver K C = true) (ht : PySem.W.takerIn K C name = some none) (hh : PySem.W.hasDictIn K C = true)
    (hw : PySem.Within mA ns) (hsz : ns.length ≤ sizeLine)
    (h : ∀ h', ObjM h' x dx C (fun y => if y = name then some v else mA y) → Heap.SameBut dx s.heap h' → Q () { s with heap := h', toks := s.toks + 2 }) :
    wpAny (model prog w) A (setAttr (.ref x) name v) Q E s := by
  obtain ⟨od, J, hl⟩ := I.look
  refine PySem.W.set_plain X J hs (PySem.W.osa_open (s := { s with toks := s.toks + 1 }) (r := none) X J hp ht fun b => ?_)
  obtain ⟨cd, hc, hd'⟩ := PySem.W.any_some hh
  have hx : s.heap.get? x = some ⟨.ref C, some dx, .plain, #[]⟩ := I.obj
  refine wpAny_bind (wpAny_pure (wpAny_bind (wpAny_bind (wpAny_loadPart hx (wpAny_bind (PySem.W.Looks.here (s := { s with toks := s.toks + 1 }) (PySem.W.looks_clsIn X hc) ?_))))))
  rw [hd']
  refine wpAny_pure (a := some dx) (wpAny_bind (wpAny_pure (wpAny_bind ?_)))
  refine wpAny_nsSet1 (s := { s with toks := s.toks + 1 }) I.ns fun h' hn2 hs2 => ?_
  obtain ⟨oD, esD, epD, hoD, hdD, hcD⟩ := hn2.count (PySem.Within.cons name v hw)
  refine wpAny_bind (wpAny_lookBehind hoD (by rw [hdD]; exact pastItsLine_dict (Nat.le_trans hcD (by rw [List.length_cons]; omega))) ?_)
  exact wpAny_pure (h _ ⟨(hs2.2 _ (Ne.symm I.ne)).trans I.obj, hn2, I.ne⟩ hs2)
theorem make_map {R : Result → Shared → Prop} {vs : List Value} {kw : List (Str × Value)} (X : K.In s.heap) (hm : PySem.W.makesIn K C = true)
    (hi : PySem.W.findIn K (.ref C) "__init__" = some (some (.ref f))) (hf : PySem.W.typeIn K (.ref f) = some (.type "function"))
    (h : codeAny (model prog w) (A.under (.builtin "type.__call__" ⟨.ref C :: vs, kw⟩)) (.call (.ref f) ⟨.ref (s.heap.objs.size + 1) :: vs, kw⟩) (PySem.W.InitBack (s.heap.objs.size + 1) R)
      { s with heap := (s.heap.push PySem.W.emptyDict).push (PySem.W.instObj C s.heap.objs.size) }) :
    codeAny (model prog w) A (.call (.ref C) ⟨vs, kw⟩) R s := by
  obtain ⟨hh, g, d, t, os⟩ := s
  exact PySem.W.make_core (PySem.W.makes_of X hm) (PySem.W.looks_findIn X hi) (fun self => PySem.W.bind_fn X self hf) (.inl rfl) h
end
def putF (f : Str) (v : V) : List (Str × V) → List (Str × V)
  | [] => [(f, v)]
  | (g, x) :: r => if g = f then (g, v) :: r else (g, x) :: putF f v r
theorem lookup_putF (f g : Str) (v : V) : ∀ fs : List (Str × V), (putF f v fs).lookup g = if g = f then some v else fs.lookup g
  | [] => by
    show List.lookup g [(f, v)] = _
    by_cases h : g = f
    · have hb : (g == f) = true := beq_iff_eq.mpr h
      simp only [List.lookup, hb, if_pos h]
    · have hb : (g == f) = false := beq_eq_false_iff_ne.mpr h
      simp only [List.lookup, hb, if_neg h]
  | (k, x) :: r => by
    have ih := lookup_putF f g v r
    rw [show putF f v ((k, x) :: r) = (if k = f then (k, v) :: r else (k, x) :: putF f v r) from rfl]
    by_cases hk : k = f
    · rw [if_pos hk]
      by_cases h : g = k
      · have hb : (g == k) = true := beq_iff_eq.mpr h
        simp only [List.lookup, hb, if_pos (h.trans hk)]
      · have hb : (g == k) = false := beq_eq_false_iff_ne.mpr h
        simp only [List.lookup, hb, if_neg (fun e : g = f => h (e.trans hk.symm))]
    · rw [if_neg hk]
      by_cases h : g = k
      · have hb : (g == k) = true := beq_iff_eq.mpr h
        simp only [List.lookup, hb, if_neg (fun e : g = f => hk (h.symm.trans e))]
      · have hb : (g == k) = false := beq_eq_false_iff_ne.mpr h
        simp only [List.lookup, hb]
        exact ih
theorem keys_putF (f : Str) (v : V) : ∀ fs : List (Str × V), f ∈ (putF f v fs).map (·.1) ∧ ∀ g, g ∈ fs.map (·.1) → g ∈ (putF f v fs).map (·.1)
  | [] => ⟨by simp [putF], fun g h => by simp at h⟩
  | (k, x) :: r => by
    obtain ⟨i1, i2⟩ := keys_putF f v r
    rw [show putF f v ((k, x) :: r) = (if k = f then (k, v) :: r else (k, x) :: putF f v r) from rfl]
    by_cases hk : k = f
    · rw [if_pos hk]
      subst hk
      exact ⟨by simp, fun g h => by simpa using h⟩
    · rw [if_neg hk]
      refine ⟨?_, fun g h => ?_⟩
      · rw [List.map_cons]
        exact List.mem_cons_of_mem _ i1
      · rw [List.map_cons] at h ⊢
        rcases List.mem_cons.mp h with e | e
        · exact List.mem_cons.mpr (.inl e)
        · exact List.mem_cons_of_mem _ (i2 g e)
theorem length_putF (f : Str) (v : V) : ∀ fs : List (Str × V), (putF f v fs).length ≤ fs.length + 1
  | [] => by simp [putF]
  | (k, x) :: r => by
    have ih := length_putF f v r
    rw [show putF f v ((k, x) :: r) = (if k = f then (k, v) :: r else (k, x) :: putF f v r) from rfl]
    by_cases hk : k = f
    · rw [if_pos hk, List.length_cons, List.length_cons]; omega
    · rw [if_neg hk, List.length_cons, List.length_cons]; omega
theorem RelO.some_of {v : V} {o : Option Value} (r : RelO (some v) o) : ∃ u, o = some u ∧ RelV v u := by
  cases o with
  | none => exact (show False from r).elim
  | some u => exact ⟨u, rfl, r⟩
theorem RelO.none_of {o : Option Value} (r : RelO none o) : o = none := by
  cases o with
  | none => rfl
  | some u => exact (show False from r).elim
theorem handed_of {v : V} {u : Value} (r : RelV v u) : PySem.W.handedIn u = true := by
  cases v with
  | non => cases (show u = Value.none from r); rfl
  | bl b => cases (show u = Value.bool b from r); rfl
  | int i => obtain ⟨t, e⟩ := (show ∃ t, u = Value.int i t from r); cases e; rfl
  | str x => obtain ⟨t, e⟩ := (show ∃ t, u = Value.str x t from r); cases e; rfl
  | byt b => obtain ⟨t, e⟩ := (show ∃ t, u = Value.bytes b t from r); cases e; rfl
  | flt b => obtain ⟨t, e⟩ := (show ∃ t, u = Value.float b t from r); cases e; rfl
  | ref a => cases (show u = Value.ref a from r); rfl
  | ty n => cases (show u = Value.type n from r); rfl
section
variable {P : Program} {w : World} {H H' : Hp} {h h' : Heap} {a C dx : Addr} {fs fs' : List (Str × V)}
theorem ins_get (hok : HOk P w H h) (e : H a = some (.ins C dx fs)) : ∃ mA, ObjM h a dx C mA ∧ (∀ f, RelO (fs.lookup f) (mA f)) ∧ PySem.Within mA (fs.map (·.1)) ∧ fs.length ≤ 1000 ∧ H dx = some (.own a) := by
  obtain ⟨d, z, ne, ob, mA, n, r, q⟩ := (show ObjOk P w H h a (.ins C dx fs) from hok a _ e)
  exact ⟨mA, ⟨ob, n, ne⟩, r, q, z, d⟩
end
structure Cls (K : PySem.W.Frag) (C : Addr) : Prop where
  pg : PySem.W.plainGet K C Str.empty = true
  hd : PySem.W.hasDictIn K C = true
  po : PySem.W.plainOver K C = true
  sa : PySem.W.findIn K (.ref C) "__setattr__" = some (some (.builtin "object.__setattr__"))
theorem Cls.get {K : PySem.W.Frag} {C : Addr} (c : Cls K C) (f : Str) : PySem.W.plainGet K C f = true := c.pg
def NoAttr (K : PySem.W.Frag) (C : Addr) (f : Str) : Prop := PySem.W.findIn K (.ref C) f = some none
theorem NoAttr.taker {K : PySem.W.Frag} {C : Addr} {f : Str} (n : NoAttr K C f) : PySem.W.takerIn K C f = some none := by
  unfold PySem.W.takerIn
  rw [show PySem.W.findIn K (.ref C) f = some none from n]
  rfl
structure Con (K : PySem.W.Frag) (C : Addr) (f : Str) (v : V) (u : Value) : Prop where
  at_ : PySem.W.findIn K (.ref C) f = some (some u)
  rel : RelV v u
  get : PySem.W.specialIn K u "__get__" = some none
  cp : PySem.W.copiedNames.contains f = false
structure Meth (K : PySem.W.Frag) (C : Addr) (m : Str) (f : Addr) : Prop where
  at_ : PySem.W.findIn K (.ref C) m = some (some (.ref f))
  fn : PySem.W.isFn K (.ref f) = true
  kp : PySem.W.keepIn K (.ref f) = true
section
variable {X : Cx} {pins : List (Addr × Obj)} {σ : St} {H : Hp} {s : Shared} {a C dx : Addr} {fs : List (Str × V)} {f : Str} {v : V} {A : Around} {E : Value → Shared → Prop}
theorem getattr_ok {b : Bool} {Q : Value → Shared → Prop} (I : Inv X pins σ H s) (e : H a = some (.ins C dx fs)) (c : Cls X.K C) (n : NoAttr X.K C f) (l : fs.lookup f = some v)
    (h : ∀ u s', Inv X pins σ H s' → RelV v u → Q u s') : wpAny (model X.prog X.w) A (getAttr (.ref a) f b) Q E s := by
  obtain ⟨mA, O, r, _, _, _⟩ := ins_get I.hok e
  obtain ⟨u, hu, ru⟩ := RelO.some_of (v := v) (o := mA f) (by rw [← l]; exact r f)
  exact get_map I.kIn O (c.get f) c.hd n hu (handed_of ru) (h u _ (I.tok _) ru)
theorem getmeth_ok {m : Str} {g : Addr} {pl : Sem Bool} {Q : Value × List Value → Shared → Prop} (I : Inv X pins σ H s) (e : H a = some (.ins C dx fs)) (c : Cls X.K C) (k : Meth X.K C m g) (l : fs.lookup m = none)
    (h : Q (.ref g, [.ref a]) s) : wpAny (model X.prog X.w) A (getMethod (.ref a) m pl) Q E s := by
  obtain ⟨mA, O, r, _, _, _⟩ := ins_get I.hok e
  have hn : mA m = none := RelO.none_of (by rw [← l]; exact r m)
  exact get_meth I.kIn O (c.get m) k.at_ k.fn hn h
theorem setattr_ok {y : V} {u : Value} {Q : Unit → Shared → Prop} (I : Inv X pins σ H s) (e : H a = some (.ins C dx fs)) (c : Cls X.K C) (n : NoAttr X.K C f) (hl : fs.length < 1000) (ry : RelV y u)
    (h : ∀ s', Inv X pins σ (upd H a (.ins C dx (putF f y fs))) s' → Q () s') : wpAny (model X.prog X.w) A (setAttr (.ref a) f u) Q E s := by
  obtain ⟨mA, O, r, wi, _, ho⟩ := ins_get I.hok e
  have hz : (fs.map (·.1)).length ≤ sizeLine := by rw [List.length_map, sizeLine_eq]; omega
  refine set_map I.kIn O c.sa c.po n.taker c.hd wi hz fun h' O' sb => h _ ?_
  have hd : ∃ o, h'.get? dx = some o := let ⟨o, _, _, e', _⟩ := O'.ns; ⟨o, e'⟩
  refine I.write (x := a) (e := dx) (by rw [e]; exact True.intro) (.inr ho) (fun b q hb z => (sb.2 b hb).trans z) hd ?_
  refine ⟨by rw [upd_ne O.ne]; exact ho, ?_, O.ne, O'.obj, _, O'.ns, fun g => ?_, fun g hg => ?_⟩
  · have := length_putF f y fs; omega
  · show RelO ((putF f y fs).lookup g) (if g = f then some u else mA g)
    rw [lookup_putF]
    by_cases q : g = f
    · rw [if_pos q, if_pos q]; exact ry
    · rw [if_neg q, if_neg q]; exact r g
  · by_cases q : g = f
    · rw [q]; exact (keys_putF f y fs).1
    · refine (keys_putF f y fs).2 g (wi g fun z => hg ?_)
      show (if g = f then some u else mA g) = none
      rw [if_neg q]; exact z
theorem Inv.made (I : Inv X pins σ H s) : Inv X pins σ (upd (upd H s.heap.objs.size (.own (s.heap.objs.size + 1))) (s.heap.objs.size + 1) (.ins C s.heap.objs.size []))
    { s with heap := (s.heap.push PySem.W.emptyDict).push (PySem.W.instObj C s.heap.objs.size) } := by
  have e1 : (s.heap.push PySem.W.emptyDict).get? s.heap.objs.size = some PySem.W.emptyDict := Heap.get?_push_size s.heap rfl
  have e2 : ((s.heap.push PySem.W.emptyDict).push (PySem.W.instObj C s.heap.objs.size)).get? (s.heap.objs.size + 1) = some (PySem.W.instObj C s.heap.objs.size) := by
    have := Heap.get?_push_size (s.heap.push PySem.W.emptyDict) (o := PySem.W.instObj C s.heap.objs.size) rfl
    rwa [Heap.size_push] at this
  have e3 : (s.heap.push PySem.W.emptyDict).Ns s.heap.objs.size (fun _ => none) := ⟨PySem.W.emptyDict, #[], _, e1, rfl, (fun e he => absurd he (by simp)), fun _ => rfl⟩
  have I1 := I.laid (a := s.heap.objs.size) (o := .own (s.heap.objs.size + 1)) (h' := s.heap.push PySem.W.emptyDict) (t' := s.toks) (fun b u q => Heap.get?_push_of_some _ q) (Nat.le_refl _) ⟨_, e1⟩
  refine I1.laid (a := s.heap.objs.size + 1) (o := .ins C s.heap.objs.size []) (t' := s.toks) (fun b u q => Heap.get?_push_of_some _ q) (Nat.le_of_eq (Heap.size_push _ _)) ?_
  have ne : s.heap.objs.size ≠ s.heap.objs.size + 1 := Nat.ne_of_lt (Nat.lt_succ_self _)
  refine ⟨by rw [upd_ne ne, upd_same], Nat.zero_le _, ne, e2, fun _ => none, (Heap.Ns1.of_empty e3).at fun o q => Heap.get?_push_of_some _ q, fun _ => True.intro, fun y hy => absurd rfl hy⟩
theorem attr_of {prog : Program} {w : World} {env : Env} {e : Expr} {f : Str} {pos : Pos} {s : Shared} {Q : Value → Shared → Prop} (hb : attributeBase e f env (eval e env) = eval e env)
    (h : wpAny (model prog w) A (eval e env) (fun o s₁ => wpAny (model prog w) A (getAttr o f true) Q E s₁) E s) : wpAny (model prog w) A (eval (.Attribute e f pos) env) Q E s :=
  Attribute_any_ h (by rw [arm_eval_Attribute, hb])
end
section
variable {X : Cx} {o e value : Expr} {f : Str} {pos pos' tpos : Pos} {ta tv : TE}
end
section
variable {X : Cx} {pins : List (Addr × Obj)} {σ : St} {H : Hp} {s : Shared} {A : Around} {E : Value → Shared → Prop} {Q : Value → Shared → Prop} {c : Value} {b : Bool}
inductive TyOf (K : PySem.W.Frag) (H : Hp) : V → Value → Prop where
  | non : TyOf K H .non (.type "NoneType")
  | bl (x : Bool) : TyOf K H (.bl x) (.type "bool")
  | int (i : Int) : TyOf K H (.int i) (.type "int")
  | str (x : Str) : TyOf K H (.str x) (.type "str")
  | flt (x : UInt64) : TyOf K H (.flt x) (.type "float")
  | lst {a : Addr} {xs : List V} (e : H a = some (.lst xs)) : TyOf K H (.ref a) (.type "list")
  | frz {a : Addr} {o : Obj} {xs : List V} (e : H a = some (.frz o (.lst xs))) : TyOf K H (.ref a) (.type "list")
  | tup {a : Addr} {xs : List V} (e : H a = some (.tup xs)) : TyOf K H (.ref a) (.type "tuple")
  | dK {a : Addr} {kvs : List (Key × V)} (e : H a = some (.dK kvs)) : TyOf K H (.ref a) (.type "dict")
  | dT {a : Addr} {kvs : List (List Key × V)} (e : H a = some (.dT kvs)) : TyOf K H (.ref a) (.type "dict")
  | ins {a C dx : Addr} {fs : List (Str × V)} (e : H a = some (.ins C dx fs)) (cl : Cls K C) (ha : PySem.W.findIn K (.ref C) "__class__" = some (some (.builtin "object.__class__")))
      (hn : PySem.W.specialIn K (.builtin "object.__class__") "__get__" = some (some (.builtin "getset_descriptor.__get__"))) (htk : PySem.W.takesIn K (.builtin "object.__class__") = some true)
      (hm : PySem.W.mroIn K C (.type "object") = some true) : TyOf K H (.ref a) (.ref C)
end
end L2
namespace L2
open PySem PySem.Spec PyProof.Rows
structure Room (k : Nat) (A : Around) : Prop where
  hd : A.handled = none
  dp : A.depth + 3 * k + 5 < recursionLimit
  un : A.units + 16 * k + 200 < cLine
theorem Room.mono {j k : Nat} {A : Around} (r : Room k A) (h : j ≤ k) : Room j A := ⟨r.hd, by have := r.dp; omega, by have := r.un; omega⟩
theorem Room.deeper {k : Nat} {A : Around} (r : Room (k + 1) A) (env : Env) : Room k (A.deeper env) :=
  ⟨r.hd, by have := r.dp; show A.depth + 1 + 3 * k + 5 < _; omega, by have := r.un; show A.units + 3 + 16 * k + 200 < _; omega⟩
theorem make_depth {A : Around} {C : Addr} {us : List Value} {kw : List (Str × Value)} : (A.under (.builtin "type.__call__" ⟨.ref C :: us, kw⟩)).depth = A.depth + 1 := by
  first | rfl | simp [Around.under, Code.weight, Code.isCreation, Code.isGuard, Code.isCaller, Code.frames, Code.isFrame, guardIds]
theorem make_units {A : Around} {C : Addr} {us : List Value} {kw : List (Str × Value)} : (A.under (.builtin "type.__call__" ⟨.ref C :: us, kw⟩)).units = A.units + 1 := by
  first | rfl | simp [Around.under, Code.cUnits, Code.frames, Code.isFrame]
theorem Room.make {k : Nat} {A : Around} (r : Room (k + 1) A) (C : Addr) (us : List Value) (kw : List (Str × Value)) : Room k (A.under (.builtin "type.__call__" ⟨.ref C :: us, kw⟩)) :=
  ⟨r.hd, by have := r.dp; rw [make_depth]; omega, by have := r.un; rw [make_units]; omega⟩
theorem Room.depth {k : Nat} {A : Around} (r : Room k A) : A.depth < recursionLimit := by have := r.dp; omega
def tNil : TA := fun _ H Q => Q [] H
def tCons (ta : TE) (tr : TA) : TA := fun σ H Q => ta σ H fun x H1 => tr σ H1 fun xs H2 => Q (x :: xs) H2
section
variable {X : Cx} {e : Expr} {es : List Expr} {te : TE} {t : TA} {pos : Pos}
theorem pa_nil : PA X [] tNil := fun _ _ _ _ H Q I h => Calls.spliced_nil ⟨[], H, I, .nil, h⟩
theorem pa_cons (ha : PE X e te) (hr : PA X es t) (hs : starEach (e :: es) X.env = (false, eval e X.env) :: starEach es X.env := by rfl) : PA X (e :: es) (tCons te t) := by
  intro pos pins s σ H Q I h
  rw [hs]
  show wpAny _ _ (spliced ((false, eval e X.env) :: backTo pos (starEach es X.env))) _ _ s
  refine Calls.spliced_cons (thn (ha pins s σ H _ I h) fun u s1 ⟨x, H1, I1, r1, q1⟩ => ?_)
  exact thn (hr pos pins s1 σ H1 _ I1 q1) fun us s2 ⟨xs, H2, I2, r2, q2⟩ => ⟨x :: xs, H2, I2, .cons r1 r2, q2⟩
def tTup (t : TA) : TE := fun σ H Q => t σ H fun xs H1 => xs.length ≤ sizeLine ∧ ∀ p, H1 p = none → Q (.ref p) (upd H1 p (.tup xs))
def tLst (t : TA) : TE := fun σ H Q => t σ H fun xs H1 => xs.length ≤ sizeLine ∧ ∀ p, H1 p = none → Q (.ref p) (upd H1 p (.lst xs))
theorem pe_tup {x1} (h : PA X es t) : PE X (.Tuple es x1 pos) (tTup t) := by
  intro pins s σ H Q I hq
  refine wpAny_Tuple_spliced (thn (h pos pins s σ H _ I hq) fun us s1 ⟨xs, H1, I1, r, z, q⟩ => ⟨by rw [← r.length]; exact z, ?_⟩)
  have hf : H1 s1.heap.objs.size = none := I1.hok.fresh (Nat.le_refl _)
  refine ⟨.ref s1.heap.objs.size, upd H1 s1.heap.objs.size (.tup xs), I1.laid (t' := s1.toks) (fun b u e => Heap.get?_push_of_some _ e) (Nat.le_refl _) ?_, rfl, q _ hf⟩
  exact ⟨z, us, r, ⟨_, Heap.get?_push_size _ rfl, rfl, _, rfl⟩⟩
theorem pe_lst (h : PA X es t) : PE X (.List es pos) (tLst t) := by
  intro pins s σ H Q I hq
  refine wpAny_List_spliced (thn (h pos pins s σ H _ I hq) fun us s1 ⟨xs, H1, I1, r, z, q⟩ => ⟨by rw [← r.length]; exact z, ?_⟩)
  have hf : H1 s1.heap.objs.size = none := I1.hok.fresh (Nat.le_refl _)
  refine ⟨.ref s1.heap.objs.size, upd H1 s1.heap.objs.size (.lst xs), I1.laid (t' := s1.toks) (fun b u e => Heap.get?_push_of_some _ e) (Nat.le_refl _) ?_, rfl, q _ hf⟩
  exact ⟨z, us, 0, r, Heap.get?_push_size _ rfl⟩
end
abbrev Sp := List V → Hp → VK → XK → Prop
abbrev CXT := List Env → Hp → Shared → XK → Value → Shared → Prop
structure Env0 (P : Program) (w : World) (K : PySem.W.Frag) (mg : Str → Option Value) (base : Heap) (A : Around) (outer : List Env) (s : Shared) (H : Hp) : Prop where
  frames : A.frames = some outer
  mod : Mod K mg base
  bs : ∀ b o, base.get? b = some o → s.heap.get? b = some o ∧ H b = none
  bsz : base.objs.size ≤ s.heap.objs.size
  funs : s.heap.FunFrames base outer
  frf : ∀ b ∈ frs outer, H b = none
  hok : HOk P w H s.heap
  bare : AllBare s.gens
def CE (outer : List Env) (P : Program) (w : World) (H : Hp) (s : Shared) (Q : VK) (u : Value) (s' : Shared) : Prop :=
  ∃ v H', s'.os = s.os ∧ AllBare s'.gens ∧ Un (frs outer) [] H H' s.heap s'.heap ∧ HOk P w H' s'.heap ∧ RelV v u ∧ Q v H'
def CR (CX : CXT) (outer : List Env) (P : Program) (w : World) (H : Hp) (s : Shared) (Q : VK) (E : XK) (r : Result) (s' : Shared) : Prop :=
  match r with
  | .ok (.ret u) => CE outer P w H s Q u s'
  | .ok _ => False
  | .error e => CX outer H s E e s'
structure FnOk (P : Program) (w : World) (K : PySem.W.Frag) (mg : Str → Option Value) (base : Heap) (CX : CXT) (k : Nat) (f : Addr) (fd : FuncData) (ps : List Str) (sp : Sp) : Prop where
  len : ∀ vs H Q E, sp vs H Q E → vs.length = ps.length
  run : ∀ (A : Around) (outer : List Env) (s : Shared) (H : Hp) (args : Args) (us : List Value) (vs : List V) (Q : VK) (E : XK), Room k A → Env0 P w K mg base A outer s H → BindsTo s fd args (ps.zip us) → Vals vs us → sp vs H Q E →
    codeAny (model P w) A (.call (.ref f) args) (CR CX outer P w H s Q E) s
theorem Env0.make {P : Program} {w : World} {K : PySem.W.Frag} {mg : Str → Option Value} {base : Heap} {A : Around} {outer : List Env} {s : Shared} {H : Hp} (e : Env0 P w K mg base A outer s H) (C : Addr) (us : List Value) (kw : List (Str × Value)) :
    Env0 P w K mg base (A.under (.builtin "type.__call__" ⟨.ref C :: us, kw⟩)) outer s H := ⟨by first | exact e.frames | (simpa [Around.under, Code.envs, Code.isFrame, pushEnvs] using e.frames), e.mod, e.bs, e.bsz, e.funs, e.frf, e.hok, e.bare⟩
section
variable {X : Cx} {pins : List (Addr × Obj)} {σ : St} {H : Hp} {s s' : Shared}
theorem Inv.env0 (I : Inv X pins σ H s) : Env0 X.prog X.w X.K X.mg X.base X.A X.stack s H :=
  ⟨I.ok.frames, I.ok.mod, I.bs, Nat.le_trans I.ok.bsz I.sz, I.stack, I.stkFree, I.hok, I.bare⟩
theorem Inv.after {Q : VK} {u : Value} (I : Inv X pins σ H s) (h : CE X.stack X.prog X.w H s Q u s') : EP X pins σ Q u s' := by
  obtain ⟨v, H', os, bare, un, hok, r, q⟩ := h
  obtain ⟨hh, g, d, t, os'⟩ := s'
  obtain rfl : os' = s.os := os
  exact ⟨v, H', I.call (h' := hh) (g' := g) (d' := d) (t' := t) (ch := []) un hok bare (fun b z => absurd z (by simp)), r, q⟩
end
def tCall (sp : Sp) (dvs : List V) (E : XK) (t : TA) : TE := fun σ H Q => t σ H fun vs H1 => sp (vs ++ dvs) H1 Q E
def tMeth (C : Addr) (m : Str) (sp : Sp) (dvs : List V) (E : XK) (ta : TE) (t : TA) : TE := fun σ H Q => ta σ H fun x H1 => ∃ a dx fs, x = .ref a ∧ H1 a = some (.ins C dx fs) ∧ fs.lookup m = none ∧
  t σ H1 fun vs H2 => sp (x :: (vs ++ dvs)) H2 Q E
def tMake (C : Addr) (sp : Sp) (dvs : List V) (E : XK) (t : TA) : TE := fun σ H Q => t σ H fun vs H1 => ∀ x dx, H1 x = none → H1 dx = none → dx ≠ x →
  sp (.ref x :: (vs ++ dvs)) (upd (upd H1 dx (.own x)) x (.ins C dx [])) (fun v H2 => v = .non ∧ Q (.ref x) H2) E
def Binds (K : PySem.W.Frag) (fd : FuncData) (ps : List Str) (ds : List Value) : Prop :=
  ∀ (s : Shared) (us : List Value), K.In s.heap → (us ++ ds).length = ps.length → BindsTo s fd ⟨us, []⟩ (ps.zip (us ++ ds))
theorem Binds.all {K : PySem.W.Frag} {fd : FuncData} {ps : List Str} (h : ∀ us : List Value, us.length = ps.length → bindArgs fd ⟨us, []⟩ = pure (ps.zip us)) : Binds K fd ps [] := fun s us _ hl => by
  rw [List.append_nil] at hl ⊢
  exact .of_eq (h us hl)
def Passes (CX : CXT) (X : Cx) (E : XK) : Prop := ∀ (pins : List (Addr × Obj)) (σ : St) (H : Hp) (s : Shared) (e : Value) (s' : Shared), Inv X pins σ H s → CX X.stack H s E e s' → X.xe e s'
section
variable {X : Cx} {CX : CXT} {k : Nat} {f C : Addr} {fd : FuncData} {ps : List Str} {sp : Sp} {dvs : List V} {ds : List Value} {E : XK} {x m : Str} {p pos apos : Pos} {e o : Expr} {es : List Expr} {ta : TE} {t : TA}
theorem run_fn {pins : List (Addr × Obj)} {σ : St} {H : Hp} {s : Shared} {Q : VK} {us : List Value} {vs : List V} (F : FnOk X.prog X.w X.K X.mg X.base CX k f fd ps sp) (hr : Room k X.A) (hb : Binds X.K fd ps ds) (hd : Vals dvs ds) (hx : Passes CX X E)
    (I : Inv X pins σ H s) (r : Vals vs us) (h : sp (vs ++ dvs) H Q E) : wpAny (model X.prog X.w) X.A (call (.ref f) us) (EP X pins σ Q) X.xe s := by
  have r2 : Vals (vs ++ dvs) (us ++ ds) := r.append hd
  have hl : (us ++ ds).length = ps.length := by rw [← r2.length]; exact F.len _ _ _ _ h
  refine wpAny_call (codeAny_mono (F.run X.A X.stack s H ⟨us, []⟩ (us ++ ds) (vs ++ dvs) Q E hr I.env0 (hb s us I.kIn hl) r2 h) fun r s' hq => ?_)
  cases r with
  | error e => exact hx pins σ H s e s' I hq
  | ok fl =>
    cases fl with
    | ret u => exact I.after hq
    | next => exact False.elim hq
    | brk => exact False.elim hq
    | cont => exact False.elim hq
theorem pe_call (F : FnOk X.prog X.w X.K X.mg X.base CX k f fd ps sp) (hr : Room k X.A) (hg : Gl X x) (hm : X.mg x = some (.ref f)) (hk : PySem.W.keepIn X.K (.ref f) = true) (hb : Binds X.K fd ps ds) (hd : Vals dvs ds) (hx : Passes CX X E)
    (ha : PA X (e :: es) t) (hdb : (x == ("__debug__" : Str)) = false := by decide) (he : starEach (e :: es) X.env = (false, eval e X.env) :: starEach es X.env := by rfl) (hpl : (backTo pos (starEach es X.env)).any (·.1) = false := by rfl) :
    PE X (.Call (.Name x p) (e :: es) [] pos) (tCall sp dvs E t) := by
  intro pins s σ H Q I h
  refine wpAny_Call_Name_kw (ld_glob I hg hm ?_ hdb)
  refine PySem.W.callWith_K (h₀ := X.base) I.ok.mod.kin hk (thn (ha pos pins s σ H _ I h) fun us s1 ⟨vs, H1, I1, r, q⟩ => ⟨I1.kIn, ?_⟩) he hpl
  exact run_fn F hr hb hd hx I1 r q
theorem pe_meth {pl : Sem Bool} (he : PE X o ta) (c : Cls X.K C) (hm : Meth X.K C m f) (F : FnOk X.prog X.w X.K X.mg X.base CX k f fd ps sp) (hr : Room k X.A) (hb : Binds X.K fd ps ds) (hd : Vals dvs ds) (hx : Passes CX X E) (ha : PA X (e :: es) t)
    (hst : starEach (e :: es) X.env = (false, eval e X.env) :: starEach es X.env := by rfl) (hpl : (backTo pos (starEach es X.env)).any (·.1) = false := by rfl)
    (ht : eval (.Call (.Attribute o m apos) (e :: es) [] pos) X.env = (do
      let ov ← eval o X.env
      standAt apos.atName
      let (f, first) ← holding [ov] (getMethod ov m pl)
      callWith pos f first (backTo pos (starEach (e :: es) X.env)) (backToKw pos (keywordEach [] X.env))) := by rfl) :
    PE X (.Call (.Attribute o m apos) (e :: es) [] pos) (tMeth C m sp dvs E ta t) := by
  intro pins s σ H Q I h
  refine PySem.W.methodCall_KW (pl := pl) (thn (he pins s σ H _ I h) fun u s1 ⟨x, H1, I1, rx, a, dx, fs, ex, ea, l, q⟩ => ?_) ht
  subst ex
  obtain rfl : u = Value.ref a := rx
  refine getmeth_ok I1 ea c hm l ?_
  refine PySem.W.callWith_K (first := [.ref a]) (h₀ := X.base) I.ok.mod.kin hm.kp (thn (ha pos pins s1 σ H1 _ I1 q) fun us s2 ⟨vs, H2, I2, r, q2⟩ => ⟨I2.kIn, ?_⟩) hst hpl
  exact run_fn (us := .ref a :: us) (vs := .ref a :: vs) F hr hb hd hx I2 (.cons rfl r) q2
theorem pe_meth0 {pl : Sem Bool} (he : PE X o ta) (c : Cls X.K C) (hm : Meth X.K C m f) (F : FnOk X.prog X.w X.K X.mg X.base CX k f fd ps sp) (hr : Room k X.A) (hb : Binds X.K fd ps ds) (hd : Vals dvs ds) (hx : Passes CX X E)
    (ht : eval (.Call (.Attribute o m apos) [] [] pos) X.env = (do
      let ov ← eval o X.env
      standAt apos.atName
      let (f, first) ← holding [ov] (getMethod ov m pl)
      callWith pos f first (backTo pos (starEach [] X.env)) (backToKw pos (keywordEach [] X.env))) := by rfl) :
    PE X (.Call (.Attribute o m apos) [] [] pos) (tMeth C m sp dvs E ta tNil) := by
  intro pins s σ H Q I h
  refine PySem.W.methodCall_KW (pl := pl) (thn (he pins s σ H _ I h) fun u s1 ⟨x, H1, I1, rx, a, dx, fs, ex, ea, l, q⟩ => ?_) ht
  subst ex
  obtain rfl : u = Value.ref a := rx
  refine getmeth_ok I1 ea c hm l ?_
  exact PySem.W.callWith_K0 (first := [.ref a]) I1.kIn hm.kp (run_fn (us := [.ref a]) (vs := [.ref a]) F hr hb hd hx I1 (.cons rfl .nil) q)
structure Mk (K : PySem.W.Frag) (C f : Addr) : Prop where
  makes : PySem.W.makesIn K C = true
  init : PySem.W.findIn K (.ref C) "__init__" = some (some (.ref f))
  fn : PySem.W.isFn K (.ref f) = true
  kp : PySem.W.keepIn K (.ref C) = true
end
section
variable {X : Cx} {CX : CXT} {k : Nat} {f C : Addr} {fd : FuncData} {ps ks : List Str} {sp : Sp} {E : XK} {x m : Str} {p pos apos kpos : Pos} {e o : Expr} {es : List Expr} {kws : List Keyword} {te ta : TE} {t tk : TA} {nm : Option Str}
structure KBinds (K : PySem.W.Frag) (fd : FuncData) (ps ks : List Str) (g : List Value → List Value → List Value) (gV : List V → List V → List V) : Prop where
  to : ∀ (s : Shared) (us ws : List Value), K.In s.heap → (g us ws).length = ps.length → BindsTo s fd ⟨us, ks.zip ws⟩ (ps.zip (g us ws))
  rel : ∀ {vs : List V} {us : List Value} {zs : List V} {ws : List Value}, Vals vs us → Vals zs ws → Vals (gV vs zs) (g us ws)
variable {g : List Value → List Value → List Value} {gV : List V → List V → List V}
end
structure FnScope (N P : List Str) (sc : Scope) : Prop where
  kind : sc.kind = .function
  co : sc.isCoroutine = false
  gen : sc.isGenerator = false
  nd : N.Nodup
  pre : N.take P.length = P
  par : ∀ x ∈ P, sc.names.lookup x = some .local ∨ sc.names.lookup x = some .cell
  nofree : ∀ y ∈ sc.names, y.2 ≠ .free
theorem bindL_out {kindOf : Str → Option NameKind} {x : Str} : ∀ {binds : List (Str × Value)} {m : Str → Option Value}, (∀ v, (x, v) ∉ binds) → bindL kindOf binds m x = m x
  | [], _, _ => rfl
  | (n, v) :: r, m, h => by
    unfold bindL
    rw [bindL_out fun w hw => h w (List.mem_cons_of_mem _ hw)]
    split
    · have : x ≠ n := by rintro rfl; exact h v List.mem_cons_self
      simp [this]
    · rfl
theorem bindC_out {kindOf : Str → Option NameKind} {x : Str} : ∀ {binds : List (Str × Value)} {m : Str → Option Value}, (∀ v, (x, v) ∉ binds) → bindC kindOf binds m x = m x
  | [], _, _ => rfl
  | (n, v) :: r, m, h => by
    unfold bindC
    rw [bindC_out fun w hw => h w (List.mem_cons_of_mem _ hw)]
    split
    · rfl
    · have : x ≠ n := by rintro rfl; exact h v List.mem_cons_self
      simp [this]
theorem bindL_get {kindOf : Str → Option NameKind} {x : Str} {v : Value} : ∀ {P : List Str} {vs : List Value} {i : Nat} {m : Str → Option Value}, P.Nodup → P[i]? = some x → vs[i]? = some v → kindOf x = some .local →
    bindL kindOf (P.zip vs) m x = some v
  | [], _, _, _, _, h, _, _ => by simp at h
  | _ :: _, [], _, _, _, _, h, _ => by simp at h
  | p :: P, w :: vs, 0, m, nd, h1, h2, hk => by
    simp at h1 h2; subst h1; subst h2
    show bindL kindOf ((p, w) :: P.zip vs) m p = _
    unfold bindL
    rw [bindL_out fun v hv => (List.nodup_cons.mp nd).1 (List.of_mem_zip hv).1, if_pos hk]
    simp
  | p :: P, w :: vs, i + 1, m, nd, h1, h2, hk => by
    show bindL kindOf ((p, w) :: P.zip vs) m x = _
    unfold bindL
    exact bindL_get (i := i) (List.nodup_cons.mp nd).2 (by simpa using h1) (by simpa using h2) hk
theorem bindC_get {kindOf : Str → Option NameKind} {x : Str} {v : Value} : ∀ {P : List Str} {vs : List Value} {i : Nat} {m : Str → Option Value}, P.Nodup → P[i]? = some x → vs[i]? = some v → kindOf x ≠ some .local →
    bindC kindOf (P.zip vs) m x = some v
  | [], _, _, _, _, h, _, _ => by simp at h
  | _ :: _, [], _, _, _, _, h, _ => by simp at h
  | p :: P, w :: vs, 0, m, nd, h1, h2, hk => by
    simp at h1 h2; subst h1; subst h2
    show bindC kindOf ((p, w) :: P.zip vs) m p = _
    unfold bindC
    rw [bindC_out fun v hv => (List.nodup_cons.mp nd).1 (List.of_mem_zip hv).1, if_neg hk]
    simp
  | p :: P, w :: vs, i + 1, m, nd, h1, h2, hk => by
    show bindC kindOf ((p, w) :: P.zip vs) m x = _
    unfold bindC
    exact bindC_get (i := i) (List.nodup_cons.mp nd).2 (by simpa using h1) (by simpa using h2) hk
def start (N : List Str) (vs : List V) : St := vs.map some ++ List.replicate (N.length - vs.length) none
def cxOf (CX : CXT) (P : Program) (w : World) (K : PySem.W.Frag) (mg : Str → Option Value) (base : Heap) (N : List Str) (qual : Str) (scope : Scope) (f : Addr) (cd : Value) (A : Around) (outer : List Env) (s : Shared) (H : Hp) (E : XK) : Cx where
  prog := P
  w := w
  K := K
  mg := mg
  base := base
  A := A.deeper (envOfC qual scope s.heap.objs.size f cd)
  N := N
  s₀ := s
  H₀ := H
  env := envOfC qual scope s.heap.objs.size f cd
  outer := outer
  stack := envOfC qual scope s.heap.objs.size f cd :: outer
  ex := []
  calm := true
  fn := fun _ => true
  pn := []
  xe := fun e s' => wpAny (model P w) (A.deeper (envOfC qual scope s.heap.objs.size f cd)) (leaving (envOfC qual scope s.heap.objs.size f cd) e) (fun _ s'' => CX outer H s E e s'') (fun e' s'' => CX outer H s E e' s'') s'
theorem cell_has {sc : Scope} {n : Nat} {x : Str} (h : sc.names.lookup x = some .cell) : ∃ c, (cellsFrom n sc.names []).lookup x = some c := by
  have q := PySem.W.cellsFrom_some sc.names n [] (.inl h)
  exact Option.isSome_iff_exists.mp q
theorem inv_start {CX : CXT} {P : Program} {w : World} {K : PySem.W.Frag} {mg : Str → Option Value} {base : Heap} {N ps : List Str} {qual : Str} {scope : Scope} {f : Addr} {cd : Value} {A : Around} {outer : List Env} {s s1 : Shared} {H : Hp} {E : XK} {us : List Value} {vs : List V}
    (S : FnScope N ps scope) (hd : A.handled = none) (e0 : Env0 P w K mg base A outer s H) (hl : vs.length = ps.length) (r : Vals vs us)
    (x : InCallC s s.heap.objs.size (bindL (envOfC qual scope s.heap.objs.size f cd).kindOf (ps.zip us) fun _ => none) (cellsFrom (s.heap.objs.size + 1) scope.names []) (bindC (envOfC qual scope s.heap.objs.size f cd).kindOf (ps.zip us) fun _ => none) s1) :
    Inv (cxOf CX P w K mg base N qual scope f cd A outer s H E) [] (start N vs) H s1 := by
  have hpl : ps.length ≤ N.length := by have := congrArg List.length S.pre; rw [List.length_take] at this; omega
  obtain ⟨h1, tk, rfl, hk⟩ := x.done
  have noA : ∀ b : Addr, b ∉ (cxOf CX P w K mg base N qual scope f cd A outer s H E).ex := fun b z => absurd (show b ∈ ([] : List Addr) from z) (by simp)
  refine ⟨⟨e0.mod, S.kind, rfl, rfl, Nat.le_refl _, fun y z c h1 h2 => ?_, fun y hy => ?_, fun y c _ h => ?_, fun _ => hd, Around.frames_deeper e0.frames, .inr ⟨rfl, rfl⟩, fun b z => absurd z (noA b), e0.bs, e0.bsz, fun b _ _ => noA b, fun b z => absurd z (noA b), e0.funs, e0.frf⟩,
    rfl, e0.bare, Un.kept hk, ⟨_, x.toInCall.ns, fun i y v h1 h2 h3 => ?_⟩, fun y c h => ⟨_, x.cell y c h⟩, e0.hok.fresh (Nat.le_refl _), fun y c h => ?_, fun p hp => absurd (show p ∈ ([] : List (Addr × Obj)) from hp) (by simp), e0.hok.kept hk, ?_⟩
  · exact name_of_addr x.apart (PySem.mem_of_lookup h1) (PySem.mem_of_lookup h2)
  · have hy : scope.names.lookup y = some .cell ∨ scope.names.lookup y = some .free := hy
    rcases hy with hy | hy
    · exact cell_has hy
    · exact absurd rfl (S.nofree _ (PySem.mem_of_lookup hy))
  · exact Nat.le_of_lt (x.above y c (PySem.mem_of_lookup h))
  · have hi : i < vs.length := by
      unfold start at h2
      by_cases hi : i < vs.length
      · exact hi
      · rw [List.getElem?_append_right (by simpa using hi)] at h2
        rw [List.getElem?_replicate] at h2
        split at h2 <;> cases h2
    have ha : vs[i]? = some v := by
      unfold start at h2
      rw [List.getElem?_append_left (by simpa using hi), List.getElem?_map] at h2
      cases e : vs[i]? with
      | none => rw [e] at h2; cases h2
      | some a => rw [e] at h2; cases h2; rfl
    obtain ⟨u, hu, rv⟩ := r.get ha
    have hp : ps[i]? = some y := by
      rw [← S.pre, List.getElem?_take_of_lt (by omega)]; exact h1
    have ndP : ps.Nodup := by rw [← S.pre]; exact S.nd.sublist (List.take_sublist _ _)
    refine ⟨u, rv, ?_⟩
    rcases S.par y (List.mem_of_getElem? hp) with k | k
    · exact .inl ⟨k, bindL_get ndP hp hu k⟩
    · obtain ⟨c, e⟩ := cell_has (n := s.heap.objs.size + 1) k
      refine .inr ⟨.inl k, c, e, ?_⟩
      have q := x.cell y c e
      rw [bindC_get ndP hp hu (by show scope.names.lookup y ≠ _; rw [k]; decide)] at q
      exact q
  · exact e0.hok.fresh (Nat.le_of_lt (x.above y c (PySem.mem_of_lookup h)))
  · unfold start
    show _ = N.length
    rw [List.length_append, List.length_map, List.length_replicate]
    omega
theorem fn_of {CX : CXT} {P : Program} {w : World} {K : PySem.W.Frag} {mg : Str → Option Value} {base : Heap} {k : Nat} {f : Addr} {name qual : Str} {params : Arguments} {body : List Stmt} {scope : Scope} {dV kV doc pm cdv ct oc : Value} {an od : Option Addr}
    {osl : Array (Option Value)} {N ps : List Str} {sp : Sp} (lk : K.lookup f = some ⟨oc, od, .func (PySem.W.fnOf name qual params body scope dV kV doc pm an cdv ct), osl⟩) (hcd : PySem.W.codeIn K cdv qual = true) (S : FnScope N ps scope)
    (len : ∀ vs H Q E, sp vs H Q E → vs.length = ps.length)
    (hbody : ∀ (A : Around) (outer : List Env) (s : Shared) (H : Hp) (vs : List V) (Q : VK) (E : XK), Room k (A.deeper (envOfC qual scope s.heap.objs.size f cdv)) → sp vs H Q E →
      ∃ t, PSs (cxOf CX P w K mg base N qual scope f cdv A outer s H E) body t ∧ t { nx := fun _ H' => Q .non H', rt := Q } (start N vs) H) :
    FnOk P w K mg base CX (k + 1) f (PySem.W.fnOf name qual params body scope dV kV doc pm an cdv ct) ps sp := by
  refine ⟨len, fun A outer s H args us vs Q E hr e0 hb r hsp => ?_⟩
  have hl := len _ _ _ _ hsp
  have KX : K.In s.heap := e0.mod.kin.keeps fun b o e => (e0.bs b o e).1
  have lim : s.heap.NoLimit := e0.mod.nolimit.keeps fun b o e => (e0.bs b o e).1
  have hkind : ∀ y ∈ ps.zip us, scope.names.lookup y.1 = some .local ∨ (scope.names.lookup y.1 = some .cell ∧ ((cellsFrom (s.heap.objs.size + 1) scope.names []).lookup y.1).isSome = true) := fun ⟨n, v⟩ hy => by
    rcases S.par n (List.of_mem_zip hy).1 with q | q
    · exact .inl q
    · exact .inr ⟨q, PySem.W.cellsFrom_some _ _ _ (.inl q)⟩
  refine codeAny_call_function hr.depth (KX _ _ lk) rfl S.co S.gen rfl (PySem.W.codeRec_of KX hcd) (hb _ _ _ _ ?_)
  refine wpAny_newFunctionEnv_cells S.kind hkind fun env he s1 x => ?_
  subst he
  refine ⟨lim.keeps x.toInCall.keep, codeAny_func ?_⟩
  obtain ⟨t, ht, hq⟩ := hbody A outer s H vs Q E (hr.deeper _) hsp
  have I : Inv (cxOf CX P w K mg base N qual scope f cdv A outer s H E) [] (start N vs) H s1 := inv_start S hr.hd e0 hl r x
  refine wpAny_mono (ht [] s1 (start N vs) H _ I hq) (fun fl s' hs => ?_) fun e s' hs => hs
  have fin : ∀ {σ' : St} {H' : Hp} {v : V} {u : Value}, Inv (cxOf CX P w K mg base N qual scope f cdv A outer s H E) [] σ' H' s' → RelV v u → Q v H' → CE outer P w H s Q u s' :=
    fun {σ' H' v u} J rv q => ⟨v, H', J.os, J.bare, J.base, J.hok, rv, q⟩
  cases fl with
  | ret u =>
    obtain ⟨v, σ', H', J, rv, q⟩ := hs
    exact fin J rv q
  | next =>
    obtain ⟨σ', H', J, q⟩ := hs
    exact fin (v := V.non) (u := Value.none) J rfl q
  | brk =>
    obtain ⟨_, _, _, q⟩ := hs
    exact False.elim q
  | cont =>
    obtain ⟨_, _, _, q⟩ := hs
    exact False.elim q
end L2
namespace L2
open PySem PySem.Spec PyProof.Rows
section
variable {X : Cx} {x : Str} {p pos : Pos} {e : Expr} {es : List Expr} {t : TA} {id T : String} {r : List V → Hp → VK → Prop}
def tCB (r : List V → Hp → VK → Prop) (t : TA) : TE := fun σ H Q => t σ H fun vs H1 => r vs H1 Q
theorem pe_callB (hc : CallR X (.builtin id) r) (hg : Gl X x) (hm : X.mg x = none) (hv : bootBuiltins x = some (.builtin id)) (ha : PA X (e :: es) t) (hn : x ≠ "__name__" := by decide) (hdb : (x == ("__debug__" : Str)) = false := by decide)
    (he : starEach (e :: es) X.env = (false, eval e X.env) :: starEach es X.env := by rfl) (hpl : (backTo pos (starEach es X.env)).any (·.1) = false := by rfl) : PE X (.Call (.Name x p) (e :: es) [] pos) (tCB r t) := by
  intro pins s σ H Q I h
  refine wpAny_Call_Name_kw (ld_blt I hg hm hv ?_ hn hdb)
  exact PyProof.Rows.callWith_builtin1 (thn (ha pos pins s σ H _ I h) fun us s1 ⟨vs, H1, I1, r1, q1⟩ => hc pins s1 σ H1 vs us Q I1 r1 q1) he hpl
theorem pe_callTy (hc : CallR X (.type T) r) (hg : Gl X x) (hm : X.mg x = none) (hv : bootBuiltins x = some (.type T)) (ha : PA X (e :: es) t) (hn : x ≠ "__name__" := by decide) (hdb : (x == ("__debug__" : Str)) = false := by decide)
    (he : starEach (e :: es) X.env = (false, eval e X.env) :: starEach es X.env := by rfl) (hpl : (backTo pos (starEach es X.env)).any (·.1) = false := by rfl) : PE X (.Call (.Name x p) (e :: es) [] pos) (tCB r t) := by
  intro pins s σ H Q I h
  refine wpAny_Call_Name_kw (ld_blt I hg hm hv ?_ hn hdb)
  exact PyProof.Rows.callWith_type1 (thn (ha pos pins s σ H _ I h) fun us s1 ⟨vs, H1, I1, r1, q1⟩ => hc pins s1 σ H1 vs us Q I1 r1 q1) he hpl
end
end L2
namespace HT
open PySem PyProof.Rows
section
open PySem.SeqAt
open PySem.AutoSeq1 (wpAny_loadPart')
open PySem.MeetsSeq PySem.MeetsSeq2 PySem.MeetsSeq3
end
section
variable {prog : Program} {w : World} {A : Around} {E : Value → Shared → Prop} {s : Shared}
theorem cat_tup {t b : Addr} {vs ws : List Value} {Q : Value → Shared → Prop} (ht : IsTup s.heap t vs.toArray) (hb : IsTup s.heap b ws.toArray) (hv : vs ≠ [])
    (h1 : ws = [] → Q (.ref t) s) (h2 : ws ≠ [] → Q (.ref s.heap.objs.size) { s with heap := s.heap.push { cls := .type "tuple", data := .seq (vs ++ ws).toArray } })
    (hsz : vs.length + ws.length ≤ sizeLine) : wpAny (model prog w) A (binaryOp .Add (.ref t) (.ref b)) Q E s := by
  obtain ⟨⟨cls, dd, data, sl⟩, ho, hc, n, hd⟩ := id ht
  obtain ⟨⟨cls2, dd2, data2, sl2⟩, ho2, hc2, n2, hd2⟩ := id hb
  simp only at hc hd hc2 hd2
  subst hc hd hc2 hd2
  have e : vs.toArray ++ ws.toArray = (vs ++ ws).toArray := by simp
  by_cases hw : ws = []
  · exact concat_meets ⟨_, ho, rfl⟩ ⟨_, ho2, rfl⟩ noFill_tuple_add seq_tuple_add PySem.F.slot_tuple_add PySem.F.entry_tuple_add (PySem.F.args_tuple_add_2 _ _)
      (tuple_addW1 t b vs.toArray ws.toArray n n2 dd dd2 sl sl2 (by simpa using hv) (by simp [hw])) ⟨ho, ho2, h1 hw⟩
  · refine concat_meets ⟨_, ho, rfl⟩ ⟨_, ho2, rfl⟩ noFill_tuple_add seq_tuple_add PySem.F.slot_tuple_add PySem.F.entry_tuple_add (PySem.F.args_tuple_add_2 _ _)
      (tuple_addW2 t b vs.toArray ws.toArray n n2 dd dd2 sl sl2 (by simpa using hv) (by simpa using hw) (by rw [List.size_toArray, List.size_toArray]; exact hsz)) ⟨ho, ho2, ?_⟩
    rw [e]
    exact h2 hw
def sIx (n d : Nat) : Option Int → Nat
  | none => d
  | some v => if v < 0 then (v + (n : Int)).toNat else min v.toNat n
theorem sIx_none (n d : Nat) : sIx n d none = d := rfl
theorem sIx_nat (n d k : Nat) : sIx n d (some (k : Int)) = min k n := by
  show (if (k : Int) < 0 then ((k : Int) + (n : Int)).toNat else min (k : Int).toNat n) = min k n
  rw [if_neg (by omega), Int.toNat_natCast]
theorem sIx_le (n d : Nat) (hd : d ≤ n) (o : Option Int) : sIx n d o ≤ n := by
  cases o with
  | none => exact hd
  | some v =>
    show (if v < 0 then (v + (n : Int)).toNat else min v.toNat n) ≤ n
    by_cases hv : v < 0
    · rw [if_pos hv]; omega
    · rw [if_neg hv]; exact Nat.min_le_right _ _
theorem clip_eq (v : Int) (n d : Nat) : (if v < 0 then max (v + (n : Int)) 0 else min v (n : Int)) = ((sIx n d (some v) : Nat) : Int) := by
  show (if v < 0 then max (v + (n : Int)) 0 else min v (n : Int)) = (((if v < 0 then (v + (n : Int)).toNat else min v.toNat n) : Nat) : Int)
  by_cases hv : v < 0
  · simp only [if_pos hv]; omega
  · simp only [if_neg hv]; omega
theorem adjust_gen (lo hi : Option Int) (n : Nat) : Builtin.Slice.sliceAdjust lo hi 1 (n : Int) = (((sIx n 0 lo : Nat) : Int), ((sIx n n hi : Nat) : Int)) := by
  have h1 : ¬ ((1 : Int) < 0) := by omega
  unfold Builtin.Slice.sliceAdjust
  simp only [h1, if_false]
  refine Prod.ext ?_ ?_
  · cases lo with
    | none => rfl
    | some v => exact clip_eq v n 0
  · cases hi with
    | none => rfl
    | some v => exact clip_eq v n n
theorem places_gen (i j : Nat) : Builtin.Slice.slicePlaces (i : Int) (j : Int) 1 = j - i := by
  unfold Builtin.Slice.slicePlaces
  have h1 : (1 : Int) > 0 := by omega
  simp only [h1, if_true, Int.ediv_one]
  split <;> omega
theorem slicePart_ {v : Value} {o : Option Int} {Q : Option Int → Shared → Prop} (p : IsPart v o) (h : Q o s) : wpAny (model prog w) A (Builtin.Slice.slicePartIndex v) Q E s := by
  cases p with
  | none => exact slicePart_none h
  | int i t => exact slicePart_int h
theorem sliceApplied_gen {sl : Addr} {vl vu : Value} {lo hi : Option Int} {n : Nat} {Q : Int × Int × Nat → Shared → Prop} (hs : s.heap.IsSliceOf sl vl vu .none) (pl : IsPart vl lo) (pu : IsPart vu hi)
    (h : Q (((sIx n 0 lo : Nat) : Int), 1, sIx n n hi - sIx n 0 lo) s) : wpAny (model prog w) A (Builtin.Slice.sliceApplied (.ref sl) (pure (n : Int))) Q E s := by
  obtain ⟨os, hos, hcs, hds⟩ := id hs
  unfold Builtin.Slice.sliceApplied Builtin.Slice.sliceFields
  refine wpAny_bind (wpAny_bind (wpAny_field hos hds (x := vl) rfl (wpAny_bind (wpAny_field hos hds (x := vu) rfl (wpAny_bind (wpAny_field hos hds (x := .none) rfl (wpAny_pure ?_)))))))
  refine wpAny_bind (slicePart_none ?_)
  show wpAny _ _ (if ((1 : Int) == 0) = true then _ else _) _ _ s
  rw [if_neg (by decide)]
  refine wpAny_bind (slicePart_ pl (wpAny_bind (slicePart_ pu (wpAny_bind (wpAny_pure ?_)))))
  show wpAny _ _ (match Builtin.Slice.sliceAdjust lo hi 1 (n : Int) with | (lo, hi) => pure (lo, (1 : Int), Builtin.Slice.slicePlaces lo hi 1)) _ _ s
  rw [adjust_gen lo hi n]
  show wpAny _ _ (pure (((sIx n 0 lo : Nat) : Int), (1 : Int), Builtin.Slice.slicePlaces ((sIx n 0 lo : Nat) : Int) ((sIx n n hi : Nat) : Int) 1)) _ _ s
  rw [places_gen]
  exact wpAny_pure h
theorem pick_gen (xs : Array Value) (i k : Nat) : ((List.range k).filterMap fun (m : Nat) => xs[((i : Int) + (m : Int) * 1).toNat]?).toArray = ((xs.toList.drop i).take k).toArray := by
  have e : (fun (m : Nat) => xs[((i : Int) + (m : Int) * 1).toNat]?) = fun m => xs[i + m]? := by
    funext m
    have : ((i : Int) + (m : Int) * 1).toNat = i + m := by omega
    rw [this]
  rw [e]
  have := pick_run xs i k
  rw [List.filterMap_map] at this
  have e2 : ((fun x => xs[x]?) ∘ fun x => i + x) = fun m => xs[i + m]? := rfl
  rw [e2] at this
  rw [this]
theorem getItem_tuple_cut {t sl : Addr} {items : Array Value} {vl vu : Value} {lo hi : Option Int} {Q : Value → Shared → Prop} (ht : IsTup s.heap t items) (hs : s.heap.IsSliceOf sl vl vu .none) (pl : IsPart vl lo) (pu : IsPart vu hi)
    (hw : ¬ (sIx items.size 0 lo = 0 ∧ sIx items.size items.size hi = items.size))
    (h : Q (.ref s.heap.objs.size) { s with heap := s.heap.push { cls := .type "tuple", data := .seq ((items.toList.drop (sIx items.size 0 lo)).take (sIx items.size items.size hi - sIx items.size 0 lo)).toArray } })
    (hsz : items.size ≤ sizeLine) : wpAny (model prog w) A (getItem (.ref t) (.ref sl)) Q E s := by
  have htake : sizeOk (.seq ((items.toList.drop (sIx items.size 0 lo)).take (sIx items.size items.size hi - sIx items.size 0 lo)).toArray) := by
    show ((items.toList.drop (sIx items.size 0 lo)).take (sIx items.size items.size hi - sIx items.size 0 lo)).toArray.size ≤ sizeLine
    rw [List.size_toArray, List.length_take, List.length_drop, Array.length_toList]
    omega
  have hj : sIx items.size items.size hi ≤ items.size := sIx_le _ _ (Nat.le_refl _) hi
  obtain ⟨os, hos, hcs, hds⟩ := id hs
  have hTs : s.TypeIs (.ref sl) "slice" := ⟨os, hos, hcs⟩
  unfold getItem
  try with_reducible refine wpAny_holding ?_
  first | refine wpAny_bind (wpAny_pure ?_) | skip
  refine wpAny_bind (wpAny_sequenceKey ht.typeIs (by decide) ?_)
  refine wpAny_bind (wpAny_callSpecial?_slot (name := Str.ofString "__getitem__") ht.typeIs PyProof.Rows.slot_tuple_getitem
    (wpAny_call_entry PyProof.Rows.slot_tuple_getitem ht.typeIs entry_tuple_getitem ?_ (args_tuple_getitem _ _)))
  show wpAny _ _ (Builtin.Tuple.tupleItemsOf (.ref t) >>= _) _ _ s
  refine wpAny_bind (tupleItemsOf_ ht ?_)
  refine wpAny_bind (wpAny_typeOf hTs ?_)
  rw [if_pos (by decide)]
  refine wpAny_bind (sliceApplied_gen hs pl pu ?_)
  have hno : ¬ ((((sIx items.size 0 lo : Nat) : Int) == 0 && (1 : Int) == 1 && (sIx items.size items.size hi - sIx items.size 0 lo) == items.size) = true) := by
    intro q
    rw [Bool.and_eq_true, Bool.and_eq_true] at q
    have q1 : ((sIx items.size 0 lo : Nat) : Int) = 0 := eq_of_beq q.1.1
    have q2 : sIx items.size items.size hi - sIx items.size 0 lo = items.size := eq_of_beq q.2
    exact hw ⟨by omega, by omega⟩
  show wpAny _ _ (if (((sIx items.size 0 lo : Nat) : Int) == 0 && (1 : Int) == 1 && (sIx items.size items.size hi - sIx items.size 0 lo) == items.size) = true then _ else _) _ _ s
  rw [if_neg hno, pick_gen]
  first
    | exact wpAny_bind (m := Builtin.Tuple.tupleExact _) (wpAny_newObj_type (wpAny_pure ⟨_, rfl, wpAny_pure h⟩) htake)
    | exact wpAny_bind (m := Builtin.Tuple.tupleExact _) (wpAny_newObj_type (wpAny_bind (wpAny_pure (wpAny_pure ⟨_, rfl, wpAny_pure h⟩))) htake)
    | exact wpAny_bind (wpAny_bind (m := Builtin.Tuple.tupleExact _) (wpAny_newObj_type (wpAny_pure (wpAny_pure ⟨_, rfl, wpAny_pure h⟩)) htake))
    | exact wpAny_bind (wpAny_bind (m := Builtin.Tuple.tupleExact _) (wpAny_newObj_type (wpAny_pure ⟨_, rfl, wpAny_pure h⟩) htake))
end
end HT
namespace L2
open PySem PySem.Spec PyProof.Rows
abbrev TO := St → Hp → (Option Int → Hp → Prop) → Prop
def PO (X : Cx) (e : Option Expr) (t : TO) : Prop :=
  ∀ (pins : List (Addr × Obj)) (s : Shared) (σ : St) (H : Hp) (Q : Option Int → Hp → Prop), Inv X pins σ H s → t σ H Q →
    wpAny (model X.prog X.w) X.A (evalPart e X.env) (fun u s' => ∃ o H', Inv X pins σ H' s' ∧ IsPart u o ∧ Q o H') X.xe s
def tNoPart : TO := fun _ H Q => Q none H
def tPart (t : TE) : TO := fun σ H Q => t σ H fun x H1 => ∃ i, x = .int i ∧ Q (some i) H1
section
variable {X : Cx} {e : Expr} {te : TE} {lo hi : Option Expr} {tl th : TO} {pos p2 : Pos}
theorem po_none : PO X none tNoPart := by
  intro pins s σ H Q I h
  rw [evalPart_none]
  exact wpAny_pure ⟨none, H, I, .none, h⟩
theorem po_some (h : PE X e te) : PO X (some e) (tPart te) := by
  intro pins s σ H Q I hw
  rw [evalPart_some]
  refine thn (h pins s σ H _ I hw) fun u s1 ⟨x, H1, I1, r1, q1⟩ => ?_
  obtain ⟨i, rfl, q⟩ := q1
  obtain ⟨t, rfl⟩ := r1
  exact ⟨some i, H1, I1, .int i t, q⟩
def SlR (X : Cx) (r : V → Option Int → Option Int → Hp → VK → Prop) : Prop :=
  ∀ (pins : List (Addr × Obj)) (s : Shared) (σ : St) (H : Hp) (x : V) (v vl vu : Value) (lo hi : Option Int) (sl : Addr) (Q : VK), Inv X pins σ H s → RelV x v → s.heap.IsSliceOf sl vl vu .none → IsPart vl lo → IsPart vu hi → r x lo hi H Q →
    ∃ T id, typeLookup (.type T) "__getitem__" = pure (some (.builtin id)) ∧ s.TypeIs v T ∧ wpAny (model X.prog X.w) X.A (getItem v (.ref sl)) (EP X pins σ Q) X.xe s
def tSl (r : V → Option Int → Option Int → Hp → VK → Prop) (te : TE) (tl th : TO) : TE := fun σ H Q => te σ H fun x H1 => tl σ H1 fun l H2 => th σ H2 fun u H3 => r x l u H3 Q
theorem pe_slice {r : V → Option Int → Option Int → Hp → VK → Prop} (hr : SlR X r) (he : PE X e te) (hl : PO X lo tl) (hu : PO X hi th) : PE X (.Subscript e (.Slice lo hi none p2) pos) (tSl r te tl th) := by
  intro pins s σ H Q I h
  refine Subscript_ (thn (he pins s σ H _ I h) fun v s1 ⟨x, H1, I1, r1, q1⟩ => ?_)
  refine wpAny_Slice (thn (hl pins s1 σ H1 _ I1 q1) fun vl s2 ⟨l, H2, I2, pl, q2⟩ => thn (hu pins s2 σ H2 _ I2 q2) fun vu s3 ⟨u, H3, I3, pu, q3⟩ => ?_)
  rw [evalPart_none]
  refine wpAny_pure ?_
  have I4 : Inv X pins σ H3 { s3 with heap := s3.heap.push { cls := .type "slice", data := .fields #[vl, vu, .none] } } := I3.kept (t' := s3.toks) fun b ob q => Heap.get?_push_of_some _ q
  obtain ⟨T, id, hT, ht, hg⟩ := hr pins { s3 with heap := s3.heap.push { cls := .type "slice", data := .fields #[vl, vu, .none] } } σ H3 x v vl vu l u s3.heap.objs.size Q I4 r1 (Heap.IsSliceOf.new ..) pl pu q3
  show wpAny (model X.prog X.w) X.A (subscriptTail e (.Slice lo hi none p2) v (.ref s3.heap.objs.size)) (EP X pins σ Q) X.xe { s3 with heap := s3.heap.push { cls := .type "slice", data := .fields #[vl, vu, .none] } }
  exact tail_any (ops := [.ref s3.heap.objs.size, v]) ht hT hg (by with_unfolding_all rfl)
def cutV (xs : List V) (lo hi : Option Int) : List V := (xs.drop (HT.sIx xs.length 0 lo)).take (HT.sIx xs.length xs.length hi - HT.sIx xs.length 0 lo)
theorem cutV_length (xs : List V) (lo hi : Option Int) : (cutV xs lo hi).length ≤ xs.length := by
  unfold cutV
  rw [List.length_take, List.length_drop]
  omega
def rSlT (K : PySem.W.Frag) : V → Option Int → Option Int → Hp → VK → Prop := fun x lo hi H Q => ∃ a xs, x = .ref a ∧ SqT K H a xs ∧
  ¬ (HT.sIx xs.length 0 lo = 0 ∧ HT.sIx xs.length xs.length hi = xs.length) ∧ ∀ p, H p = none → Q (.ref p) (upd H p (.tup (cutV xs lo hi)))
theorem sl_tup : SlR X (rSlT X.K) := by
  intro pins s σ H x v vl vu lo hi sl Q I rx hs pl pu h
  obtain ⟨a, xs, rfl, hx, hw, q⟩ := h
  cases rx
  obtain ⟨its, r, ht, hz⟩ := I.tuple hx
  have hlen : its.toArray.size = xs.length := by rw [List.size_toArray]; exact r.length.symm
  refine ⟨"tuple", _, PyProof.Rows.slot_tuple_getitem.lookup, ht.typeIs, ?_⟩
  refine HT.getItem_tuple_cut ht hs pl pu (by rw [hlen]; exact hw) ?_ (by rw [hlen]; exact hz)
  rw [hlen]
  refine ⟨.ref s.heap.objs.size, _, I.laid (t' := s.toks) (o := .tup (cutV xs lo hi)) (fun b ob q => Heap.get?_push_of_some _ q) (Nat.le_refl _) ?_, rfl, q _ (I.hok.fresh (Nat.le_refl _))⟩
  exact ⟨Nat.le_trans (cutV_length xs lo hi) hz, _, (r.drop (HT.sIx xs.length 0 lo)).take (HT.sIx xs.length xs.length hi - HT.sIx xs.length 0 lo), IsTup.new _ _⟩
def rCatT (K : PySem.W.Frag) : R2 := fun x y H Q => ∃ a b xs ys, x = .ref a ∧ y = .ref b ∧ SqT K H a xs ∧ SqT K H b ys ∧ xs ≠ [] ∧ xs.length + ys.length ≤ sizeLine ∧
  (ys = [] → Q (.ref a) H) ∧ (ys ≠ [] → ∀ p, H p = none → Q (.ref p) (upd H p (.tup (xs ++ ys))))
theorem Vals.nil_iff {xs : List V} {us : List Value} (r : Vals xs us) : us = [] ↔ xs = [] := by
  cases r with
  | nil => simp
  | cons _ _ => simp
theorem op_catT : OpR X (binaryOp .Add) (rCatT X.K) := by
  intro pins s σ H x y v u Q I rx ry h
  obtain ⟨a, b, xs, ys, rfl, rfl, ha, hb, hx, hz, q1, q2⟩ := h
  cases rx
  cases ry
  obtain ⟨its, r1, p1, _⟩ := I.tuple ha
  obtain ⟨its2, r2, p2, _⟩ := I.tuple hb
  refine HT.cat_tup p1 p2 (fun z => hx (r1.nil_iff.mp z)) (fun z => ⟨.ref a, H, I, rfl, q1 (r2.nil_iff.mp z)⟩) (fun z => ?_) (by rw [← r1.length, ← r2.length]; exact hz)
  refine ⟨.ref s.heap.objs.size, _, I.laid (t' := s.toks) (o := .tup (xs ++ ys)) (fun b ob q => Heap.get?_push_of_some _ q) (Nat.le_refl _) ?_, rfl, q2 (fun w => z (r2.nil_iff.mpr w)) _ (I.hok.fresh (Nat.le_refl _))⟩
  exact ⟨by rw [List.length_append]; exact hz, _, r1.append r2, IsTup.new _ _⟩
end
end L2
namespace L2
open PySem PySem.Spec PyProof.Rows
def ixN (n : Nat) (i : Int) : Option Nat := if 0 ≤ i then (if i < n then some i.toNat else none) else if -(n : Int) ≤ i then some (i + n).toNat else none
def atI {α : Type} (xs : List α) (i : Int) : Option α := (ixN xs.length i).bind fun j => xs[j]?
theorem ixN_seq {n : Nat} {i : Int} {j : Nat} (h : ixN n i = some j) : seqIndex? i n = some j ∧ j < n ∧ -(n : Int) ≤ i ∧ i < n := by
  unfold ixN at h
  by_cases h0 : 0 ≤ i
  · rw [if_pos h0] at h
    by_cases h1 : i < n
    · rw [if_pos h1] at h
      have e : i.toNat = j := Option.some.inj h
      exact ⟨by rw [seqIndex_of h0 h1, e], by omega, by omega, h1⟩
    · rw [if_neg h1] at h; cases h
  · rw [if_neg h0] at h
    by_cases h1 : -(n : Int) ≤ i
    · rw [if_pos h1] at h
      have e : (i + n).toNat = j := Option.some.inj h
      exact ⟨by rw [seqIndex_neg (by omega) h1, e], by omega, h1, by omega⟩
    · rw [if_neg h1] at h; cases h
theorem atI_get {α : Type} {xs : List α} {i : Int} {v : α} (h : atI xs i = some v) : ∃ j, seqIndex? i xs.length = some j ∧ xs[j]? = some v ∧ j < xs.length ∧ -(xs.length : Int) ≤ i ∧ i < xs.length := by
  unfold atI at h
  cases e : ixN xs.length i with
  | none => rw [e] at h; cases h
  | some j =>
    rw [e] at h
    obtain ⟨h1, h2, h3, h4⟩ := ixN_seq e
    exact ⟨j, h1, h, h2, h3, h4⟩
theorem atI_nat {α : Type} {xs : List α} {j : Nat} {v : α} (h : xs[j]? = some v) : atI xs (j : Int) = some v := by
  have hj : j < xs.length := (List.getElem?_eq_some_iff.mp h).1
  have e : ixN xs.length (j : Int) = some j := by
    unfold ixN
    rw [if_pos (by omega), if_pos (by omega)]; simp
  unfold atI; rw [e]; exact h
def PlainIx (b : Expr) : Prop := ∀ o i, subscripted b false o i = operate [o, i] (getItem o i)
def IxR (X : Cx) (r : R2) : Prop :=
  ∀ (value slice : Expr) (pins : List (Addr × Obj)) (s : Shared) (σ : St) (H : Hp) (x y : V) (v u : Value) (Q : VK), Inv X pins σ H s → RelV x v → RelV y u → r x y H Q →
    subscripted slice false v u = operate [v, u] (getItem v u) → wpAny (model X.prog X.w) X.A (subscriptTail value slice v u) (EP X pins σ Q) X.xe s
def MtR (X : Cx) (id : String) (r : V → List V → Hp → VK → Prop) : Prop :=
  ∀ (pins : List (Addr × Obj)) (s : Shared) (σ : St) (H : Hp) (x : V) (xs : List V) (v : Value) (us : List Value) (Q : VK), Inv X pins σ H s → RelV x v → Vals xs us → r x xs H Q →
    wpAny (model X.prog X.w) X.A (call (.builtin id) (v :: us)) (EP X pins σ Q) X.xe s
section
variable {X : Cx} {a b : Expr} {ta tb : TE} {pos : Pos}
theorem IxR.or {r r' : R2} (h : IxR X r) (h' : IxR X r') : IxR X (fun x y H Q => r x y H Q ∨ r' x y H Q) := by
  intro value slice pins s σ H x y v u Q I rx ry q hs
  rcases q with q | q
  · exact h value slice pins s σ H x y v u Q I rx ry q hs
  · exact h' value slice pins s σ H x y v u Q I rx ry q hs
theorem pe_ix {r : R2} (hr : IxR X r) (ha : PE X a ta) (hb : PE X b tb) (hs : PlainIx b) : PE X (.Subscript a b pos) (tOp r ta tb) := by
  intro pins s σ H Q I h
  exact Subscript_ (binT ha hb I h fun v u s2 x y H2 I2 rx ry q => hr a b pins s2 σ H2 x y v u Q I2 rx ry q (hs _ _))
def rIxL (K : PySem.W.Frag) : R2 := fun x y H Q => ∃ p xs i v, x = .ref p ∧ y = .int i ∧ SqL K H p xs ∧ atI xs i = some v ∧ Q v H
def rIxT (K : PySem.W.Frag) : R2 := fun x y H Q => ∃ p xs i v, x = .ref p ∧ y = .int i ∧ SqT K H p xs ∧ atI xs i = some v ∧ Q v H
def rIxS : R2 := fun x y H Q => ∃ z i c, x = .str z ∧ y = .int i ∧ z.length ≤ sizeLine ∧ atI z.cps.toList i = some c ∧ Q (.str ⟨#[c]⟩) H
theorem ix_list : IxR X (rIxL X.K) := by
  intro value slice pins s σ H x y v u Q I rx ry h hs
  obtain ⟨p, xs, i, z, rfl, rfl, hq, he, q⟩ := h
  cases rx
  obtain ⟨t, rfl⟩ := ry
  obtain ⟨its, r, pl, hz⟩ := I.list hq
  obtain ⟨j, h1, h2, h3, h4, h5⟩ := atI_get he
  obtain ⟨w, ew, rw'⟩ := r.get h2
  have hl := r.length
  have hn := line63
  have fin : EP X pins σ Q w s := ⟨z, H, I, rw', q⟩
  by_cases h0 : 0 ≤ i
  · have hj : i.toNat = j := by
      rw [seqIndex_of h0 h5] at h1
      exact Option.some.inj h1
    exact item_listR pl.isList h0 (by omega) (by rw [hj]; simpa using ew) fin hs
  · have hj : (i + (its.toArray.size : Int)).toNat = j := by
      rw [seqIndex_neg (by omega) h4] at h1
      rw [List.size_toArray, ← hl]
      exact Option.some.inj h1
    exact subscriptTail_builtinR (x := w) pl.isList.typeIs slot_list_getitem.lookup
      (wpAny_getItem_list_neg (Q := fun r s' => r = w ∧ EP X pins σ Q r s') pl.isList (by omega) (by rw [List.size_toArray] <;> omega) (by omega) (by rw [hj]; simpa using ew) ⟨rfl, fin⟩) hs
theorem ix_tup : IxR X (rIxT X.K) := by
  intro value slice pins s σ H x y v u Q I rx ry h hs
  obtain ⟨p, xs, i, z, rfl, rfl, hq, he, q⟩ := h
  cases rx
  obtain ⟨t, rfl⟩ := ry
  obtain ⟨its, r, pl, hz⟩ := I.tuple hq
  obtain ⟨j, h1, h2, h3, h4, h5⟩ := atI_get he
  obtain ⟨w, ew, rw'⟩ := r.get h2
  have hl := r.length
  have hn := line63
  have fin : EP X pins σ Q w s := ⟨z, H, I, rw', q⟩
  exact subscriptTail_builtinR (x := w) pl.typeIs slot_tuple_getitem.lookup
    (getItem_tuple (j := j) (Q := fun r s' => r = w ∧ EP X pins σ Q r s') pl (by omega) (by omega) (by rw [List.size_toArray, ← hl]; exact h1) (by simpa using ew) ⟨rfl, fin⟩) hs
theorem ix_str : IxR X rIxS := by
  intro value slice pins s σ H x y v u Q I rx ry h hs
  obtain ⟨z, i, c, rfl, rfl, hz, he, q⟩ := h
  obtain ⟨t, rfl⟩ := rx
  obtain ⟨t', rfl⟩ := ry
  obtain ⟨j, h1, h2, h3, h4, h5⟩ := atI_get he
  have hl : z.cps.toList.length = z.length := by simp [Str.length]
  rw [hl] at h1 h4 h5
  have hn := line63
  exact tail_any (typeIs_str s z t) slot_str_getitem.lookup (getItem_str (c := c) (by
    have e1 : decide (i < -(2 ^ 63 : Int)) = false := decide_eq_false (by omega)
    have e2 : decide (i ≥ 2 ^ 63) = false := decide_eq_false (by omega)
    rw [e1, e2, Bool.or_false]) (by rw [h1]; simpa using h2) ⟨.str ⟨#[c]⟩, H, I.tok _, ⟨_, rfl⟩, q⟩) hs
def rIx (K : PySem.W.Frag) : R2 := fun x y H Q => rIxL K x y H Q ∨ rIxT K x y H Q ∨ rIxS x y H Q
theorem ix_seq : IxR X (rIx X.K) := ix_list.or (ix_tup.or ix_str)
theorem mapSeq_set (its : List Value) (n j : Nat) (u : Value) : Obj.mapSeq (·.setIfInBounds j u) { cls := .type "list", data := .seq its.toArray n } = { cls := .type "list", data := .seq (its.set j u).toArray n } := by
  simp [Obj.mapSeq]
theorem Inv.lst {pins : List (Addr × Obj)} {σ : St} {H : Hp} {s : Shared} {p : Addr} {xs : List V} (I : Inv X pins σ H s) (h : H p = some (.lst xs)) :
    ∃ (its : List Value) (n : Nat), Vals xs its ∧ s.heap.get? p = some { cls := .type "list", data := .seq its.toArray n } ∧ xs.length ≤ sizeLine := by
  obtain ⟨z, its, n, r, e⟩ := I.hok p _ h
  exact ⟨its, n, r, e, z⟩
theorem Inv.lstUpd {pins : List (Addr × Obj)} {σ : St} {H : Hp} {s : Shared} {p : Addr} {xs ys : List V} {its its' : List Value} {n n' : Nat} {f : Obj → Obj} (I : Inv X pins σ H s) (h : H p = some (.lst xs))
    (ho : s.heap.get? p = some { cls := .type "list", data := .seq its.toArray n }) (hf : f { cls := .type "list", data := .seq its.toArray n } = { cls := .type "list", data := .seq its'.toArray n' }) (r : Vals ys its') (hz : ys.length ≤ sizeLine) (t : Nat) :
    Inv X pins σ (upd H p (.lst ys)) { s with heap := s.heap.update p f, toks := t } := by
  have e : (s.heap.update p f).get? p = some { cls := .type "list", data := .seq its'.toArray n' } := by
    rw [Heap.get?_update_self f ho (by rw [hf] <;> rfl), hf]
  refine I.write (x := p) (e := p) (by rw [h]; trivial) (.inl rfl) (fun b u hb q => (Heap.get?_update_other _ _ (Ne.symm hb)).trans q) ⟨_, e⟩ ?_
  exact ⟨hz, its', n', r, e⟩
def rSetL : V → V → V → Hp → (Hp → Prop) → Prop := fun o i v H Q => ∃ p xs k j, o = .ref p ∧ i = .int k ∧ H p = some (.lst xs) ∧ ixN xs.length k = some j ∧ Q (upd H p (.lst (xs.set j v)))
theorem set_list : PSet X rSetL := by
  intro pins s σ H o i v ov iv u Q I ro ri rv h
  obtain ⟨p, xs, k, j, rfl, rfl, hp, hj, q⟩ := h
  cases ro
  obtain ⟨t, rfl⟩ := ri
  obtain ⟨its, n, r, ho, hz⟩ := I.lst hp
  obtain ⟨h1, h2, h3, h4⟩ := ixN_seq hj
  have hl := r.length
  have hn := line63
  have I' : Inv X pins σ (upd H p (.lst (xs.set j v))) { s with heap := s.heap.update p (Obj.mapSeq (·.setIfInBounds j u)) } :=
    I.lstUpd hp ho (mapSeq_set its n j u) (r.set rv j) (by rw [List.length_set]; exact hz) s.toks
  by_cases h0 : 0 ≤ k
  · have hk : k.toNat = j := by
      rw [seqIndex_of h0 h4] at h1
      exact Option.some.inj h1
    exact PySem.W.ki_setAt ho h0 (by omega) (by rw [List.size_toArray, ← hl]; exact h4) (by rw [hk]; exact ⟨_, I', q⟩)
  · have hk : (k + (its.toArray.size : Int)).toNat = j := by
      rw [seqIndex_neg (by omega) h3] at h1
      rw [List.size_toArray, ← hl]
      exact Option.some.inj h1
    exact PySem.W.ki_setBack ho (by omega) (by rw [List.size_toArray, ← hl]; exact h3) (by omega) (by rw [hk]; exact ⟨_, I', q⟩)
theorem slice_bounds (lo hi : Option Int) (n : Nat) : (sliceBounds lo hi none n).1 = ((HT.sIx n 0 lo : Nat) : Int) ∧ (sliceBounds lo hi none n).2.1 = ((HT.sIx n n hi : Nat) : Int) ∧ (sliceBounds lo hi none n).2.2 = 1 := by
  refine ⟨?_, ?_, rfl⟩
  · cases lo with
    | none => simp [sliceBounds, HT.sIx]
    | some i =>
      simp only [sliceBounds, HT.sIx, Option.getD_none, show (1 : Int) > 0 by decide, if_true]
      by_cases h : i < 0
      · simp only [h, if_true] <;> omega
      · simp only [h, if_false] <;> omega
  · cases hi with
    | none => simp [sliceBounds, HT.sIx]
    | some i =>
      simp only [sliceBounds, HT.sIx, Option.getD_none, show (1 : Int) > 0 by decide, if_true]
      by_cases h : i < 0
      · simp only [h, if_true] <;> omega
      · simp only [h, if_false] <;> omega
theorem slicePick_cut (its : List Value) (lo hi : Option Int) : slicePick its.toArray lo hi none = ((its.drop (HT.sIx its.length 0 lo)).take (HT.sIx its.length its.length hi - HT.sIx its.length 0 lo)).toArray := by
  obtain ⟨h1, h2, h3⟩ := slice_bounds lo hi its.toArray.size
  unfold slicePick
  rw [h1, h2, h3]
  simp only [sliceRange_one, pick_run, List.size_toArray] <;> rfl
def rSlL (K : PySem.W.Frag) : V → Option Int → Option Int → Hp → VK → Prop := fun x lo hi H Q => ∃ a xs, x = .ref a ∧ SqL K H a xs ∧ ∀ p, H p = none → Q (.ref p) (upd H p (.lst (cutV xs lo hi)))
theorem sl_list : SlR X (rSlL X.K) := by
  intro pins s σ H x v vl vu lo hi sl Q I rx hs pl pu h
  obtain ⟨a, xs, rfl, hx, q⟩ := h
  cases rx
  obtain ⟨its, r, ht, hz⟩ := I.list hx
  have hlen := r.length
  refine ⟨"list", _, slot_list_getitem.lookup, ht.isList.typeIs, ?_⟩
  refine wpAny_getItem_list_slice ht.isList hs pl pu .none (by simp) ?_ (by rw [List.size_toArray] <;> omega)
  rw [slicePick_cut, ← hlen]
  refine ⟨.ref s.heap.objs.size, _, I.laid (t' := s.toks) (o := .lst (cutV xs lo hi)) (fun b ob q => Heap.get?_push_of_some _ q) (Nat.le_refl _) ?_, rfl, q _ (I.hok.fresh (Nat.le_refl _))⟩
  exact ⟨Nat.le_trans (cutV_length xs lo hi) hz, _, 0, (r.drop (HT.sIx xs.length 0 lo)).take (HT.sIx xs.length xs.length hi - HT.sIx xs.length 0 lo), Heap.get?_push_size _ rfl⟩
def flatV : V → Bool
  | .non => true
  | .bl _ => true
  | .int _ => true
  | .str _ => true
  | _ => false
def eqV : V → V → Bool
  | .non, .non => true
  | .bl a, .bl b => a == b
  | .bl a, .int b => (if a then 1 else 0) == b
  | .int a, .bl b => a == (if b then 1 else 0)
  | .int a, .int b => a == b
  | .str a, .str b => a == b
  | _, _ => false
theorem eqAt_V {A : Around} {s : Shared} {y x : V} {u v : Value} (ry : RelV y u) (rx : RelV x v) (fy : flatV y = true) (fx : flatV x = true) : SeqAt.EqAt A s u v (eqV y x) := by
  cases y with
  | non =>
    cases ry
    cases x with
    | non => cases rx; exact SeqAt.EqAt.same _
    | bl b => cases rx; exact SeqAt.EqAt.none_bool b
    | int b => obtain ⟨t, rfl⟩ := rx; exact SeqAt.EqAt.none_int b t
    | str b => obtain ⟨t, rfl⟩ := rx; exact SeqAt.EqAt.none_str b t
    | _ => exact absurd (show false = true from fx) Bool.false_ne_true
  | bl a =>
    cases ry
    cases x with
    | non => cases rx; exact SeqAt.EqAt.bool_none a
    | bl b => cases rx; exact SeqAt.EqAt.bool_bool a b
    | int b => obtain ⟨t, rfl⟩ := rx; exact SeqAt.EqAt.bool_int a b t
    | str b => obtain ⟨t, rfl⟩ := rx; exact SeqAt.EqAt.bool_str a b t
    | _ => exact absurd (show false = true from fx) Bool.false_ne_true
  | int a =>
    obtain ⟨t', rfl⟩ := ry
    cases x with
    | non => cases rx; exact SeqAt.EqAt.int_none a t'
    | bl b => cases rx; exact SeqAt.EqAt.int_bool a t' b
    | int b => obtain ⟨t, rfl⟩ := rx; exact SeqAt.EqAt.int_int a t' b t
    | str b => obtain ⟨t, rfl⟩ := rx; exact SeqAt.EqAt.int_str a t' b t
    | _ => exact absurd (show false = true from fx) Bool.false_ne_true
  | str a =>
    obtain ⟨t', rfl⟩ := ry
    cases x with
    | non => cases rx; exact SeqAt.EqAt.str_none a t'
    | bl b => cases rx; exact SeqAt.EqAt.str_bool a t' b
    | int b => obtain ⟨t, rfl⟩ := rx; exact SeqAt.EqAt.str_int a t' b t
    | str b => obtain ⟨t, rfl⟩ := rx; exact SeqAt.EqAt.str_str a t' b t
    | _ => exact absurd (show false = true from fx) Bool.false_ne_true
  | _ => exact absurd (show false = true from fy) Bool.false_ne_true
def eqU (x : V) (u : Value) : Bool := match u with
  | .none => eqV .non x
  | .bool b => eqV (.bl b) x
  | .int i _ => eqV (.int i) x
  | .str z _ => eqV (.str z) x
  | _ => false
theorem eqU_of {x y : V} {u : Value} (r : RelV y u) (f : flatV y = true) : eqU x u = eqV y x := by
  cases y with
  | non => cases r; rfl
  | bl b => cases r; rfl
  | int i => obtain ⟨t, rfl⟩ := r; rfl
  | str z => obtain ⟨t, rfl⟩ := r; rfl
  | _ => exact absurd (show false = true from f) Bool.false_ne_true
theorem any_eqU {x : V} : ∀ {xs : List V} {us : List Value}, Vals xs us → xs.all flatV = true → us.any (eqU x) = xs.any fun y => eqV y x
  | _, _, .nil, _ => rfl
  | y :: xs, u :: us, .cons r t, f => by
    rw [List.all_cons, Bool.and_eq_true] at f
    rw [List.any_cons, List.any_cons, eqU_of r f.1, any_eqU t f.2]
theorem mem_eqAt {A : Around} {s : Shared} {x : V} {v : Value} (rx : RelV x v) (fx : flatV x = true) : ∀ {xs : List V} {us : List Value}, Vals xs us → xs.all flatV = true → ∀ u ∈ us, SeqAt.EqAt A s u v (eqU x u)
  | _, _, .nil, _ => fun u hu => by cases hu
  | y :: xs, u :: us, .cons r t, f => fun u' hu => by
    rw [List.all_cons, Bool.and_eq_true] at f
    rcases List.mem_cons.mp hu with rfl | hu
    · rw [eqU_of r f.1]; exact eqAt_V r rx f.1 fx
    · exact mem_eqAt rx fx t f.2 u' hu
def inV (x : V) (xs : List V) : Bool := xs.any fun y => eqV y x
def rIn (K : PySem.W.Frag) (neg : Bool) : R2 := fun x y H Q => ∃ p xs, y = .ref p ∧ (SqL K H p xs ∨ SqT K H p xs) ∧ flatV x = true ∧ xs.all flatV = true ∧ Q (.bl (if neg then !inV x xs else inV x xs)) H
theorem op_in_seq : OpR X (compareOp .In) (rIn X.K false) := by
  intro pins s σ H x y v u Q I rx ry h
  obtain ⟨p, xs, rfl, hq, fx, fs, q⟩ := h
  cases ry
  rcases hq with hq | hq
  · obtain ⟨its, r, pl, hz⟩ := I.list hq
    refine SeqAt.in_listAt (eqU x) pl.isList (fun w hw => mem_eqAt rx fx r fs w (by simpa using hw)) ⟨.bl _, H, I, rfl, ?_⟩
    rw [show its.toArray.any (eqU x) = its.any (eqU x) by simp, any_eqU r fs]
    exact q
  · obtain ⟨its, r, pl, hz⟩ := I.tuple hq
    refine SeqAt.in_tupleAt (eqU x) pl (fun w hw => mem_eqAt rx fx r fs w (by simpa using hw)) ⟨.bl _, H, I, rfl, ?_⟩
    rw [show its.toArray.any (eqU x) = its.any (eqU x) by simp, any_eqU r fs]
    exact q
theorem op_notIn_seq : OpR X (compareOp .NotIn) (rIn X.K true) := by
  intro pins s σ H x y v u Q I rx ry h
  obtain ⟨p, xs, rfl, hq, fx, fs, q⟩ := h
  cases ry
  rcases hq with hq | hq
  · obtain ⟨its, r, pl, hz⟩ := I.list hq
    refine SeqAt.notIn_listAt (eqU x) pl.isList (fun w hw => mem_eqAt rx fx r fs w (by simpa using hw)) ⟨.bl _, H, I, rfl, ?_⟩
    rw [show its.toArray.any (eqU x) = its.any (eqU x) by simp, any_eqU r fs]
    exact q
  · obtain ⟨its, r, pl, hz⟩ := I.tuple hq
    refine SeqAt.notIn_tupleAt (eqU x) pl (fun w hw => mem_eqAt rx fx r fs w (by simpa using hw)) ⟨.bl _, H, I, rfl, ?_⟩
    rw [show its.toArray.any (eqU x) = its.any (eqU x) by simp, any_eqU r fs]
    exact q
theorem call_len_seq : CallR X (.builtin "len") (fun xs H Q => ∃ p ys, xs = [.ref p] ∧ (SqL X.K H p ys ∨ SqT X.K H p ys) ∧ Q (.int ys.length) H) := by
  intro pins s σ H xs us Q I r h
  obtain ⟨p, ys, rfl, hq, q⟩ := h
  obtain ⟨u, rfl, rx⟩ := vals1 r
  cases rx
  have hn := line63
  rcases hq with hq | hq
  · obtain ⟨its, r', pl, hz⟩ := I.list hq
    have hlen := r'.length
    exact Calls.call_len_list pl.isList (by simp only [List.size_toArray] <;> omega) ⟨.int ys.length, H, I.tok _, ⟨s.toks + 1, by rw [List.size_toArray, hlen]⟩, q⟩
  · obtain ⟨its, r', pl, hz⟩ := I.tuple hq
    have hlen := r'.length
    exact len_tuple pl (by simp only [List.size_toArray] <;> omega) ⟨.int ys.length, H, I.tok _, ⟨s.toks + 1, by rw [List.size_toArray, hlen]⟩, q⟩
theorem call_len_str : CallR X (.builtin "len") (fun xs H Q => ∃ z, xs = [.str z] ∧ z.length ≤ sizeLine ∧ Q (.int z.length) H) := by
  intro pins s σ H xs us Q I r h
  obtain ⟨z, rfl, hz, q⟩ := h
  obtain ⟨u, rfl, t, rfl⟩ := vals1 r
  have hn := line63
  exact len_str (by omega) ⟨.int z.length, H, I.tok _, ⟨_, rfl⟩, q⟩
theorem call_list_of : CallR X (.type "list") (fun xs H Q => ∃ p ys, xs = [.ref p] ∧ (SqL X.K H p ys ∨ SqT X.K H p ys) ∧ ∀ l, H l = none → Q (.ref l) (upd H l (.lst ys))) := by
  intro pins s σ H xs us Q I r h
  obtain ⟨p, ys, rfl, hq, q⟩ := h
  obtain ⟨u, rfl, rx⟩ := vals1 r
  cases rx
  have fin : ∀ (its : List Value), Vals ys its → ys.length ≤ sizeLine → ∀ (h' : Heap) (c' : Nat), (∀ b o', s.heap.get? b = some o' → h'.get? b = some o') →
      h'.get? s.heap.objs.size = some { cls := .type "list", dict := none, data := .seq its.toArray c', slots := #[] } → EP X pins σ Q (.ref s.heap.objs.size) { s with heap := h' } := fun its r' hz h' c' kp e =>
    ⟨.ref s.heap.objs.size, _, I.laid (t' := s.toks) kp (Nat.le_refl _) (show ObjOk X.prog X.w _ h' _ (.lst ys) from ⟨hz, its, c', r', e⟩), rfl, q _ (I.hok.fresh (Nat.le_refl _))⟩
  rcases hq with hq | hq
  · obtain ⟨its, r', pl, hz⟩ := I.list hq
    have hlen := r'.length
    obtain ⟨o, ho, hc, n, hd⟩ := pl.isList
    exact call_list_seq p (.inl rfl) ho hc hd (fun h' c' kp e => fin its r' hz h' c' kp e) (by simp only [List.size_toArray] <;> omega)
  · obtain ⟨its, r', pl, hz⟩ := I.tuple hq
    have hlen := r'.length
    obtain ⟨o, ho, hc, n, hd⟩ := pl
    exact call_list_seq p (.inr rfl) ho hc hd (fun h' c' kp e => fin its r' hz h' c' kp e) (by simp only [List.size_toArray] <;> omega)
theorem call_tuple_of : CallR X (.type "tuple") (fun xs H Q => ∃ p ys, xs = [.ref p] ∧ ((SqL X.K H p ys ∧ ∀ l, H l = none → Q (.ref l) (upd H l (.tup ys))) ∨ (SqT X.K H p ys ∧ Q (.ref p) H))) := by
  intro pins s σ H xs us Q I r h
  obtain ⟨p, ys, rfl, h⟩ := h
  obtain ⟨u, rfl, rx⟩ := vals1 r
  cases rx
  rcases h with ⟨hq, q⟩ | ⟨hq, q⟩
  · obtain ⟨its, r', pl, hz⟩ := I.list hq
    have hlen := r'.length
    refine call_tuple_list pl.isList (fun h' kp => ?_) (by simp only [List.size_toArray] <;> omega)
    have I1 : Inv X pins σ H { s with heap := h' } := I.kept (t' := s.toks) kp
    have I2 : Inv X pins σ (upd H h'.objs.size (.tup ys)) { s with heap := h'.push { cls := .type "tuple", data := .seq its.toArray } } :=
      I1.laid (t' := s.toks) (fun b o e => Heap.get?_push_of_some _ e) (Nat.le_refl _) (show ObjOk X.prog X.w _ _ _ (.tup ys) from ⟨hz, its, r', IsTup.new _ _⟩)
    exact ⟨.ref h'.objs.size, _, I2, rfl, q _ (I1.hok.fresh (Nat.le_refl _))⟩
  · obtain ⟨its, r', pl, hz⟩ := I.tuple hq
    exact call_tuple_same pl ⟨.ref p, H, I, rfl, q⟩
def tyV (K : PySem.W.Frag) (T : String) (x : V) (H : Hp) : Prop := match x with
  | .str _ => T = "str"
  | .int _ => T = "int"
  | .ref p => (T = "list" ∧ ∃ xs, SqL K H p xs) ∨ (T = "tuple" ∧ ∃ o, K.lookup p = some o ∧ o.cls = .type "tuple" ∧ o.dict = none) ∨
      (T = "dict" ∧ ((∃ kvs, H p = some (.dK kvs)) ∨ ∃ kvs, H p = some (.dT kvs))) ∨ (T = "set" ∧ ∃ S n, H p = some (.set S n))
  | _ => False
theorem tyV_is {pins : List (Addr × Obj)} {σ : St} {H : Hp} {s : Shared} {T : String} {x : V} {v : Value} (I : Inv X pins σ H s) (r : RelV x v) (ty : tyV X.K T x H) :
    s.TypeIs v T ∧ ∀ a, v = .ref a → ∃ ob, s.heap.get? a = some ob ∧ ob.dict = none := by
  cases x with
  | str z =>
    obtain ⟨t, rfl⟩ := r
    cases (show T = "str" from ty)
    exact ⟨typeIs_str s z t, fun _ e => nomatch e⟩
  | int i =>
    obtain ⟨t, rfl⟩ := r
    cases (show T = "int" from ty)
    exact ⟨typeIs_int s i t, fun _ e => nomatch e⟩
  | ref p =>
    cases r
    rcases ty with ⟨rfl, xs, hq⟩ | ⟨rfl, o, hk, hc, hd⟩ | ⟨rfl, hk⟩ | ⟨rfl, S, n, hk⟩
    · obtain ⟨its, _, pl, _⟩ := I.list hq
      refine ⟨pl.isList.typeIs, fun a e => ?_⟩
      cases e
      obtain ⟨o, n, e, c, hd, _⟩ := pl
      exact ⟨o, e, hd⟩
    · refine ⟨⟨o, I.kIn p o hk, hc⟩, fun a e => ?_⟩
      cases e
      exact ⟨o, I.kIn _ o hk, hd⟩
    · have z : ∃ o, s.heap.get? p = some o ∧ o.ExactDict := by
        rcases hk with ⟨kvs, hk⟩ | ⟨kvs, hk⟩
        · obtain ⟨_, _, _, _, o, _, _, e, ex, _⟩ := I.hok p _ hk
          exact ⟨o, e, ex⟩
        · obtain ⟨_, _, _, _, o, _, _, e, ex, _⟩ := I.hok p _ hk
          exact ⟨o, e, ex⟩
      obtain ⟨o, e, ex⟩ := z
      refine ⟨⟨o, e, ex.1⟩, fun a e2 => ?_⟩
      cases e2
      exact ⟨o, e, ex.2.1⟩
    · obtain ⟨o, _, _, _, e, ex, _⟩ := I.hok p _ hk
      refine ⟨⟨o, e, ex.1⟩, fun a e2 => ?_⟩
      cases e2
      exact ⟨o, e, ex.2.1⟩
  | _ => exact False.elim ty
def tBM0 (K : PySem.W.Frag) (T : String) (r : V → List V → Hp → VK → Prop) (to : TE) : TE := fun σ H Q => to σ H fun x H1 => tyV K T x H1 ∧ r x [] H1 Q
def tBM (K : PySem.W.Frag) (T : String) (r : V → List V → Hp → VK → Prop) (to : TE) (t : TA) : TE := fun σ H Q => to σ H fun x H1 => tyV K T x H1 ∧ t σ H1 fun xs H2 => r x xs H2 Q
variable {o e : Expr} {es : List Expr} {to : TE} {t : TA} {name : Str} {apos cpos : Pos} {T id : String} {r : V → List V → Hp → VK → Prop}
theorem pe_bm (pa : PlainAttrs T) (slot : Slot T name id) (hty : typeOf (.builtin id) = pure (.type "method_descriptor")) (hm : MtR X id r) (ho : PE X o to) (ha : PA X (e :: es) t)
    (hbase : attributeBase o name X.env (eval o X.env) = eval o X.env := by rfl)
    (hfew : ((backTo cpos (starEach (e :: es) X.env)).all (fun x => !x.1) && (backToKw cpos (keywordEach [] X.env)).all (fun x => x.1.isSome)
      && decide ((e :: es).length + ([] : List Keyword).length + (if ([] : List Keyword).isEmpty then 0 else 1) < 30)) = true := by rfl)
    (hline : (apos.endLine == cpos.line) = true := by rfl) (hs : starEach (e :: es) X.env = (false, eval e X.env) :: starEach es X.env := by rfl) (hplain : (backTo cpos (starEach es X.env)).any (·.1) = false := by rfl) :
    PE X (.Call (.Attribute o name apos) (e :: es) [] cpos) (tBM X.K T r to t) := by
  intro pins s σ H Q I h
  refine wpAny_Call_method_late hbase hfew hline rfl (thn (ho pins s σ H _ I h) fun v s1 ⟨x, H1, I1, r1, ty, q1⟩ => ?_)
  obtain ⟨h1, h2⟩ := tyV_is I1 r1 ty
  refine ⟨T, id, pa, slot, hty, h1, h2, ?_⟩
  have hA := ha cpos pins s1 σ H1 _ I1 q1
  rw [hs] at hA ⊢
  refine Calls.callWith_builtin (by show (false || (backTo cpos (starEach es X.env)).any (·.1)) = false; rw [hplain] <;> rfl) (Calls.evalArgs_plain ?_)
  exact thn hA fun us s2 ⟨vs, H2, I2, r2, q2⟩ => hm pins s2 σ H2 x vs v us Q I2 r1 r2 q2
/- xs.append(e), list.index on a module's tuple .. are MtR facts of 06m -/
end
end L2
namespace L2
open PySem PySem.Spec PyProof.Rows
def MtM (X : Cx) (id : String) (r : V → List V → Hp → VK → Prop) : Prop :=
  ∀ (pins : List (Addr × Obj)) (s : Shared) (σ : St) (H : Hp) (x : V) (xs : List V) (v : Value) (us : List Value) (Q : VK), Inv X pins σ H s → RelV x v → Vals xs us → r x xs H Q →
    wpAny (model X.prog X.w) X.A (call (.builtin id) (v :: us)) (EP X pins σ Q) X.xe s
theorem Vals.one : ∀ {x : V} {us : List Value}, Vals [x] us → ∃ u, us = [u] ∧ RelV x u
  | _, _, .cons r .nil => ⟨_, rfl, r⟩
theorem Vals.rep {xs : List V} {us : List Value} (h : Vals xs us) : ∀ k : Nat, Vals (List.replicate k xs).flatten (List.replicate k us).flatten
  | 0 => .nil
  | k + 1 => by
    rw [List.replicate_succ, List.replicate_succ, List.flatten_cons, List.flatten_cons]
    exact Vals.append h (Vals.rep h k)
theorem foldl_rep (its : List Value) : ∀ (k : Nat) (acc : List Value),
    List.foldl (fun x1 x2 => x1 ++ x2) acc.toArray (List.replicate k its.toArray) = (acc ++ (List.replicate k its).flatten).toArray
  | 0, acc => by simp
  | k + 1, acc => by
    have e : acc.toArray ++ its.toArray = (acc ++ its).toArray := by simp
    have e2 : (acc ++ its) ++ (List.replicate k its).flatten = acc ++ (List.replicate (k + 1) its).flatten := by
      rw [List.replicate_succ, List.flatten_cons, List.append_assoc]
    rw [← e2, ← foldl_rep its k (acc ++ its), ← e, List.replicate_succ, List.foldl_cons]
section
variable {X : Cx} {pins : List (Addr × Obj)} {σ : St} {H : Hp} {s : Shared} {l b : Addr} {xs ys zs : List V}
theorem Inv.lset {its its' : List Value} {n : Nat} {f : Array Value → Array Value} {t' : Nat} (I : Inv X pins σ H s) (hH : H l = some (.lst xs))
    (e : s.heap.get? l = some { cls := .type "list", data := .seq its.toArray n }) (hf : f its.toArray = its'.toArray) (hv : Vals ys its') (hz : ys.length ≤ sizeLine) :
    Inv X pins σ (upd H l (.lst ys)) { s with heap := s.heap.update l (Obj.mapSeq f), toks := t' } := by
  have q := PySem.IsL.update e f
  rw [hf] at q
  refine I.write (x := l) (e := l) (by rw [hH]; exact trivial) (.inl rfl) (fun b' u hb hu => (Heap.get?_update_other s.heap (Obj.mapSeq f) (Ne.symm hb)).trans hu) ⟨_, q⟩ ?_
  exact ⟨hz, its', _, hv, q⟩
theorem Inv.lnew {its : List Value} {t' : Nat} (I : Inv X pins σ H s) (hv : Vals ys its) (hz : ys.length ≤ sizeLine) :
    Inv X pins σ (upd H s.heap.objs.size (.lst ys)) { s with heap := s.heap.push { cls := .type "list", data := .seq its.toArray }, toks := t' } :=
  I.laid (fun _ _ q => Heap.get?_push_of_some _ q) (Nat.le_refl _) ⟨hz, its, 0, hv, Heap.get?_push_size _ rfl⟩
theorem Inv.fresh (I : Inv X pins σ H s) : H s.heap.objs.size = none := I.hok.fresh (Nat.le_refl _)
theorem Inv.lstM (I : Inv X pins σ H s) (hH : H l = some (.lst xs)) : xs.length ≤ sizeLine ∧ ∃ (its : List Value) (n : Nat), Vals xs its ∧ xs.length = its.length ∧ s.heap.get? l = some { cls := .type "list", data := .seq its.toArray n } := by
  obtain ⟨z, its, n, r, e⟩ := I.hok l _ hH
  exact ⟨z, its, n, r, r.length, e⟩
theorem notLongL {n : Nat} (h : n ≤ sizeLine) : Builtin.List.listTooLong n = false := by
  unfold Builtin.List.listTooLong
  exact decide_eq_false (by omega)
end
section
variable {X : Cx}
def rAppend : V → List V → Hp → VK → Prop := fun x vs H Q => ∃ l xs y, x = .ref l ∧ vs = [y] ∧ H l = some (.lst xs) ∧ xs.length < sizeLine ∧ Q .non (upd H l (.lst (xs ++ [y])))
theorem mt_append : MtM X "list.append" rAppend := by
  intro pins s σ H x vs v us Q I rx rv h
  obtain ⟨l, xs, y, rfl, rfl, hH, hz, q⟩ := h
  cases rx
  obtain ⟨u, rfl, ru⟩ := rv.one
  obtain ⟨z, its, n, r, hl, e⟩ := I.lstM hH
  refine call_meets F.slot_list_append ⟨_, e, rfl⟩ F.entry_list_append (F.args_list_append_2 _ _) (PySem.list_append l its.toArray n u (by rw [List.size_toArray]; omega)) ⟨e, ?_⟩
  refine ⟨.non, _, I.lset (its' := its ++ [u]) hH e (by simp) (r.append (.cons ru .nil)) ?_, rfl, q⟩
  rw [List.length_append, List.length_singleton]
  omega
def rExtend : V → List V → Hp → VK → Prop := fun x vs H Q => ∃ l b xs zs, x = .ref l ∧ vs = [.ref b] ∧ H l = some (.lst xs) ∧ H b = some (.lst zs) ∧ xs.length + zs.length ≤ sizeLine ∧ Q .non (upd H l (.lst (xs ++ zs)))
theorem mt_extend : MtM X "list.extend" rExtend := by
  intro pins s σ H x vs v us Q I rx rv h
  obtain ⟨l, b, xs, zs, rfl, rfl, hH, hB, hz, q⟩ := h
  cases rx
  obtain ⟨u, rfl, ru⟩ := rv.one
  cases ru
  obtain ⟨z, its, n, r, hl, e⟩ := I.lstM hH
  obtain ⟨z2, its2, n2, r2, hl2, e2⟩ := I.lstM hB
  have hsz : its.toArray.size + its2.toArray.size ≤ sizeLine := by rw [List.size_toArray, List.size_toArray]; omega
  have hlong : ¬ (!its.toArray.isEmpty && Builtin.List.listTooLong (its.toArray.size + its2.toArray.size)) = true := by
    rw [notLongL hsz, Bool.and_false]
    exact Bool.false_ne_true
  refine call_meets F.slot_list_extend ⟨_, e, rfl⟩ F.entry_list_extend (F.args_list_extend_2 _ _)
    (AutoSeq1.list_extend_list_list_0 l its.toArray n b its2.toArray n2 hlong (by rw [List.size_toArray]; omega) (by omega)) ⟨e, e2, ?_⟩
  refine ⟨.non, _, I.lset (its' := its ++ its2) hH e (by simp) (r.append r2) ?_, rfl, q⟩
  rw [List.length_append]
  omega
def rCat : R2 := fun x y H Q => ∃ l b xs zs, x = .ref l ∧ y = .ref b ∧ H l = some (.lst xs) ∧ H b = some (.lst zs) ∧ xs.length + zs.length ≤ sizeLine ∧ ∀ p, H p = none → Q (.ref p) (upd H p (.lst (xs ++ zs)))
theorem op_cat : OpR X (binaryOp .Add) rCat := by
  intro pins s σ H x y v u Q I rx ry h
  obtain ⟨l, b, xs, zs, rfl, rfl, hH, hB, hz, q⟩ := h
  cases rx
  cases ry
  obtain ⟨z, its, n, r, hl, e⟩ := I.lstM hH
  obtain ⟨z2, its2, n2, r2, hl2, e2⟩ := I.lstM hB
  refine PySem.P.add_list e e2 ?_ (by rw [List.size_toArray, List.size_toArray]; omega)
  have ea : its.toArray ++ its2.toArray = (its ++ its2).toArray := by simp
  rw [ea]
  exact ⟨.ref _, _, I.lnew (t' := s.toks) (r.append r2) (by rw [List.length_append]; omega), rfl, q _ I.fresh⟩
def rRep : R2 := fun x y H Q => ∃ l k xs, x = .ref l ∧ y = .int k ∧ H l = some (.lst xs) ∧ -(2 ^ 63) ≤ k ∧ k < 2 ^ 63 ∧ xs.length * k.toNat ≤ sizeLine ∧
  ∀ p, H p = none → Q (.ref p) (upd H p (.lst (List.replicate k.toNat xs).flatten))
theorem len_rep {α : Type} (xs : List α) (k : Nat) : (List.replicate k xs).flatten.length = k * xs.length := by
  induction k with
  | zero => simp
  | succ k ih => rw [List.replicate_succ, List.flatten_cons, List.length_append, ih, Nat.succ_mul, Nat.add_comm]
theorem op_rep : OpR X (binaryOp .Mult) rRep := by
  intro pins s σ H x y v u Q I rx ry h
  obtain ⟨l, k, xs, rfl, rfl, hH, h1, h2, hz, q⟩ := h
  cases rx
  obtain ⟨t, rfl⟩ := ry
  obtain ⟨z, its, n, r, hl, e⟩ := I.lstM hH
  have hlen : its.toArray.size * k.toNat ≤ sizeLine := by rw [List.size_toArray, ← hl]; exact hz
  have hcap : ¬ its.toArray.size * k.toNat > (2 ^ 63 - 1) / 8 := by
    have : (sizeLine : Nat) ≤ (2 ^ 63 - 1) / 8 := by decide
    omega
  have hfit : ¬ (!Builtin.List.listFitsIndex k) = true := by
    rw [fitsIndex_both h1 h2]
    exact Bool.false_ne_true
  have hlong : ¬ Builtin.List.listTooLong (its.toArray.size * k.toNat) = true := by
    rw [notLongL hlen]
    exact Bool.false_ne_true
  have hnew : List.foldl (fun x1 x2 => x1 ++ x2) #[] (List.replicate (if its.toArray.isEmpty = true then 0 else k.toNat) its.toArray) = (List.replicate k.toNat its).flatten.toArray := by
    have f0 : ∀ m : Nat, List.foldl (fun x1 x2 => x1 ++ x2) #[] (List.replicate m its.toArray) = (List.replicate m its).flatten.toArray := fun m => by
      have := foldl_rep its m []
      rw [List.nil_append] at this
      exact this
    rw [f0]
    cases its with
    | nil => simp
    | cons a r' => rw [if_neg (by simp)]
  refine wpAny_binaryOp_repeat_ref (T := "list") (U := "int") (by decide) ⟨_, e, rfl⟩ (fun s' => typeIs_int s' k t) noFill_list_mul F.fills_int_mul F.slot_int_rmul repeat_list F.slot_int_index.lookup
    (call_meets F.slot_int_rmul (typeIs_int s k t) F.entry_int_rmul (F.args_int_rmul_2 _ _) (int___rmul___int_list k t l its.toArray n)
      ⟨e, rfl, ⟨_, e, rfl⟩, call_meets F.slot_list_mul ⟨_, e, rfl⟩ F.entry_list_mul (F.args_list_mul_2 _ _) (AutoListH.list___mul___list_int_3 l its.toArray n k t hfit hcap hlong) ⟨e, ?_⟩⟩)
  rw [hnew]
  exact ⟨.ref _, _, I.lnew (t' := s.toks) (r.rep k.toNat) (by rw [len_rep, Nat.mul_comm]; exact hz), rfl, q _ I.fresh⟩
end
section
variable {prog : Program} {w : World} {A : Around} {E : Value → Shared → Prop} {s : Shared}
set_option maxRecDepth 100000 in
end
section
variable {X : Cx}
end
end L2
namespace L2
open PySem PySem.Spec PyProof.Rows
section
variable {κ : Type} [DecidableEq κ]
def valV (kvs : List (κ × V)) (k : κ) : Option V := (kvs.find? fun kv => decide (kv.1 = k)).map (·.2)
def putK (kvs : List (κ × V)) (k : κ) (v : V) : List (κ × V) :=
  if (kvs.any fun kv => decide (kv.1 = k)) = true then kvs.map (fun kv => if kv.1 = k then (kv.1, v) else kv) else kvs ++ [(k, v)]
def dropK (kvs : List (κ × V)) (k : κ) : List (κ × V) := kvs.filter fun kv => decide (kv.1 ≠ k)
theorem valV_pos {p : κ × V} {r : List (κ × V)} {k : κ} (e : p.1 = k) : valV (p :: r) k = some p.2 := by simp [valV, List.find?_cons, e]
theorem valV_neg {p : κ × V} {r : List (κ × V)} {k : κ} (e : ¬ p.1 = k) : valV (p :: r) k = valV r k := by simp [valV, List.find?_cons, e]
theorem valV_any (k : κ) : ∀ kvs : List (κ × V), (kvs.any fun kv => decide (kv.1 = k)) = (valV kvs k).isSome
  | [] => rfl
  | p :: r => by
    rw [List.any_cons]
    by_cases e : p.1 = k
    · simp only [valV_pos e, decide_eq_true e, Bool.true_or, Option.isSome_some]
    · rw [valV_neg e, decide_eq_false e, Bool.false_or]; exact valV_any k r
theorem length_putK (kvs : List (κ × V)) (k : κ) (v : V) : (putK kvs k v).length ≤ kvs.length + 1 := by
  unfold putK
  split
  · rw [List.length_map]; omega
  · rw [List.length_append, List.length_cons, List.length_nil]; omega
theorem putK_new {kvs : List (κ × V)} {k : κ} (v : V) (h : valV kvs k = none) : putK kvs k v = kvs ++ [(k, v)] := by
  unfold putK
  rw [valV_any, h]
  exact if_neg (by decide)
theorem RelO.isSome_eq {o : Option V} {u : Option Value} (r : RelO o u) : o.isSome = u.isSome := by
  cases o with
  | none => cases u with
    | none => rfl
    | some _ => exact (show False from r).elim
  | some _ => cases u with
    | none => exact (show False from r).elim
    | some _ => rfl
theorem RelO.getD {o : Option V} {u : Option Value} {d : V} {d' : Value} (r : RelO o u) (rd : RelV d d') : RelV (o.getD d) (u.getD d') := by
  cases o with
  | none => cases u with
    | none => exact rd
    | some _ => exact (show False from r).elim
  | some _ => cases u with
    | none => exact (show False from r).elim
    | some _ => exact r
theorem KV.val {kvs : List (κ × V)} {vs : List (κ × Value)} (r : KV kvs vs) (k : κ) : RelO (valV kvs k) (valueAt vs k) := by
  unfold KV at r
  induction r with
  | nil => exact True.intro
  | @cons p q ps qs h t ih =>
    obtain ⟨h1, h2⟩ := h
    by_cases e : p.1 = k
    · have e' : q.1 = k := h1.symm.trans e
      have b : valueAt (q :: qs) k = some q.2 := by simp [valueAt, List.find?_cons, e']
      rw [valV_pos e, b]; exact h2
    · have e' : ¬ q.1 = k := fun z => e (h1.trans z)
      have b : valueAt (q :: qs) k = valueAt qs k := by simp [valueAt, List.find?_cons, e']
      rw [valV_neg e, b]; exact ih
theorem KV.any {kvs : List (κ × V)} {vs : List (κ × Value)} (r : KV kvs vs) (k : κ) : (kvs.any fun kv => decide (kv.1 = k)) = vs.any fun kv => decide (kv.1 = k) := by
  unfold KV at r
  induction r with
  | nil => rfl
  | cons h t ih => rw [List.any_cons, List.any_cons, ih, h.1]
theorem KV.repl {kvs : List (κ × V)} {vs : List (κ × Value)} (r : KV kvs vs) (k : κ) {y : V} {u : Value} (ry : RelV y u) :
    KV (kvs.map fun kv => if kv.1 = k then (kv.1, y) else kv) (vs.map fun kv => if kv.1 = k then (kv.1, u) else kv) := by
  unfold KV at r ⊢
  induction r with
  | nil => exact .nil
  | @cons p q ps qs h t ih =>
    rw [List.map_cons, List.map_cons]
    refine .cons ?_ ih
    obtain ⟨h1, h2⟩ := h
    by_cases e : p.1 = k
    · rw [if_pos e, if_pos (h1.symm.trans e)]; exact ⟨h1, ry⟩
    · rw [if_neg e, if_neg (fun z => e (h1.trans z))]; exact ⟨h1, h2⟩
theorem KV.put {kvs : List (κ × V)} {vs : List (κ × Value)} (r : KV kvs vs) (k : κ) {y : V} {u : Value} (ry : RelV y u) : KV (putK kvs k y) (stored vs k u) := by
  unfold putK stored
  rw [r.any k]
  by_cases e : (vs.any fun kv => decide (kv.1 = k)) = true
  · rw [if_pos e, if_pos e]; exact r.repl k ry
  · rw [if_neg e, if_neg e]; exact Paired.snoc r ⟨rfl, ry⟩
theorem KV.length {kvs : List (κ × V)} {vs : List (κ × Value)} (r : KV kvs vs) : kvs.length = vs.length := Paired.length r
end
theorem kV_is {P : Program} {w : World} {k : Key} {u : Value} (r : RelV (kV k) u) : (mixKind P w).is k u = true := by
  cases k with
  | inl i => obtain ⟨t, e⟩ := (show ∃ t, u = Value.int i t from r); subst e; exact mixKind_int P w i t
  | inr x => obtain ⟨t, e⟩ := (show ∃ t, u = Value.str x t from r); subst e; exact mixKind_str P w x t
theorem items_are {P : Program} {w : World} : ∀ {ks : List Key} {us : List Value}, Vals (ks.map kV) us → ItemsAre (mixKind P w) ks us
  | [], _, r => by rw [List.map_nil] at r; cases r; exact .nil
  | k :: ks, _, r => by
    rw [List.map_cons] at r
    cases r with
    | cons h t => exact .cons (kV_is h) (items_are t)
abbrev KT (H : Hp) : List (List Key × V) → List (List Key × Addr × Value) → Prop := Paired fun p q => p.1 = q.1 ∧ H q.2.1 = some (.tup (p.1.map kV)) ∧ RelV p.2 q.2.2
theorem KT.val {H : Hp} {kvs : List (List Key × V)} {xs : List (List Key × Addr × Value)} (r : KT H kvs xs) (k : List Key) : RelO (valV kvs k) ((atKey xs k).map (·.2)) := by
  induction r with
  | nil => exact True.intro
  | @cons p q ps qs h t ih =>
    obtain ⟨h1, _, h2⟩ := h
    by_cases e : p.1 = k
    · have e' : q.1 = k := h1.symm.trans e
      have b : atKey (q :: qs) k = some q.2 := by simp [atKey, List.find?_cons, e']
      rw [valV_pos e, b]; exact h2
    · have e' : ¬ q.1 = k := fun z => e (h1.trans z)
      have b : atKey (q :: qs) k = atKey qs k := by simp [atKey, List.find?_cons, e']
      rw [valV_neg e, b]; exact ih
theorem KT.repl {H : Hp} {kvs : List (List Key × V)} {xs : List (List Key × Addr × Value)} (r : KT H kvs xs) (k : List Key) {y : V} {u : Value} (ry : RelV y u) :
    KT H (kvs.map fun kv => if kv.1 = k then (kv.1, y) else kv) (xs.map (putAt k u)) := by
  induction r with
  | nil => exact .nil
  | @cons p q ps qs h t ih =>
    rw [List.map_cons, List.map_cons]
    refine .cons ?_ ih
    obtain ⟨h1, h2, h3⟩ := h
    unfold putAt
    by_cases e : p.1 = k
    · rw [if_pos e, if_pos (h1.symm.trans e)]; exact ⟨h1, h2, ry⟩
    · rw [if_neg e, if_neg (fun z => e (h1.trans z))]; exact ⟨h1, h2, h3⟩
theorem KT.put {H : Hp} {kvs : List (List Key × V)} {xs : List (List Key × Addr × Value)} (r : KT H kvs xs) (k : List Key) {b : Addr} {y : V} {u : Value} (hb : H b = some (.tup (k.map kV))) (ry : RelV y u) :
    KT H (putK kvs k y) (storedH xs k b u) := by
  have e : (kvs.any fun kv => decide (kv.1 = k)) = (atKey xs k).isSome := by
    rw [valV_any, (r.val k).isSome_eq, Option.isSome_map]
  unfold putK storedH
  rw [e]
  by_cases q : (atKey xs k).isSome = true
  · rw [if_pos q, if_pos q]; exact r.repl k ry
  · rw [if_neg q, if_neg q]; exact Paired.snoc r ⟨rfl, hb, ry⟩
theorem KT.keeps {H H' : Hp} {kvs : List (List Key × V)} {xs : List (List Key × Addr × Value)} (r : KT H kvs xs) (ht : ∀ b ys, H b = some (.tup ys) → H' b = some (.tup ys)) : KT H' kvs xs :=
  Paired.mapP r fun _ _ z => ⟨z.1, ht _ _ z.2.1, z.2.2⟩
section
variable {P : Program} {w : World} {H : Hp} {h : Heap} {a : Addr}
theorem rd_of {u : HO} (ok : HOk P w H h) (e : Rd H a u) : ObjOk P w H h a u := e.ok ok
theorem dk_rd {kvs : List (Key × V)} (ok : HOk P w H h) (e : Rd H a (.dK kvs)) : kvs.length ≤ sizeLine ∧ (a == sysModules) = false ∧ ∃ vs, KV kvs vs ∧ h.DictOf (mixKind P w) a vs :=
  show ObjOk P w H h a (.dK kvs) from rd_of ok e
theorem dk_of {kvs : List (Key × V)} (ok : HOk P w H h) (e : H a = some (.dK kvs)) : kvs.length ≤ sizeLine ∧ (a == sysModules) = false ∧ ∃ vs, KV kvs vs ∧ h.DictOf (mixKind P w) a vs := dk_rd ok (.inl e)
theorem key_of {ks : List Key} (ok : HOk P w H h) (e : H a = some (.tup (ks.map kV))) : (tupleKind (mixKind P w)).is h ks a := by
  obtain ⟨_, its, r, o, h1, h2, n, h3⟩ := (show ObjOk P w H h a (.tup (ks.map kV)) from ok a _ e)
  exact ⟨o, its.toArray, n, h1, h2, h3, by simpa using items_are r⟩
theorem dt_rd {kvs : List (List Key × V)} (ok : HOk P w H h) (e : Rd H a (.dT kvs)) : kvs.length ≤ sizeLine ∧ (a == sysModules) = false ∧
    ∃ xs, KT H kvs xs ∧ h.DictOfH (tupleKind (mixKind P w)) a xs := by
  obtain ⟨z, y, xs, r, o, es, ep, h1, h2, h3, h4, h5⟩ := (show ObjOk P w H h a (.dT kvs) from rd_of ok e)
  refine ⟨z, y, xs, r, o, es, ep, h1, h2, h3, h4, fun x hx => ?_, h5⟩
  have all : ∀ {l : List (List Key × V)} {m : List (List Key × Addr × Value)}, KT H l m → ∀ x ∈ m, (tupleKind (mixKind P w)).is h x.1 x.2.1 := by
    intro l m q
    induction q with
    | nil => intro x hx; exact nomatch hx
    | @cons p q ps qs hq t ih =>
      intro x hx
      rcases List.mem_cons.mp hx with e | hx
      · subst e
        exact key_of ok (by rw [← hq.1]; exact hq.2.1)
      · exact ih x hx
  exact all r x hx
theorem dt_of {kvs : List (List Key × V)} (ok : HOk P w H h) (e : H a = some (.dT kvs)) : kvs.length ≤ sizeLine ∧ (a == sysModules) = false ∧
    ∃ xs, KT H kvs xs ∧ h.DictOfH (tupleKind (mixKind P w)) a xs := dt_rd ok (.inl e)
end
def DGet (H : Hp) (a : Addr) (y : V) (r : Option V) : Prop :=
  (∃ kvs k, Rd H a (.dK kvs) ∧ y = kV k ∧ r = valV kvs k) ∨ ∃ kvs k b, Rd H a (.dT kvs) ∧ y = .ref b ∧ H b = some (.tup (k.map kV)) ∧ r = valV kvs k
def DPut (H : Hp) (a : Addr) (y v : V) (H' : Hp) : Prop :=
  (∃ kvs k, H a = some (.dK kvs) ∧ y = kV k ∧ kvs.length < sizeLine ∧ H' = upd H a (.dK (putK kvs k v))) ∨
  ∃ kvs k b, H a = some (.dT kvs) ∧ y = .ref b ∧ H b = some (.tup (k.map kV)) ∧ kvs.length < sizeLine ∧ H' = upd H a (.dT (putK kvs k v))
theorem DGet.k {H : Hp} {a : Addr} {kvs : List (Key × V)} {k : Key} (e : H a = some (.dK kvs)) : DGet H a (kV k) (valV kvs k) := .inl ⟨kvs, k, .inl e, rfl, rfl⟩
theorem DPut.k {H : Hp} {a : Addr} {kvs : List (Key × V)} {k : Key} {v : V} (e : H a = some (.dK kvs)) (hl : kvs.length < sizeLine) : DPut H a (kV k) v (upd H a (.dK (putK kvs k v))) := .inl ⟨kvs, k, e, rfl, hl, rfl⟩
section
variable {X : Cx} {pins : List (Addr × Obj)} {σ : St} {H : Hp} {s : Shared} {a : Addr} {y v : V} {u r : Value} {o : Option V} {A : Around} {E : Value → Shared → Prop}
theorem Inv.big (I : Inv X pins σ H s) : sysModules < s.heap.objs.size := by
  have h : mainGlobals < s.heap.objs.size := (I.mod.glob.keeps I.bk).lt
  exact Nat.lt_trans (by decide) h
theorem d_getItem {Q : Value → Shared → Prop} (hu : A.units + 1 < cLine) (I : Inv X pins σ H s) (g : DGet H a y (some v)) (ry : RelV y u) (h : ∀ w' s', Inv X pins σ H s' → RelV v w' → Q w' s') :
    wpAny (model X.prog X.w) A (getItem (.ref a) u) Q E s := by
  rcases g with ⟨kvs, k, e, ey, l⟩ | ⟨kvs, k, b, e, ey, eb, l⟩
  · subst ey
    obtain ⟨z, hd, vs, rel, dd⟩ := dk_rd I.hok e
    obtain ⟨w', hw, rw'⟩ := RelO.some_of (v := v) (o := valueAt vs k) (by rw [l]; exact rel.val k)
    exact wpAny_getItem_of (kV_is ry) dd.mapOf hw (h w' _ (I.tok _) rw')
  · subst ey
    cases (show u = Value.ref b from ry)
    obtain ⟨z, hd, xs, rel, dd⟩ := dt_rd I.hok e
    obtain ⟨w', hw, rw'⟩ := RelO.some_of (v := v) (o := (atKey xs k).map (·.2)) (by rw [l]; exact rel.val k)
    obtain ⟨p, hp, hp2⟩ := Option.map_eq_some_iff.mp hw
    refine wpAny_getItem_heap (tupleKind_room_in1 hu) (key_of I.hok eb) dd hp ?_
    rw [hp2]
    exact h w' _ (I.tok _) rw'
theorem d_in {Q : Value → Shared → Prop} (hu : A.units + 1 < cLine) (I : Inv X pins σ H s) (g : DGet H a y o) (ry : RelV y u) (h : ∀ s', Inv X pins σ H s' → Q (.bool o.isSome) s') :
    wpAny (model X.prog X.w) A (compareOp .In u (.ref a)) Q E s := by
  rcases g with ⟨kvs, k, e, ey, l⟩ | ⟨kvs, k, b, e, ey, eb, l⟩
  · subst ey
    obtain ⟨z, hd, vs, rel, dd⟩ := dk_rd I.hok e
    refine wpAny_in_of (kV_is ry) hd dd.mapOf ?_
    rw [← (rel.val k).isSome_eq, ← l]
    exact h _ (I.tok _)
  · subst ey
    cases (show u = Value.ref b from ry)
    obtain ⟨z, hd, xs, rel, dd⟩ := dt_rd I.hok e
    refine wpAny_in_heap (tupleKind_room_in1 hu) (key_of I.hok eb) hd dd ?_
    have q := (rel.val k).isSome_eq
    rw [Option.isSome_map] at q
    rw [← q, ← l]
    exact h _ (I.tok _)
theorem d_notIn {Q : Value → Shared → Prop} (hu : A.units + 1 < cLine) (I : Inv X pins σ H s) (g : DGet H a y o) (ry : RelV y u) (h : ∀ s', Inv X pins σ H s' → Q (.bool (!o.isSome)) s') :
    wpAny (model X.prog X.w) A (compareOp .NotIn u (.ref a)) Q E s := by
  rcases g with ⟨kvs, k, e, ey, l⟩ | ⟨kvs, k, b, e, ey, eb, l⟩
  · subst ey
    obtain ⟨z, hd, vs, rel, dd⟩ := dk_rd I.hok e
    refine wpAny_notIn_of (kV_is ry) hd dd.mapOf ?_
    rw [← (rel.val k).isSome_eq, ← l]
    exact h _ (I.tok _)
  · subst ey
    cases (show u = Value.ref b from ry)
    obtain ⟨z, hd, xs, rel, dd⟩ := dt_rd I.hok e
    refine wpAny_notIn_heap (tupleKind_room_in1 hu) (key_of I.hok eb) hd dd ?_
    have q := (rel.val k).isSome_eq
    rw [Option.isSome_map] at q
    rw [← q, ← l]
    exact h _ (I.tok _)
theorem d_write {h' : Heap} {t' : Nat} {ob : HO} (I : Inv X pins σ H s) (mu : Mut (H a)) (hs : Heap.SameBut a s.heap h') (he : ∃ q, h'.get? a = some q) (new : ObjOk X.prog X.w (upd H a ob) h' a ob) :
    Inv X pins σ (upd H a ob) { s with heap := h', toks := t' } :=
  I.write (x := a) (e := a) mu (.inl rfl) (fun b q hb z => (hs.2 b hb).trans z) he new
theorem dk_new {P : Program} {w : World} {H' : Hp} {h' : Heap} {kvs : List (Key × V)} {vs : List (Key × Value)} (z : kvs.length ≤ sizeLine) (hd : (a == sysModules) = false) (rel : KV kvs vs) (dd : h'.DictOf (mixKind P w) a vs) :
    ObjOk P w H' h' a (.dK kvs) := ⟨z, hd, vs, rel, dd⟩
theorem d_setItem {H' : Hp} {Q : Unit → Shared → Prop} (hu : A.units + 1 < cLine) (I : Inv X pins σ H s) (g : DPut H a y v H') (ry : RelV y u) (rv : RelV v r) (h : ∀ s', Inv X pins σ H' s' → Q () s') :
    wpAny (model X.prog X.w) A (setItem (.ref a) u r) Q E s := by
  rcases g with ⟨kvs, k, e, ey, l, eH⟩ | ⟨kvs, k, b, e, ey, eb, l, eH⟩
  · subst ey eH
    obtain ⟨z, hd, vs, rel, dd⟩ := dk_of I.hok e
    have hz : vs.length ≤ sizeLine := by rw [← rel.length]; exact z
    have hl : (putK kvs k v).length ≤ sizeLine := by have := length_putK kvs k v; omega
    refine wpAny_setItem_pairs (hsz := hz) (kV_is ry) dd fun h' dd' hs => h _ ?_
    have he : ∃ q, h'.get? a = some q := let ⟨q, _, _, hq, _⟩ := dd'; ⟨q, hq⟩
    exact d_write I (by rw [e]; exact True.intro) hs he (dk_new hl hd (rel.put k rv) dd')
  · subst ey eH
    cases (show u = Value.ref b from ry)
    obtain ⟨z, hd, xs, rel, dd⟩ := dt_of I.hok e
    have hz : xs.length ≤ sizeLine := by rw [← Paired.length rel]; exact z
    have hl : (putK kvs k v).length ≤ sizeLine := by have := length_putK kvs k v; omega
    refine wpAny_setItem_heap (hsz := hz) (tupleKind_room_in1 hu) (key_of I.hok eb) dd fun h' dd' hs => h _ ?_
    obtain ⟨q, es, ep, hq, h2, h3, h4, _, h5⟩ := dd'
    refine d_write I (by rw [e]; exact True.intro) hs ⟨q, hq⟩ ⟨hl, hd, _, (rel.put k eb rv).keeps fun c ys ec => ?_, q, es, ep, hq, h2, h3, h4, h5⟩
    rw [upd_ne (ne_of ec e (fun z => nomatch z))]
    exact ec
end
section
variable {X : Cx} {pins : List (Addr × Obj)} {σ : St} {H : Hp} {s : Shared} {a : Addr} {kvs : List (Key × V)} {k : Key} {u : Value} {A : Around} {E : Value → Shared → Prop}
theorem d_len {Q : Value → Shared → Prop} (I : Inv X pins σ H s) (e : Rd H a (.dK kvs)) (h : ∀ t s', Inv X pins σ H s' → Q (.int kvs.length t) s') : wpAny (model X.prog X.w) A (call (.builtin "len") [.ref a]) Q E s := by
  obtain ⟨z, hd, vs, rel, dd⟩ := dk_rd I.hok e
  refine call_len_dict hd dd (by rw [← rel.length]; rw [sizeLine_eq] at z; omega) ?_
  rw [← rel.length]
  exact h _ _ (I.tok _)
end
theorem dict_typeIs {X : Cx} {pins : List (Addr × Obj)} {σ : St} {H : Hp} {s : Shared} {a : Addr} {y : V} {o : Option V} (I : Inv X pins σ H s) (g : DGet H a y o) : s.TypeIs (.ref a) "dict" := by
  rcases g with ⟨kvs, k, e, _, _⟩ | ⟨kvs, k, b, e, _, _, _⟩
  · obtain ⟨_, _, vs, _, dd⟩ := dk_rd I.hok e
    exact dd.typeIs
  · obtain ⟨_, _, xs, _, dd⟩ := dt_rd I.hok e
    exact dd.typeIs
section
variable {X : Cx} {o i e value : Expr} {pos pos' tpos : Pos} {td ty tv : TE}
end
theorem dk_empty {P : Program} {w : World} {H : Hp} (h : Heap) (hb : sysModules < h.objs.size) : ObjOk P w H (h.push { cls := .type "dict", data := .dict #[] }) h.objs.size (.dK []) :=
  ⟨Nat.zero_le _, beq_eq_false_iff_ne.mpr (Ne.symm (Nat.ne_of_lt hb)), [], .nil, Heap.DictOf.new h⟩
def tDNewK : TE := fun _ H Q => ∀ p, H p = none → Q (.ref p) (upd H p (.dK []))
section
variable {X : Cx} {pos : Pos}
theorem pe_dnewK : PE X (.Dict [] [] pos) tDNewK := fun pins s σ H Q I h =>
  wpAny_Dict_empty ⟨.ref s.heap.objs.size, _, I.laid (a := s.heap.objs.size) (o := .dK []) (t' := s.toks) (fun _ _ q => Heap.get?_push_of_some _ q) (Nat.le_refl _) (dk_empty s.heap I.big), rfl, h _ (I.hok.fresh (Nat.le_refl _))⟩
end
structure M1 (X : Cx) (o : Expr) (m : Str) (apos : Pos) (e : Expr) (cpos : Pos) : Prop where
  base : attributeBase o m X.env (eval o X.env) = eval o X.env
  few : ((backTo cpos (starEach [e] X.env)).all (fun x => !x.1) && (backToKw cpos (keywordEach [] X.env)).all (fun x => x.1.isSome)
    && decide (([e] : List Expr).length + ([] : List Keyword).length + (if ([] : List Keyword).isEmpty then 0 else 1) < 30)) = true
  line : (apos.endLine == cpos.line) = true
  trees : backTo cpos (starEach [e] X.env) = [(false, eval e X.env)]
structure M2 (X : Cx) (o : Expr) (m : Str) (apos : Pos) (e f : Expr) (cpos : Pos) : Prop where
  base : attributeBase o m X.env (eval o X.env) = eval o X.env
  few : ((backTo cpos (starEach [e, f] X.env)).all (fun x => !x.1) && (backToKw cpos (keywordEach [] X.env)).all (fun x => x.1.isSome)
    && decide (([e, f] : List Expr).length + ([] : List Keyword).length + (if ([] : List Keyword).isEmpty then 0 else 1) < 30)) = true
  line : (apos.endLine == cpos.line) = true
  trees : backTo cpos (starEach [e, f] X.env) = [(false, eval e X.env), (false, eval f X.env)]
def IsD (H : Hp) (a : Addr) : Prop := (∃ kvs, Rd H a (.dK kvs)) ∨ ∃ kvs, Rd H a (.dT kvs)
theorem isD_at {X : Cx} {pins : List (Addr × Obj)} {σ : St} {H : Hp} {s : Shared} {a : Addr} (I : Inv X pins σ H s) (d : IsD H a) :
    s.TypeIs (.ref a) "dict" ∧ (∀ b, Value.ref a = .ref b → ∃ ob, s.heap.get? b = some ob ∧ ob.dict = none) ∧ (a == sysModules) = false := by
  rcases d with ⟨kvs, e⟩ | ⟨kvs, e⟩
  · obtain ⟨_, hd, vs, _, dd⟩ := dk_rd I.hok e
    refine ⟨dd.typeIs, fun b q => ?_, hd⟩
    cases q
    obtain ⟨ob, _, _, h1, h2, _⟩ := dd
    exact ⟨ob, h1, h2.2.1⟩
  · obtain ⟨_, hd, xs, _, dd⟩ := dt_rd I.hok e
    refine ⟨dd.typeIs, fun b q => ?_, hd⟩
    cases q
    obtain ⟨ob, _, _, h1, h2, _⟩ := dd
    exact ⟨ob, h1, h2.2.1⟩
section
variable {X : Cx} {pins : List (Addr × Obj)} {σ : St} {H : Hp} {s : Shared} {a : Addr} {y d : V} {u r : Value} {o : Option V} {A : Around} {E : Value → Shared → Prop}
theorem d_get2 {Q : Value → Shared → Prop} (hu : A.units + 1 < cLine) (I : Inv X pins σ H s) (g : DGet H a y o) (ry : RelV y u) (rd : RelV d r) (h : ∀ w' s', Inv X pins σ H s' → RelV (o.getD d) w' → Q w' s') :
    wpAny (model X.prog X.w) A (call (.builtin "dict.get") [.ref a, u, r]) Q E s := by
  rcases g with ⟨kvs, k, e, ey, l⟩ | ⟨kvs, k, b, e, ey, eb, l⟩
  · subst ey
    obtain ⟨z, hd, vs, rel, dd⟩ := dk_rd I.hok e
    refine call_meetsIn PySem.F.slot_dict_get dd.typeIs PySem.F.entry_dict_get (PySem.F.args_dict_get_3 _ _ _) (meets_dict_get_default (mixKind X.prog X.w) a (kV_is ry) hd r) ⟨_, dd.mapOf, h _ _ (I.tok _) ?_⟩
    rw [l]
    exact (rel.val k).getD rd
  · subst ey
    cases (show u = Value.ref b from ry)
    obtain ⟨z, hd, xs, rel, dd⟩ := dt_rd I.hok e
    refine call_meetsIn PySem.F.slot_dict_get dd.typeIs PySem.F.entry_dict_get (PySem.F.args_dict_get_3 _ _ _) (meetsH_dict_get_default (tupleKind (mixKind X.prog X.w)) a b hd r) ⟨tupleKind_room_in1 hu, k, xs, key_of I.hok eb, dd, h _ _ (I.tok _) ?_⟩
    rw [l]
    exact (rel.val k).getD rd
end
def tDGet2 (td ty tx : TE) : TE := fun σ H Q => td σ H fun x H1 => ∃ a, x = .ref a ∧ IsD H1 a ∧ ty σ H1 fun y H2 => tx σ H2 fun z H3 => ∃ o, DGet H3 a y o ∧ Q (o.getD z) H3
section
variable {X : Cx} {o e f : Expr} {apos cpos : Pos} {td ty tx : TE}
theorem pe_dget2 (hu : X.A.units + 1 < cLine) (ho : PE X o td) (he : PE X e ty) (hf : PE X f tx) (m : M2 X o "get" apos e f cpos) : PE X (.Call (.Attribute o "get" apos) [e, f] [] cpos) (tDGet2 td ty tx) := by
  intro pins s σ H Q I h
  refine wpAny_Call_method m.base m.few m.line PySem.F.plainAttrs_dict PySem.F.slot_dict_get PySem.F.type_dict_get (thn (ho pins s σ H _ I h) fun u s1 ⟨x, H1, I1, rx, a, ex, d, q1⟩ => ?_)
  subst ex
  obtain rfl : u = Value.ref a := rx
  obtain ⟨t1, t2, _⟩ := isD_at I1 d
  refine ⟨t1, t2, ?_⟩
  rw [m.trees]
  refine Calls.callWith_builtin rfl (Calls.evalArgs_plain (Calls.spliced_cons (thn (he pins s1 σ H1 _ I1 q1) fun iv s2 ⟨y, H2, I2, ry, q2⟩ =>
    Calls.spliced_cons (thn (hf pins s2 σ H2 _ I2 q2) fun fv s3 ⟨z, H3, I3, rz, ov, g, q3⟩ => Calls.spliced_nil ?_))))
  exact d_get2 hu I3 g ry rz fun w' s4 I4 rw' => ⟨_, H3, I4, rw', q3⟩
end
section
variable {X : Cx} {pins : List (Addr × Obj)} {σ : St} {H : Hp} {s : Shared} {a : Addr} {kvs : List (Key × V)} {A : Around} {E : Value → Shared → Prop}
end
section
variable {X : Cx} {pins : List (Addr × Obj)} {σ : St} {H : Hp} {s : Shared} {a : Addr} {y : V} {u : Value} {A : Around} {E : Value → Shared → Prop}
end
end L2
namespace Att
open PySem PySem.W PySem.Calls PyProof.Rows
theorem ints_of_wellAll {P : Params} {h : Heap} : ∀ (ns : List Int) (vs : List Value), WellAll P h vs (ns.map WData.int) → IntsAre vs ns := by
  intro ns
  induction ns with
  | nil =>
    intro vs w
    rw [List.map_nil] at w
    cases w
    exact .nil
  | cons n ns ih =>
    intro vs w
    rw [List.map_cons] at w
    cases w with
    | cons a b =>
      cases a
      exact .cons _ _ (ih _ b)
theorem script_of {l : OpenLaw} {n : Nat} (hn : l.most = some n) {P : Params} {h : Heap} {args : List WData} {vals : List Value}
    (hpre : l.row.toRowW.claim.pre args = true) (hwl : WellAll P h vals args) :
    ∃ a vs ns, vals = [Value.ref a] ∧ args = [WData.list (ns.map WData.int)] ∧ h.get? a = some { cls := .type "list", data := .seq vs.toArray } ∧ IntsAre vs ns ∧ ns.length ≤ n := by
  have hsh : WShape.hasAll [] args [.list .int] = true := (pre_splitW hpre).1
  have hc : l.pre.holds [] { args := args } = true := (pre_splitW hpre).2
  obtain ⟨d, r, rfl, h1, h2⟩ := hasAllW_cons hsh
  obtain rfl := hasAllW_nil h2
  obtain ⟨xs, rfl, h3⟩ := hasW_list h1
  obtain ⟨ns, rfl⟩ := items_int h3
  have hlen : ns.length ≤ n := by
    unfold OpenLaw.pre at hc
    have h4 : (WTm.not (.lt (.lit (.int (n : Int))) (.len (.arg 0)))).holds [] { args := [.list (ns.map .int)] } = true := by
      have h4 := (holds_andW hc).1
      rw [hn] at h4
      exact h4
    have h5 := condW_of h4 (w_not (w_lt w_lit (w_len_list (w_arg rfl))))
    rw [List.length_map] at h5
    refine Nat.le_of_not_lt fun q => ?_
    have q' : (n : Int) < ((ns.length : Nat) : Int) := by omega
    first
      | (rw [decide_eq_true q'] at h5; exact absurd h5 (by decide))
      | (simp at h5; omega)
  cases hwl with
  | cons w1 w2 =>
    cases w2
    cases w1 with
    | list ho hall => exact ⟨_, _, ns, rfl, rfl, ho, ints_of_wellAll ns _ hall, hlen⟩
theorem post_true (l : OpenLaw) (args : List WData) : l.row.toRowW.claim.post args (.bool true) args = true :=
  postW_of (r := l.row.toRowW) (X := (true == true))
    (show WShape.has [] (.bool true) .bool = true by first | rfl | decide | simp [WShape.has, WShape.arms, WShape.armsAll])
    (show (WTm.eq .res (.lit (.bool true))).value [] { args := args, res := some (.bool true), after := args } = some (.bool (true == true)) from w_eq_bool (w_res rfl) w_lit) rfl
theorem attach_call {l : OpenLaw} {n : Nat} {q : Program} {loose : List Str} {XP : (Str → Option Value) → Heap → Prop} {YP : World → Heap → Prop} {d : DefRec}
    (hn : l.most = some n) (hdf : d.params.defaults = [])
    (call : ∀ (w : World) (s₀ s₁ : Shared) (mg mb : Str → Option Value) (fa : Addr) (o : Obj) (pm cd doc : Value) (a : Addr) (vs : List Value) (ns : List Int),
      Ground q loose [] XP w s₀ mg mb s₁.heap → YP w s₁.heap →
      s₁.heap.get? fa = some o → o.data = .func (docDef d.name d.params d.body d.scope pm cd doc) → s₁.heap.CodeRec cd d.name → mg d.name = some (.ref fa) →
      s₁.heap.get? a = some { cls := .type "list", data := .seq vs.toArray } → IntsAre vs ns → ns.length ≤ n → s₁.gens = #[] →
      codeAny (model l.prog w) callerA (.call (.ref fa) ⟨[.ref a], []⟩) (fun r s' => r = .ok (.ret (.bool true)) ∧ OldK s₁.heap s'.heap ∧ s'.os = s₁.os ∧ AllBare s'.gens) s₁) :
    WalkO q loose XP YP l.row.toRowW d [] (fun f vs => PySem.call f vs) := by
  intro w s₀ s₁ mg mb G Y fa o pm cd doc dV kV ho hd hcd hD hmg hg args vals as hpre hlay hrd hwl hlo
  obtain rfl : dV = .none := Dflts.none hD hdf
  obtain rfl : kV = .none := Dflts.noKw hD
  obtain ⟨a, vs, ns, rfl, rfl, hobj, hints, hlen⟩ := script_of hn hpre hwl
  refine enter_call (codeAny_mono (call w s₀ s₁ mg mb fa o pm cd doc a vs ns G Y ho (fd_plain hd) hcd hmg hobj hints hlen hg) fun r s' hq => ?_)
  obtain ⟨rfl, h2, h3, h4⟩ := hq
  exact ⟨.inl ⟨.bool true, .bool true, [], rfl, fun _ => rfl, .bool true, post_true l _, fun _ => ⟨List.Pairwise.nil, fun _ hm => (nomatch hm)⟩⟩, h2, h3, h4⟩
section
variable {prog : Program} {w : World} {A : Around} {E : Value → Shared → Prop} {s : Shared} {K : Frag}
def ledger (h : Heap) (L d : Addr) : List (Addr × Obj) := (List.range h.objs.size).filterMap fun a => if a = L ∨ a = d then none else (h.get? a).map fun o => (a, o)
end
end Att
namespace L2
open PySem PySem.Spec PyProof.Rows
theorem vals_ints : ∀ {vs : List Value} {ns : List Int}, IntsAre vs ns → Vals (ns.map V.int) vs
  | _, _, .nil => .nil
  | _, _, .cons n t h => .cons ⟨t, rfl⟩ (vals_ints h)
def Only (H : Hp) : Prop := ∀ b, H b = none ∨ ∃ o xs, H b = some (.frz o (.lst xs))
theorem law_call {P : Program} {w : World} {K : PySem.W.Frag} {mg mb : Str → Option Value} {CX : CXT} {k : Nat} {fa a : Addr} {fd : FuncData} {x : Str} {sp : Sp} {s₁ : Shared} {vs : List Value} {ns : List Int}
    (KX : K.In s₁.heap) (hns : s₁.heap.Ns mainGlobals mg) (hb : s₁.heap.Ns builtinsNs mb) (hbb : ∀ x : Str, x ≠ "__name__" → mb x = bootBuiltins x) (hlim : s₁.heap.NoLimit) (hg : s₁.gens = #[])
    (ha : s₁.heap.get? a = some { cls := .type "list", data := .seq vs.toArray }) (hi : IntsAre vs ns) (hl : ns.length ≤ sizeLine) (hr : Room k callerA)
    (F : ∀ base : Heap, K.In base → base.Ns mainGlobals mg → FnOk P w K mg base CX k fa fd [x] sp) (hbind : ∀ (s : Shared) (u : Value), BindsTo s fd ⟨[u], []⟩ [(x, u)])
    (hsp : ∀ H : Hp, Only H → SqL K H a (ns.map V.int) → sp [.ref a] H (fun v _ => v = .bl true) fun _ _ _ => False)
    (hCX : ∀ H e s', CX [] H s₁ (fun _ _ _ => False) e s' → False) :
    codeAny (model P w) callerA (.call (.ref fa) ⟨[.ref a], []⟩) (fun r s' => r = .ok (.ret (.bool true)) ∧ OldK s₁.heap s'.heap ∧ s'.os = s₁.os ∧ AllBare s'.gens) s₁ := by
  have rv := vals_ints hi
  have lenV := hi.length
  have core : ∀ H : Hp, Only H → SqL K H a (ns.map V.int) → HOk P w H s₁.heap → (∀ b, H b ≠ none → b = a) → (H a ≠ none → K.lookup a = none) →
      codeAny (model P w) callerA (.call (.ref fa) ⟨[.ref a], []⟩) (fun r s' => r = .ok (.ret (.bool true)) ∧ OldK s₁.heap s'.heap ∧ s'.os = s₁.os ∧ AllBare s'.gens) s₁ := by
    intro H hO hS hok hA hK
    have base_of : ∀ {b : Addr} {o : Obj}, s₁.heap.get? b = some o → H b = none → (hidT s₁.heap H).get? b = some o := fun e n => hidT_get e n
    have noA : ∀ {b : Addr} {o : Obj} {es : Array DictEntry} {ep : Nat}, s₁.heap.get? b = some o → o.data = .dict es ep → H b = none := fun {b o es ep} e d => by
      cases q : H b with
      | none => rfl
      | some u =>
        have e' : b = a := hA b (by rw [q]; simp)
        subst e'
        rw [ha] at e; cases e
        have d' : Data.seq vs.toArray _ = Data.dict es ep := d
        cases d'
    have nsK : ∀ {b : Addr} {m : Str → Option Value}, s₁.heap.Ns b m → (hidT s₁.heap H).Ns b m := fun {b m} ⟨o, es, ep, e, d, r⟩ => ⟨o, es, ep, base_of e (noA e d), d, r⟩
    have hKb : K.In (hidT s₁.heap H) := fun b o e => base_of (KX b o e) (by
      cases q : H b with
      | none => rfl
      | some u =>
        have e' : b = a := hA b (by rw [q]; simp)
        subst e'
        rw [hK (by rw [q]; simp)] at e; cases e)
    have hM : Mod K mg (hidT s₁.heap H) := ⟨hKb, nsK hns, ⟨mb, nsK hb, hbb⟩, let ⟨mc, h1, h2⟩ := hlim; ⟨mc, nsK h1, h2⟩⟩
    have e0 : Env0 P w K mg (hidT s₁.heap H) callerA [] s₁ H := ⟨rfl, hM, fun b o e => of_hidT e, Nat.le_of_eq (hidT_size _ _), trivial, fun b hb => absurd (show b ∈ ([] : List Addr) from hb) (by simp), hok, .of_eq hg⟩
    refine codeAny_mono ((F _ hKb (nsK hns)).run callerA [] s₁ H ⟨[.ref a], []⟩ [.ref a] [.ref a] _ _ hr e0 (hbind s₁ (.ref a)) (.cons rfl .nil) (hsp H hO hS)) fun r s' h => ?_
    cases r with
    | error e => exact (hCX H e s' h).elim
    | ok fl =>
      cases fl with
      | next => exact False.elim h
      | brk => exact False.elim h
      | cont => exact False.elim h
      | ret u =>
        obtain ⟨v, H', os, bare, un, hok', r', q⟩ := h
        have q' : v = .bl true := q
        subst q'
        obtain rfl : u = Value.bool true := r'
        refine ⟨rfl, OldK.of_keep fun b o e => ?_, os, bare⟩
        cases q : H b with
        | none => exact un.keep b o e q (by intro z; exact absurd (show b ∈ ([] : List Addr) from z) (by simp)) (by simp)
        | some u =>
          rcases hO b with z | ⟨ob, xs, z⟩
          · rw [q] at z; cases z
          · have z2 := un.frzs b ob _ z
            obtain ⟨e1, _⟩ := hok b _ z
            obtain ⟨e2, _⟩ := hok' b _ z2
            rw [e] at e1; cases e1
            exact e2
  cases hk : K.lookup a with
  | some o =>
    have e := KX a o hk
    rw [ha] at e
    cases e
    refine core (fun _ => none) (fun _ => .inl rfl) (.inr ⟨_, vs.toArray, _, hk, rfl, rfl, rfl, by rw [List.size_toArray, lenV]; exact hl, by simpa using rv⟩) (fun b u z => by have z' : (none : Option HO) = some u := z; cases z') (fun b z => absurd rfl z) fun z => absurd rfl z
  | none =>
    refine core (fun b => if b = a then some (.frz { cls := .type "list", data := .seq vs.toArray } (.lst (ns.map V.int))) else none) (fun b => ?_) (.inl (.inr ⟨{ cls := .type "list", data := .seq vs.toArray }, if_pos rfl⟩)) (fun b u z => ?_) (fun b z => ?_) fun _ => hk
    · by_cases hb : b = a
      · exact .inr ⟨_, _, if_pos hb⟩
      · exact .inl (if_neg hb)
    · by_cases hb : b = a
      · have z' := (if_pos hb).symm.trans z
        cases z'
        subst hb
        exact ⟨ha, by rw [List.length_map]; exact hl, vs, _, rv, ha⟩
      · have z' := (if_neg hb).symm.trans z
        cases z'
    · by_cases hb : b = a
      · exact hb
      · exact absurd (if_neg hb) z
end L2
namespace L2
open PySem PySem.Spec PyProof.Rows
abbrev KOf {K : PySem.W.Frag} {h : Heap} (_ : K.In h) : PySem.W.Frag := K
theorem walk_of {l : PySem.W.OpenLaw} {n k : Nat} {q : Program} {loose : List Str} {XP : (Str → Option Value) → Heap → Prop} {YP : World → Heap → Prop} {d : DefRec} {K : Params → PySem.W.Frag} {CX : World → CXT} {sp : World → Sp} {x : Str}
    (hn : l.most = some n) (hn2 : n ≤ sizeLine) (hdf : d.params.defaults = []) (hr : Room k callerA)
    (hY : ∀ (w : World) (h : Heap), YP w h → (K w.params).In h)
    (F : ∀ (w : World) (mg : Str → Option Value) (fa : Addr) (h : Heap), (K w.params).In h → h.Ns mainGlobals mg → mg d.name = some (.ref fa) →
      ∃ fd : FuncData, (∀ (s : Shared) (u : Value), BindsTo s fd ⟨[u], []⟩ [(x, u)]) ∧
        ∀ base : Heap, (K w.params).In base → base.Ns mainGlobals mg → FnOk l.prog w (K w.params) mg base (CX w) k fa fd [x] (sp w))
    (hsp : ∀ (w : World) (H : Hp) (a : Addr) (ns : List Int), ns.length ≤ n → Only H → SqL (K w.params) H a (ns.map V.int) → sp w [.ref a] H (fun v _ => v = .bl true) fun _ _ _ => False)
    (hCX : ∀ (w : World) (H : Hp) (s : Shared) (e : Value) (s' : Shared), CX w [] H s (fun _ _ _ => False) e s' → False) :
    PySem.W.WalkO q loose XP YP l.row.toRowW d [] (fun f vs => PySem.call f vs) := by
  refine Att.attach_call hn hdf fun w s₀ s₁ mg mb fa o pm cd doc a vs ns G Y ho hd hcd hmg hobj hints hlen hg => ?_
  have KX := hY w _ Y
  obtain ⟨fd, hb, hF⟩ := F w mg fa _ KX G.T.g hmg
  exact law_call KX G.T.g G.T.b G.T.builtins G.T.nolimit hg hobj hints (Nat.le_trans hlen hn2) hr hF hb (fun H hO hS => hsp w H a ns hlen hO hS) fun H e s' => hCX w H s₁ e s'
end L2
/- THE LAST THEOREM (shape; LID, My.* are yours):
   My.Adr: a structure of the addresses that your layer names (classes, functions); My.Txt K t: a structure (Prop) of the equations over K;
   My.txt_mk : {K} {implicit addresses ..} (e1 : nsIn K mainGlobals "law" = some (some (.ref f))) (e2 : K.lookup f = some ⟨oc, od, .func (fnOf "law" "law" params body scope dV kV doc pm an cdv ct), sl⟩) (e3 : codeIn K cdv "law" = true) .. : ∃ t, My.Txt K t
set_option maxRecDepth 100000 in
set_option maxHeartbeats 0 in
theorem PySem.Challenge.cw_LID_holds : PySem.Challenge.rw_LID.Holds := by
  w_on; o_law; k_head; (case hw => w_witness2)
  k_fill
  refine L2.walk_of (l := PySem.Challenge.rw_LID) (n := 63) (k := 40) (x := "script") (CX := fun w => ..) (sp := fun _ => My.sp_law) rfl (by decide) rfl ⟨rfl, by decide, by decide⟩ (fun w h Y => PySem.W.kIn_of Y) ?F ?S ?C
  case F =>
    intro w mg fa h KX G hmg
    have T : ∃ t, My.Txt (L2.KOf KX) t := by
      dsimp only [L2.KOf]                          -- K must stand as «<heap const> w.params» for k_is
      refine' My.txt_mk ?e1 ?e2 ?e3 ..
      (case e1 => PySem.W.k_is)                    -- in the order: a name -> its address -> its object -> its parts
      (case e2 => PySem.W.k_is)
      ..
    obtain ⟨t, T⟩ := T
    have e0 := hmg.symm.trans (PySem.W.mg_of KX G T.law)
    cases e0                                       -- fa is the law's own address
    exact ⟨_, fun s u => .of_eq rfl, fun base kb nb => My.law_fn T kb nb⟩     -- if «.of_eq rfl» comes too early: refine' ⟨_, ?b, fun base kb nb => My.law_fn T kb nb⟩; exact fun s u => .of_eq rfl
  case S => exact fun w H a ns hl hO hS => ..
  case C => exact ..
(the tactic k_is has no namespace: write k_is) -/
namespace L2
open PySem PySem.Spec PyProof.Rows
def inClass (s : Stmt) (j : Nat) : Stmt := match s with
  | .ClassDef _ _ _ body _ _ _ _ _ _ _ => body.getD j (.Pass ⟨0, 0, 0, 0⟩)
  | _ => .Pass ⟨0, 0, 0, 0⟩
def defArgs (s : Stmt) : Arguments := match s with
  | .FunctionDef _ a _ _ _ _ _ _ _ _ => a
  | _ => { posonlyargs := [], args := [], vararg := none, kwonlyargs := [], kw_defaults := [], kwarg := none, defaults := [] }
def defBody (s : Stmt) : List Stmt := match s with
  | .FunctionDef _ _ b _ _ _ _ _ _ _ => b
  | _ => []
def defScope (s : Stmt) : Scope := match s with
  | .FunctionDef _ _ _ _ _ _ sc _ _ _ => sc
  | _ => { kind := .function, names := [], isGenerator := false, isCoroutine := false }
abbrev CX0 : CXT := fun _ _ _ _ _ _ => False
abbrev E0 : XK := fun _ _ _ => False
theorem pass0 {X : Cx} : Passes CX0 X E0 := fun _ _ _ _ _ _ _ h => h.elim
structure Fun (K : PySem.W.Frag) (x qual : Str) (st : Stmt) (f : Addr) (fd : FuncData) : Prop where
  ex : ∃ (oc : Value) (od : Option Addr) (kV doc pm : Value) (an : Option Addr) (cdv ct : Value) (osl : Array (Option Value)),
    fd = PySem.W.fnOf x qual (defArgs st) (defBody st) (defScope st) .none kV doc pm an cdv ct ∧ K.lookup f = some ⟨oc, od, .func fd, osl⟩ ∧ PySem.W.codeIn K cdv qual = true
  kp : PySem.W.keepIn K (.ref f) = true
section
variable {P : Program} {w : World} {K : PySem.W.Frag} {mg : Str → Option Value} {base : Heap}
theorem Fun.ok {x qual : Str} {st : Stmt} {f : Addr} {fd : FuncData} {N ps : List Str} {k : Nat} {sp : Sp} (F : Fun K x qual st f fd) (S : FnScope N ps (defScope st)) (len : ∀ vs H Q E, sp vs H Q E → vs.length = ps.length)
    (hbody : ∀ (cdv : Value) (A : Around) (outer : List Env) (s : Shared) (H : Hp) (vs : List V) (Q : VK) (E : XK), Room k (A.deeper (envOfC qual (defScope st) s.heap.objs.size f cdv)) → sp vs H Q E →
      ∃ t, PSs (cxOf CX0 P w K mg base N qual (defScope st) f cdv A outer s H E).nox (defBody st) t ∧ t { nx := fun _ H' => Q .non H', rt := Q } (start N vs) H) : FnOk P w K mg base CX0 (k + 1) f fd ps sp := by
  obtain ⟨oc, od, kV, doc, pm, an, cdv, ct, osl, rfl, lk, hcd⟩ := F.ex
  refine fn_of lk hcd S len fun A outer s H vs Q E hr hsp => ?_
  obtain ⟨t, h, q⟩ := hbody cdv A outer s H vs Q E hr hsp
  exact ⟨t, h.nox, q⟩
theorem Fun.binds {x qual : Str} {st : Stmt} {f : Addr} {fd : FuncData} {ps : List Str} (F : Fun K x qual st f fd)
    (h : ∀ (kV doc pm : Value) (an : Option Addr) (cdv ct : Value) (us : List Value), us.length = ps.length → bindArgs (PySem.W.fnOf x qual (defArgs st) (defBody st) (defScope st) .none kV doc pm an cdv ct) ⟨us, []⟩ = pure (ps.zip us)) : Binds K fd ps [] := by
  obtain ⟨oc, od, kV, doc, pm, an, cdv, ct, osl, rfl, lk, hcd⟩ := F.ex
  exact .all (h kV doc pm an cdv ct)
theorem fun_mk {x qual : Str} {st : Stmt} {f : Addr} {oc : Value} {od an : Option Addr} {osl : Array (Option Value)} {kV doc pm cdv ct : Value} (l : K.lookup f = some ⟨oc, od, .func (PySem.W.fnOf x qual (defArgs st) (defBody st) (defScope st) .none kV doc pm an cdv ct), osl⟩)
    (c : PySem.W.codeIn K cdv qual = true) (k : PySem.W.keepIn K (.ref f) = true) : Fun K x qual st f (PySem.W.fnOf x qual (defArgs st) (defBody st) (defScope st) .none kV doc pm an cdv ct) := ⟨⟨oc, od, kV, doc, pm, an, cdv, ct, osl, rfl, l, c⟩, k⟩
end
theorem small1000 {n : Nat} (h : n ≤ 1000) : n < sizeLine := Nat.lt_of_le_of_lt h (by decide)
section
variable {X : Cx}
theorem pv (i : Nat) {x : Str} {pos : Pos} (hN : X.N[i]? = some x := by rfl) (hv : Vis X.env.scope x := by first | exact Or.inl rfl | exact Or.inr (Or.inl rfl) | exact Or.inr (Or.inr rfl)) (hd : (x == ("__debug__" : Str)) = false := by decide)
    (hcd : (x == ("__classdict__" : Str)) = false := by decide) : PE X (.Name x pos) (tVar i) := pe_var hN hv hd hcd
theorem call_lenD : CallR X (.builtin "len") (fun xs H Q => ∃ a kvs, xs = [V.ref a] ∧ H a = some (.dK kvs) ∧ Q (.int kvs.length) H) := by
  intro pins s σ H xs us Q I r h
  obtain ⟨a, kvs, rfl, ha, q⟩ := h
  obtain ⟨u, rfl, ru⟩ := vals1 r
  cases ru
  exact d_len I (.inl ha) fun t s' I' => ⟨.int kvs.length, H, I', ⟨t, rfl⟩, q⟩
end
theorem iteT {A B : Prop} (h : A) : if true = true then A else B := by
  rw [if_pos rfl]
  exact h
theorem ite2 {c A B : Prop} [Decidable c] (h1 : c → A) (h2 : ¬ c → B) : if c then A else B := by
  by_cases h : c
  · rw [if_pos h]
    exact h1 h
  · rw [if_neg h]
    exact h2 h
def Same (H H' : Hp) : Prop := ∀ b o, H b = some o → H' b = some o
theorem Same.refl (H : Hp) : Same H H := fun _ _ h => h
theorem Same.trans {H H1 H2 : Hp} (a : Same H H1) (b : Same H1 H2) : Same H H2 := fun c o h => b c o (a c o h)
theorem Same.free {H H' : Hp} (e : Same H H') {l : Addr} (h : H' l = Option.none) : H l = Option.none := by
  cases q : H l with
  | none => rfl
  | some o =>
    rw [e l o q] at h
    cases h
theorem Same.seq {K : PySem.W.Frag} {H H' : Hp} {a : Addr} {xs : List V} (e : Same H H') (h : SqL K H a xs) : SqL K H' a xs := by
  rcases h with (h | ⟨o, h⟩) | h
  · exact .inl (.inl (e _ _ h))
  · exact .inl (.inr ⟨o, e _ _ h⟩)
  · exact .inr h
section
variable {κ : Type} [DecidableEq κ]
end
end L2
set_option maxHeartbeats 4000000
namespace L2
open PySem PySem.Spec PyProof.Rows
section
variable {prog : Program} {w : World} {A : Around} {R : Result → Shared → Prop} {s : Shared}
theorem compLoop_own {elt target iter : Expr} {ifs : List Expr} {scope : Scope} {pos : Pos} {it acc : Value} {env : Env} (I : Nat → Shared → Prop)
    (turn : ∀ n s, I n s → wpAny (model prog w) A (pyNext it) (fun r s1 => match r with
      | none => R (.ok .next) s1
      | some v => wpAny (model prog w) A (letOwnedTupleGo target it v) (fun _ s1' => wpAny (model prog w) A (assign target env v) (fun _ s2 =>
          wpAny (model prog w) A (forIn ifs true fun c r => if r = true then do let ok ← isTrue c env (eval c env); pure (ForInStep.yield ok) else pure (ForInStep.yield r)) (fun ok s3 =>
            if ok = true then wpAny (model prog w) A (eval elt env) (fun x s4 =>
              wpAny (model prog w) A (call (.builtin "list.append") [acc, x]) (fun _ s5 => ∃ m, m < n ∧ I m s5) (fun _ _ => False) s4) (fun _ _ => False) s3
            else ∃ m, m < n ∧ I m s3) (fun _ _ => False) s2) (fun _ _ => False) s1') (fun _ _ => False) s1) (fun _ _ => False) s)
    (n : Nat) (h : I n s) :
    codeAny (model prog w) A (.compLoop (.ListComp elt [⟨target, iter, ifs, 0⟩] scope pos) 0 it acc env) R s := by
  refine codeAny_loop rfl I (fun n s hI => ?_) n h
  show wpAny _ A ((compTurn (.ListComp elt [⟨target, iter, ifs, 0⟩] scope pos) 0 it acc env).onRaise (fun x => do noteFrame x env; theTreesLotGoes x)) _ _ s
  refine wpAny_noted ?_
  rw [compTurn_list]
  refine wpAny_bind (wpAny_standAt (wpAny_bind (wpAny_mono (turn n s hI) (fun r s1 h1 => ?_) fun _ _ h' => h'.elim)))
  cases r with
  | none => exact wpAny_pure h1
  | some v =>
    refine wpAny_bind (wpAny_mono h1 (fun _ s1' h1' => ?_) fun _ _ h' => h'.elim)
    refine wpAny_bind (wpAny_mono h1' (fun _ s2 h2 => wpAny_bind (wpAny_mono h2 (fun ok s3 h3 => ?_) fun _ _ h' => h'.elim)) fun _ _ h' => h'.elim)
    cases ok with
    | false => exact wpAny_pure ⟨rfl, h3⟩
    | true =>
      exact wpAny_bind (wpAny_bind (wpAny_mono h3 (fun x s4 h4 => wpAny_bind (wpAny_mono h4 (fun _ s5 h5 => wpAny_pure (wpAny_pure ⟨rfl, h5⟩)) fun _ _ h' => h'.elim)) fun _ _ h' => h'.elim))
end
def compCells (env : Env) : List (Str × NameKind) → List (Str × Addr) → List (Str × Addr)
  | [], acc => acc
  | (n, k) :: r, acc => compCells env r (if (k == .free) = true then (n, (env.cells.lookup n).getD 0) :: acc else acc)
theorem compCells_mem {env : Env} : ∀ {names : List (Str × NameKind)} {acc : List (Str × Addr)} {x : Str} {c : Addr}, (compCells env names acc).lookup x = some c →
    ((x, NameKind.free) ∈ names ∧ c = (env.cells.lookup x).getD 0) ∨ acc.lookup x = some c
  | [], _, _, _, h => .inr h
  | (n, k) :: r, acc, x, c, h => by
    unfold compCells at h
    rcases compCells_mem h with ⟨h1, h2⟩ | h1
    · exact .inl ⟨List.mem_cons_of_mem _ h1, h2⟩
    · by_cases hk : (k == NameKind.free) = true
      · rw [if_pos hk, List.lookup_cons] at h1
        cases hx : x == n with
        | true =>
          rw [hx] at h1
          have e : x = n := beq_iff_eq.mp hx
          have e2 : k = .free := beq_iff_eq.mp hk
          subst e e2
          exact .inl ⟨List.mem_cons_self, (Option.some.inj h1).symm⟩
        | false =>
          rw [hx] at h1
          exact .inr h1
      · rw [if_neg hk] at h1
        exact .inr h1
theorem compCells_acc {env : Env} : ∀ {names : List (Str × NameKind)} {acc : List (Str × Addr)} {x : Str}, (∃ c, acc.lookup x = some c) → ∃ c, (compCells env names acc).lookup x = some c
  | [], _, _, h => h
  | (n, k) :: r, acc, x, h => by
    unfold compCells
    apply compCells_acc
    by_cases hk : (k == NameKind.free) = true
    · rw [if_pos hk, List.lookup_cons]
      cases hx : x == n with
      | true => exact ⟨_, rfl⟩
      | false => exact h
    · rw [if_neg hk]
      exact h
theorem compCells_has {env : Env} : ∀ {names : List (Str × NameKind)} {acc : List (Str × Addr)} {x : Str}, (x, NameKind.free) ∈ names → ∃ c, (compCells env names acc).lookup x = some c
  | [], _, _, h => by cases h
  | (n, k) :: r, acc, x, h => by
    unfold compCells
    rcases List.mem_cons.mp h with e | e
    · cases e
      apply compCells_acc
      rw [show (NameKind.free == NameKind.free) = true from rfl, if_pos rfl, List.lookup_cons, beq_self_eq_true]
      exact ⟨_, rfl⟩
    · exact compCells_has e
theorem closureFor_eq {scope : Scope} {env : Env} (h : ∀ n, (n, NameKind.free) ∈ scope.names → ∃ c, env.cells.lookup n = some c) : closureFor scope env = pure (compCells env scope.names []) := by
  have key : ∀ (names : List (Str × NameKind)) (acc : List (Str × Addr)), (∀ n, (n, NameKind.free) ∈ names → ∃ c, env.cells.lookup n = some c) →
      (forIn names acc (fun (x : Str × NameKind) (r : List (Str × Addr)) => (if (x.2 == NameKind.free) = true then (cellOf env x.1 >>= fun c => pure (ForInStep.yield ((x.1, c) :: r))) else pure (ForInStep.yield r) : Sem (ForInStep (List (Str × Addr)))))) = (pure (compCells env names acc) : Sem (List (Str × Addr))) := by
    intro names
    induction names with
    | nil => intro acc _; rfl
    | cons x r ih =>
      intro acc hn
      obtain ⟨n, k⟩ := x
      rw [List.forIn_cons]
      unfold compCells
      by_cases hk : (k == NameKind.free) = true
      · have e2 : k = .free := beq_iff_eq.mp hk
        subst e2
        obtain ⟨c, hc⟩ := hn n List.mem_cons_self
        have e3 : cellOf env n = pure c := by unfold cellOf; rw [hc]
        simp only [hk, if_true, e3, hc, Option.getD_some]
        exact ih _ fun m hm => hn m (List.mem_cons_of_mem _ hm)
      · simp only [hk, if_false]
        exact ih _ fun m hm => hn m (List.mem_cons_of_mem _ hm)
  have e := key scope.names [] h
  unfold closureFor
  exact Eq.trans (congrArg (fun m => m >>= pure) e) rfl
@[reducible] def Cx.comp (X : Cx) (N : List Str) (scope : Scope) (C : Addr) (s0 : Shared) (H0 : Hp) (ex : List Addr) : Cx where
  prog := X.prog
  w := X.w
  K := X.K
  mg := X.mg
  base := X.base
  A := X.A
  N := N
  s₀ := s0
  H₀ := H0
  env := compEnvC scope (compCells X.env scope.names []) C X.env
  outer := X.stack
  stack := X.stack
  ex := ex
  fn := fun _ => false
  calm := X.calm
  pn := []
  xe := fun _ _ => False
structure CompOk (sc scope : Scope) : Prop where
  kind : scope.kind = .function
  nocell : ∀ y ∈ scope.names, y.2 ≠ .cell
  loc : ∀ y ∈ scope.names, y.2 = .local → scope.names.lookup y.1 = some .local
  free : ∀ y ∈ scope.names, y.2 = .free → sc.names.lookup y.1 = some .cell ∨ sc.names.lookup y.1 = some .free
  once : ∀ y ∈ scope.names, y.2 = .free → scope.names.lookup y.1 = some .free
def compB (sc scope : Scope) : Bool := decide (scope.kind = .function) && scope.names.all fun y => match y.2 with
  | .local => scope.names.lookup y.1 == some .local
  | .free => (sc.names.lookup y.1 == some .cell || sc.names.lookup y.1 == some .free) && scope.names.lookup y.1 == some .free
  | .cell => false
  | _ => true
theorem compB_ok {sc scope : Scope} (h : compB sc scope = true) : CompOk sc scope := by
  unfold compB at h
  rw [Bool.and_eq_true] at h
  have ha := List.all_eq_true.mp h.2
  refine ⟨of_decide_eq_true h.1, fun y hy e => ?_, fun y hy e => ?_, fun y hy e => ?_, fun y hy e => ?_⟩
  · have := ha y hy
    rw [e] at this
    cases this
  · have := ha y hy
    rw [e] at this
    exact beq_iff_eq.mp this
  · have := ha y hy
    rw [e, Bool.and_eq_true, Bool.or_eq_true] at this
    exact this.1.imp beq_iff_eq.mp beq_iff_eq.mp
  · have := ha y hy
    rw [e, Bool.and_eq_true] at this
    exact beq_iff_eq.mp this.2
def capB (nl : Nat) (ixs : List Nat) (N XN : List Str) (names : List (Str × NameKind)) : Bool := (List.range ixs.length).all fun k => match ixs[k]?, N[nl + k]? with
  | some j, some x => XN[j]? == some x && names.any fun y => y.1 == x && y.2 == .free
  | _, _ => true
theorem capB_ok {nl : Nat} {ixs : List Nat} {N XN : List Str} {names : List (Str × NameKind)} (h : capB nl ixs N XN names = true) (k j : Nat) (x : Str) (h1 : ixs[k]? = some j) (h2 : N[nl + k]? = some x) : XN[j]? = some x ∧ (x, NameKind.free) ∈ names := by
  have hk : k < ixs.length := (List.getElem?_eq_some_iff.mp h1).1
  have := List.all_eq_true.mp h k (List.mem_range.mpr hk)
  rw [h1, h2] at this
  simp only [Bool.and_eq_true] at this
  refine ⟨beq_iff_eq.mp this.1, ?_⟩
  obtain ⟨⟨n, kd⟩, hy, e⟩ := List.any_eq_true.mp this.2
  rw [Bool.and_eq_true] at e
  have e1 : n = x := beq_iff_eq.mp e.1
  have e2 : kd = .free := beq_iff_eq.mp e.2
  subst e1 e2
  exact hy
def capS (nl : Nat) (ixs : List Nat) (σ : St) : St := List.replicate nl none ++ ixs.map fun j => (σ[j]?).getD none
theorem capS_len (nl : Nat) (ixs : List Nat) (σ : St) : (capS nl ixs σ).length = nl + ixs.length := by
  unfold capS; rw [List.length_append, List.length_replicate, List.length_map]
theorem capS_get {nl : Nat} {ixs : List Nat} {σ : St} {i : Nat} {v : V} (h : (capS nl ixs σ)[i]? = some (some v)) : nl ≤ i ∧ ∃ j, ixs[i - nl]? = some j ∧ σ[j]? = some (some v) := by
  unfold capS at h
  by_cases hi : i < nl
  · rw [List.getElem?_append_left (by rw [List.length_replicate]; exact hi), List.getElem?_replicate] at h
    split at h <;> cases h
  · rw [List.getElem?_append_right (by rw [List.length_replicate]; omega), List.length_replicate, List.getElem?_map] at h
    refine ⟨by omega, ?_⟩
    cases e : ixs[i - nl]? with
    | none => rw [e] at h; cases h
    | some j =>
      rw [e] at h
      have h' : (σ[j]?).getD none = some v := Option.some.inj h
      cases q : σ[j]? with
      | none => rw [q] at h'; cases h'
      | some u =>
        rw [q] at h'
        exact ⟨j, rfl, by rw [q]; exact congrArg some h'⟩
def relF (env : Env) (y : Str × NameKind) : Str × NameKind := if (y.2 == NameKind.free && env.scope.kind == .function && env.kindOf y.1 == some .cell) = true then (y.1, NameKind.cell) else (y.1, y.2)
theorem relF_fst (env : Env) (y : Str × NameKind) : (relF env y).1 = y.1 := by unfold relF; split <;> rfl
theorem relF_snd (env : Env) (y : Str × NameKind) : (relF env y).2 = y.2 ∨ ((relF env y).2 = .cell ∧ y.2 = .free) := by
  unfold relF
  split
  · rename_i h
    rw [Bool.and_eq_true, Bool.and_eq_true] at h
    exact .inr ⟨rfl, beq_iff_eq.mp h.1.1⟩
  · exact .inl rfl
theorem relabel_find {env : Env} : ∀ {names : List (Str × NameKind)} {x : Str} {k : NameKind}, (names.map (relF env)).lookup x = some k → ∃ k0, names.lookup x = some k0 ∧ (x, k0) ∈ names ∧ (k = k0 ∨ (k = .cell ∧ k0 = .free))
  | [], _, _, h => by cases h
  | (n, k1) :: r, x, k, h => by
    rw [List.map_cons, show relF env (n, k1) = ((relF env (n, k1)).1, (relF env (n, k1)).2) from rfl, List.lookup_cons, relF_fst] at h
    rw [List.lookup_cons]
    cases hx : x == n with
    | true =>
      have e : x = n := beq_iff_eq.mp hx
      subst e
      have hx' : (x == (x, k1).1) = true := hx
      rw [hx'] at h
      have h' := Option.some.inj h
      refine ⟨k1, rfl, List.mem_cons_self, ?_⟩
      rcases relF_snd env (x, k1) with z | ⟨z1, z2⟩
      · exact .inl (h'.symm.trans z)
      · exact .inr ⟨h'.symm.trans z1, z2⟩
    | false =>
      have hx' : (x == (n, k1).1) = false := hx
      rw [hx'] at h
      obtain ⟨k0, e1, e2, e3⟩ := relabel_find h
      exact ⟨k0, e1, List.mem_cons_of_mem _ e2, e3⟩
section
variable {X : Cx} {pins : List (Addr × Obj)} {σ : St} {H : Hp} {s : Shared}
theorem comp_free_of {scope : Scope} {x : Str} (O : CompOk X.env.scope scope) {C : Addr} {cl : List (Str × Addr)} (h : (compEnvC scope cl C X.env).kindOf x = some .cell ∨ (compEnvC scope cl C X.env).kindOf x = some .free) : (x, NameKind.free) ∈ scope.names := by
  rcases h with h | h
  · obtain ⟨k0, _, hm, e | ⟨_, e⟩⟩ := relabel_find (env := X.env) (names := scope.names) h
    · exact absurd e.symm (O.nocell _ hm)
    · rw [e] at hm
      exact hm
  · obtain ⟨k0, _, hm, e | ⟨e, _⟩⟩ := relabel_find (env := X.env) (names := scope.names) h
    · rw [← e] at hm
      exact hm
    · cases e
theorem Inv.comp {N : List Str} {scope : Scope} {nl : Nat} {ixs : List Nat} {C D : Addr} {fp : List Addr} {ob : Obj} {h1 : Heap} {tk : Nat} (I : Inv X pins σ H s) (O : CompOk X.env.scope scope)
    (hN : N.length = nl + ixs.length) (hcap : ∀ (k j : Nat) (x : Str), ixs[k]? = some j → N[nl + k]? = some x → X.N[j]? = some x ∧ (x, NameKind.free) ∈ scope.names)
    (hf : ∀ b ∈ fp, FpOk X pins H b) (hfl : ∀ b ∈ fp, b < s.heap.objs.size) (hC : s.heap.objs.size ≤ C) (hD : s.heap.objs.size ≤ D) (hDC : D ≠ C) (hns : h1.Ns C fun _ => none) (k : ∀ b o, s.heap.get? b = some o → h1.get? b = some o)
    (hob : h1.get? D = some ob) (hcl : ∀ v, ob.data ≠ .cell v) : Inv (X.comp N scope C s H fp) [(D, ob)] (capS nl ixs σ) H { s with heap := h1, toks := tk } := by
  have cells : ∀ x c, (compCells X.env scope.names []).lookup x = some c → X.env.cells.lookup x = some c ∧ (x, NameKind.free) ∈ scope.names := fun x c h => by
    rcases compCells_mem h with ⟨h1, h2⟩ | h1
    · obtain ⟨c', hc'⟩ := I.ok.has x (by
        rcases O.free _ h1 rfl with z | z
        · exact .inl z
        · exact .inr z)
      rw [hc'] at h2
      exact ⟨by rw [hc', h2]; rfl, h1⟩
    · cases h1
  refine ⟨⟨I.ok.mod, O.kind, I.ok.glob, I.ok.blt, hC, fun x y c h1 h2 => I.ok.inj x y c (cells x c h1).1 (cells y c h2).1, fun x hx => compCells_has (comp_free_of O hx), fun x c z _ => (by cases z), I.ok.hd, I.ok.frames, .inl rfl,
      fun b hb => ⟨Nat.ne_of_lt (Nat.lt_of_lt_of_le (hfl b hb) hC), fun x c e => (hf b hb).2.2.2.2.1 x c (cells x c e).1⟩, I.bs, Nat.le_trans I.ok.bsz I.sz, fun b o e hb => ?_, fun b hb z => ?_, I.stack, I.stkFree⟩,
    rfl, I.bare, Un.kept k, ⟨_, hns, fun i x v e1 e2 e3 => ?_⟩, fun x c e => ?_, I.hok.fresh hC, fun x c e => I.freeC x c (cells x c e).1, fun p hp => ?_, I.hok.kept k, ?_⟩
  · rcases (hf b hb).2.2.2.1 with z | z
    · exact I.ok.noex b o e z
    · have := (I.ok.bs b o e).1
      exact absurd (Nat.lt_of_lt_of_le (Heap.lt_size this) z) (Nat.lt_irrefl _)
  · rcases List.mem_cons.mp (I.stkSub b z) with e | e
    · exact (hf b hb).2.1 e
    · exact (hf b hb).2.2.1 e
  · obtain ⟨hi, j, hj, hv⟩ := capS_get e2
    obtain ⟨hx, hfr⟩ := hcap (i - nl) j x hj (by rw [Nat.add_sub_cancel' hi]; exact e1)
    obtain ⟨m, hn, hl⟩ := I.loc
    have hk := O.free _ hfr rfl
    obtain ⟨u, ru, lk⟩ := hl j x v hx hv (by
      rcases hk with z | z
      · exact .inr (.inl z)
      · exact .inr (.inr z))
    refine ⟨u, ru, ?_⟩
    rcases lk with ⟨hk2, _⟩ | ⟨_, c, hc, hcell⟩
    · have hk2' : X.env.scope.names.lookup x = some .local := hk2
      rcases hk with z | z <;> · rw [z] at hk2'; cases hk2'
    · obtain ⟨c', hc'⟩ := compCells_has (env := X.env) (acc := []) hfr
      have e : c' = c := by
        have := (cells x c' hc').1
        rw [hc] at this
        exact (Option.some.inj this).symm
      subst e
      refine .inr ⟨?_, c', hc', ?_⟩
      · rcases e3 with z | z | z
        · obtain ⟨k0, z3, _, e | ⟨e, _⟩⟩ := relabel_find (env := X.env) (names := scope.names) z
          · rw [O.once _ hfr rfl] at z3
            cases z3
            cases e
          · cases e
        · exact .inl z
        · exact .inr z
      · obtain ⟨o, ho, hd⟩ := hcell
        exact ⟨o, k _ _ ho, hd⟩
  · obtain ⟨v, o, ho, hd⟩ := I.cell x c (cells x c e).1
    exact ⟨v, o, k _ _ ho, hd⟩
  · have e : p = (D, ob) := by simpa using hp
    subst e
    refine ⟨hob, I.hok.fresh hD, hDC, fun z => ?_, hcl⟩
    rcases List.mem_cons.mp (I.stkSub D z) with e | e
    · exact absurd (show X.env.locals < D from Nat.lt_of_lt_of_le I.lt hD) (by rw [e]; exact Nat.lt_irrefl _)
    · exact I.nofs hD e
  · show (capS nl ixs σ).length = N.length
    rw [capS_len, hN]
theorem Inv.compBack {N : List Str} {scope : Scope} {C D : Addr} {fp : List Addr} {its : List Value} {n : Nat} {s' : Shared} {H' : Hp} {σ' : St} {ys : List V} (I : Inv X pins σ H s) (hf : ∀ b ∈ fp, FpOk X pins H b) (hC : s.heap.objs.size ≤ C) (hD : s.heap.objs.size ≤ D)
    (J : Inv (X.comp N scope C s H fp) [(D, { cls := .type "list", data := .seq its.toArray n })] σ' H' s') (hv : Vals ys its) (hz : ys.length ≤ sizeLine) : Inv X pins σ (upd H' D (.lst ys)) s' := by
  obtain ⟨pD, nD, neD, _, _⟩ := J.pin (D, { cls := .type "list", data := .seq its.toArray n }) (List.mem_append_right _ (List.mem_singleton.mpr rfl))
  have ltD : ∀ b o, s.heap.get? b = some o → b ≠ D := fun b o e => Nat.ne_of_lt (Nat.lt_of_lt_of_le (Heap.lt_size e) hD)
  have J0 := J.base
  refine I.call' (ch := fp) J.os ⟨J0.keep, J0.slot, fun b o e n hx => ?_, J0.there, fun b xs e => ?_, fun b o u e => ?_, fun b ps e => ?_⟩ (fun b u e => ?_) J.bare fun b hb => ⟨(hf b hb).2.2.2.1, (hf b hb).2.1, (hf b hb).2.2.2.2.1, (hf b hb).2.2.2.2.2⟩
  · rw [upd_ne (ltD b o e)]
    exact J0.free b o e n hx
  · have q := J0.tups b xs e
    rw [upd_ne (ne_of_none q nD)]
    exact q
  · have q := J0.frzs b o u e
    rw [upd_ne (ne_of_none q nD)]
    exact q
  · obtain ⟨more, q⟩ := J0.tbls b ps e
    exact ⟨more, by rw [upd_ne (ne_of_none q nD)]; exact q⟩
  · by_cases hb : b = D
    · subst hb
      rw [upd_same] at e
      cases e
      exact ⟨hz, its, n, hv, pD⟩
    · rw [upd_ne hb] at e
      exact (J.hok b u e).stay (fun c v _ q => q) (fun c q => by rw [upd_ne (ne_of_none q nD)]; exact q) fun c xs q => by rw [upd_ne (ne_of_none q nD)]; exact q
end
def tYes : TT := fun _ H Q => Q true H
def tComp (wi : TI) (g : TG) (tc : TT) (te : TE) (nl : Nat) (ixs : List Nat) : TE := fun σ H Q => wi σ H fun J H1 =>
  ∃ W : Nat → Nat → List V → Hp → Prop, (∃ m, W 0 m [] H1) ∧ ∀ i m ys H, W i m ys H →
    (J.stop i H ∧ ys.length ≤ sizeLine ∧ ∀ p, H p = none → Q (.ref p) (upd H p (.lst ys))) ∨
    (J.go i H ∧ ∃ M : List V → Hp → Prop, (∀ ys' H', M ys' H' → ∃ m', m' < m ∧ W (i + 1) m' ys' H') ∧ ∀ x H', J.yld i H x H' → g x (capS nl ixs σ) H' fun σ2 H2 => tc σ2 H2 fun b H3 =>
      if b = true then te σ2 H3 fun v H4 => ys.length < sizeLine ∧ M (ys ++ [v]) H4 else M ys H3)
def GKeep (nl : Nat) (g : TG) : Prop := ∀ x σ H Q, g x σ H Q → g x σ H fun σ2 H2 => Q σ2 H2 ∧ σ2.length = σ.length ∧ ∀ i, nl ≤ i → σ2[i]? = σ[i]?
theorem gk_name {nl i : Nat} (h : i < nl := by decide) : GKeep nl (gName i) := fun x σ H Q q => ⟨q, List.length_set .., fun j hj => List.getElem?_set_ne (by omega)⟩
def PIfs (X : Cx) (ifs : List Expr) (tc : TT) : Prop :=
  ∀ (pins : List (Addr × Obj)) (s : Shared) (σ : St) (H : Hp) (Q : Bool → Hp → Prop), Inv X pins σ H s → tc σ H Q →
    wpAny (model X.prog X.w) X.A (forIn ifs true fun c r => if r = true then do let ok ← isTrue c X.env (eval c X.env); pure (ForInStep.yield ok) else pure (ForInStep.yield r)) (TP X pins σ Q) X.xe s
theorem pifs_nil {X : Cx} : PIfs X [] tYes := fun pins s σ H Q I h => wpAny_tests_nil ⟨H, I, h⟩
theorem pifs_one {X : Cx} {c : Expr} {tc : TT} (h : PT X c tc) : PIfs X [c] tc := fun pins s σ H Q I q => wpAny_tests_one (h pins s σ H Q I q)
section
variable {X : Cx} {pins : List (Addr × Obj)} {σ : St} {H : Hp} {s : Shared}
theorem comp_block {N : List Str} {scope : Scope} {nl : Nat} {ixs : List Nat} {fp : List Addr} {it : Addr} {tn : Nat → Heap → Prop} {J : It} {tg elt iter : Expr} {ifs : List Expr} {pos : Pos} {g : TG} {tc : TT} {te : TE} {Q : V → Hp → Prop} {E : Value → Shared → Prop}
    {RR : Value → Addr → Result → Shared → Prop} (I : Inv X pins σ H s) (hc : X.calm = true) (O : CompOk X.env.scope scope)
    (hN : N.length = nl + ixs.length) (hcap : ∀ (k j : Nat) (x : Str), ixs[k]? = some j → N[nl + k]? = some x → X.N[j]? = some x ∧ (x, NameKind.free) ∈ scope.names)
    (T : Turn X.prog X.w X.K tg J fp it tn) (st : tn 0 s.heap) (hf : ∀ b ∈ fp, FpOk X pins H b)
    (hg : ∀ C s0 H0 ex, PG (X.comp N scope C s0 H0 ex) tg g) (gk : GKeep nl g) (hi : ∀ C s0 H0 ex, PIfs (X.comp N scope C s0 H0 ex) ifs tc) (he : ∀ C s0 H0 ex, PE (X.comp N scope C s0 H0 ex) elt te)
    (h : ∃ W : Nat → Nat → List V → Hp → Prop, (∃ m, W 0 m [] H) ∧ ∀ i m ys H, W i m ys H →
      (J.stop i H ∧ ys.length ≤ sizeLine ∧ ∀ p, H p = none → Q (.ref p) (upd H p (.lst ys))) ∨
      (J.go i H ∧ ∃ M : List V → Hp → Prop, (∀ ys' H', M ys' H' → ∃ m', m' < m ∧ W (i + 1) m' ys' H') ∧ ∀ x H', J.yld i H x H' → g x (capS nl ixs σ) H' fun σ2 H2 => tc σ2 H2 fun b H3 =>
        if b = true then te σ2 H3 fun v H4 => ys.length < sizeLine ∧ M (ys ++ [v]) H4 else M ys H3))
    (hRR : ∀ (D C : Addr) (s' : Shared) (H' : Hp) (σ' : St) (ys : List V) (its : List Value) (n : Nat), s.heap.objs.size ≤ C → s.heap.objs.size ≤ D → Inv (X.comp N scope C s H fp) [(D, { cls := .type "list", data := .seq its.toArray n })] σ' H' s' → Vals ys its → ys.length ≤ sizeLine →
      (∀ p, H' p = none → Q (.ref p) (upd H' p (.lst ys))) → RR (.ref D) C (.ok .next) s') :
    wpAny (model X.prog X.w) X.A (newList []) (fun acc s3 => wpAny (model X.prog X.w) X.A (newFunctionEnv scope X.env.globals (compCells X.env scope.names []) [] X.env.qual none .none (some X.env)) (fun cenv s4 =>
      codeAny (model X.prog X.w) X.A (.compStart (.ListComp elt [⟨tg, iter, ifs, 0⟩] scope pos) 0 (.ref it) acc { cenv with scope := relabel scope X.env }) (RR acc cenv.locals) s4) E s3) E s := by
  obtain ⟨W, ⟨m0, w0⟩, turn⟩ := h
  refine wpAny_newObj_type (wpAny_newFunctionEnv O.nocell (by intro y hy; simp at hy) (fun h1 hns1 hsb1 => ?_) O.kind)
  dsimp only at hns1 hsb1 ⊢
  generalize hH2 : s.heap.push { cls := .type "list", dict := none, data := .seq ([] : List Value).toArray } = H2 at hns1 hsb1 ⊢
  have hC : H2.objs.size = s.heap.objs.size + 1 := by rw [← hH2, Heap.size_push]
  have hDC : s.heap.objs.size ≠ H2.objs.size := by rw [hC]; exact Nat.ne_of_lt (Nat.lt_succ_self _)
  have hCle : s.heap.objs.size ≤ H2.objs.size := by rw [hC]; exact Nat.le_succ _
  have below : ∀ b, b < s.heap.objs.size → b ≠ H2.objs.size ∧ b ≠ s.heap.objs.size := fun b hb => ⟨by rw [hC]; exact Nat.ne_of_lt (Nat.lt_succ_of_lt hb), Nat.ne_of_lt hb⟩
  have old : ∀ b o, s.heap.get? b = some o → h1.get? b = some o := fun b o e => hsb1.extBut b o (below b (Heap.lt_size e)).1 (Heap.get?_push_of_some _ (hH2 ▸ Heap.get?_push_of_some _ e))
  have hacc : h1.get? s.heap.objs.size = some { cls := .type "list", data := .seq ([] : List Value).toArray } := hsb1.extBut _ _ hDC (Heap.get?_push_of_some _ (hH2 ▸ Heap.get?_push_size _ rfl))
  have hfl : ∀ b ∈ fp, b < s.heap.objs.size := fun b hb => by
    obtain ⟨o, ho, _⟩ := T.obj 0 _ st b hb
    exact Heap.lt_size ho
  have loop : ∀ s3 : Shared, s3 = { s with heap := h1, toks := s.toks + ([] : List (Str × Value)).length } →
      codeAny (model X.prog X.w) X.A (.compLoop (.ListComp elt [⟨tg, iter, ifs, 0⟩] scope pos) 0 (.ref it) (.ref s.heap.objs.size) (compEnvC scope (compCells X.env scope.names []) H2.objs.size X.env)) (RR (.ref s.heap.objs.size) H2.objs.size) s3 := by
    rintro s3 rfl
    have I0 := I.comp (N := N) (C := H2.objs.size) (D := s.heap.objs.size) (h1 := h1) (tk := s.toks + ([] : List (Str × Value)).length) O hN hcap hf hfl hCle (Nat.le_refl _) hDC hns1 old hacc (fun v z => by cases z)
    have stat : ∀ {H' : Hp} {σ' : St} {s' : Shared} {pl : List (Addr × Obj)}, Inv (X.comp N scope H2.objs.size s H fp) pl σ' H' s' → (∀ p ∈ pl, p.1 = s.heap.objs.size) → (∀ b ∈ fp, H' b = none) → ∀ b ∈ fp, FpOk (X.comp N scope H2.objs.size s H fp) pl H' b := fun {H' σ' s' pl} J hpl hn b hb =>
      ⟨hn b hb, (below b (hfl b hb)).1, fun z => (by
          rcases List.mem_cons.mp (I.stkSub b z) with e | e
          · exact (hf b hb).2.1 e
          · exact (hf b hb).2.2.1 e), .inl hb, J.ok.exf b hb |>.2, fun p hp z => by
        have e := hpl p (by simpa using hp)
        rw [e] at z
        exact (below b (hfl b hb)).2 z.symm⟩
    refine compLoop_own (fun k s' => ∃ i H' ys its n, Inv (X.comp N scope H2.objs.size s H fp) [(s.heap.objs.size, { cls := .type "list", data := .seq its.toArray n })] (capS nl ixs σ) H' s' ∧ tn i s'.heap ∧ (∀ b ∈ fp, H' b = none) ∧ Vals ys its ∧ W i k ys H') ?_ m0
      ⟨0, H, [], [], 0, I0, T.keep _ _ _ st fun b _ o e => old b o e, fun b hb => (hf b hb).1, .nil, w0⟩
    rintro k s' ⟨i, H', ys, its, n, J1, st1, fr1, v1, w1⟩
    have one : ∀ p ∈ [((s.heap.objs.size, { cls := .type "list", data := .seq its.toArray n }) : Addr × Obj)], p.1 = s.heap.objs.size := fun p hp => by
      have e : p = _ := List.mem_singleton.mp hp
      rw [e]
    rcases turn i k ys H' w1 with ⟨stop, hz, q⟩ | ⟨go, M, hM, step⟩
    · refine thn (T.done (X.comp N scope H2.objs.size s H fp) rfl rfl rfl hc i _ s' _ H' _ J1 (stat J1 one fr1) st1 stop) fun r s4 ⟨hr, J4⟩ => ?_
      subst hr
      exact hRR _ _ s4 H' _ ys its n hCle (Nat.le_refl _) J4 v1 hz q
    · refine thn (T.item (X.comp N scope H2.objs.size s H fp) rfl rfl rfl hc i _ s' _ H' _ J1 (stat J1 one fr1) st1 go) fun r s4 ⟨u, hr, h4⟩ => ?_
      subst hr
      refine thn h4 fun _ s5 ⟨x, H5, J5, r5, y5, st5, fr5⟩ => ?_
      have J5' := J5.pinned (stat J5 one fr5) (T.obj _ _ st5)
      refine thn (hg _ _ _ _ _ s5 _ H5 x u _ J5' r5 (gk _ _ _ _ (step x H5 y5))) fun _ s6 ⟨σ6, H6, J6, q6, l6, k6⟩ => ?_
      refine thn (hi _ _ _ _ _ s6 σ6 H6 _ J6 q6) fun ok s7 ⟨H7, J7, q7⟩ => ?_
      have again : ∀ {s8 : Shared} {H8 : Hp} {ys' : List V} {k' : Nat}, Inv (X.comp N scope H2.objs.size s H fp) ([((s.heap.objs.size, { cls := .type "list", data := .seq its.toArray n }) : Addr × Obj)] ++ pinsAt fp s5.heap) σ6 H8 s8 →
          (∀ b o, b ≠ s.heap.objs.size → s8.heap.get? b = some o → s8.heap.get? b = some o) → tn (i + 1) s8.heap ∧ ∀ b ∈ fp, H8 b = none := fun {s8 H8 ys' k'} J8 _ => by
        refine ⟨T.keep _ _ _ st5 fun b hb o e => (J8.pin (b, o) (List.mem_append_right _ (List.mem_append_right _ (mem_pinsAt hb e)))).1, fun b hb => ?_⟩
        obtain ⟨o, e, d⟩ := T.obj _ _ st5 b hb
        exact (J8.pin (b, o) (List.mem_append_right _ (List.mem_append_right _ (mem_pinsAt hb e)))).2.1
      have wk : ∀ (j : Nat) v, (capS nl ixs σ)[j]? = some (some v) → σ6[j]? = some (some v) := fun j v e => by
        obtain ⟨hj, _⟩ := capS_get e
        rw [k6 j hj]
        exact e
      cases ok with
      | false =>
        rw [if_neg Bool.false_ne_true] at q7 ⊢
        obtain ⟨m', hm, w7⟩ := hM _ _ q7
        obtain ⟨st7, fr7⟩ := again (ys' := ys) (k' := 0) J7 (fun _ _ _ e => e)
        exact ⟨m', hm, i + 1, H7, ys, its, n, J7.unpinned.weak l6.symm wk, st7, fr7, v1, w7⟩
      | true =>
        rw [if_pos rfl] at q7 ⊢
        refine thn (he _ _ _ _ _ s7 σ6 H7 _ J7 q7) fun y s8 ⟨v, H8, J8, r8, hlt, mq⟩ => ?_
        obtain ⟨m', hm, w8⟩ := hM _ _ mq
        obtain ⟨st8, fr8⟩ := again (ys' := ys) (k' := 0) J8 (fun _ _ _ e => e)
        have J9 := J8.unpinned
        obtain ⟨pD, nD, neD, nfD, _⟩ := J9.pin (s.heap.objs.size, { cls := .type "list", data := .seq its.toArray n }) (List.mem_append_right _ (List.mem_singleton.mpr rfl))
        refine wpAny_list_append_plain (hsz := by rw [List.size_toArray, ← v1.length]; omega) ⟨n, pD⟩ fun h9 hl9 hs9 => ?_
        obtain ⟨n9, hl9⟩ := hl9
        have e9 : (its.toArray.push y) = (its ++ [y]).toArray := by simp
        rw [e9] at hl9
        have Ja : Inv (X.comp N scope H2.objs.size s H fp) [] (capS nl ixs σ) H8 { s8 with heap := h9, toks := s8.toks } :=
          ((J9.pins_of (pins' := []) fun p hp => absurd hp (by simp)).turned (it := s.heap.objs.size) (h' := h9) (t' := s8.toks) (fun b o hb e => (hs9.2 b hb).trans e) nD neD (.inr (Nat.le_refl _))
            (fun x c e z => by
              obtain ⟨c0, o0, h0, _⟩ := I0.cell x c e
              have := compCells_mem e
              rcases this with ⟨hfr, hcc⟩ | hcc
              · obtain ⟨c', hc'⟩ := I.ok.has x (by
                  rcases O.free _ hfr rfl with q | q
                  · exact .inl q
                  · exact .inr q)
                rw [hc'] at hcc
                have hcc' : c = c' := hcc
                obtain ⟨_, q⟩ := I.cell x c' hc'
                rw [← hcc', z] at q
                exact absurd q.lt (Nat.lt_irrefl _)
              · cases hcc) (fun p hp => absurd hp (by simp))).weak l6.symm wk
        refine ⟨m', hm, i + 1, H8, ys ++ [v], its ++ [y], n9, Ja.pins_of fun p hp => ?_, ?_, fr8, v1.append (.cons r8 .nil), w8⟩
        · have e : p = _ := List.mem_singleton.mp hp
          subst e
          exact ⟨hl9, nD, neD, nfD, fun v z => by cases z⟩
        · exact T.keep _ _ _ st8 fun b hb o e => (hs9.2 b (below b (hfl b hb)).2).trans e
  exact codeAny_compStart_list (loop _ rfl) (T.self _ 0 _ _ _ (T.keep _ _ _ st fun b _ o e => old b o e) (loop _ rfl))
end
section
variable {X : Cx} {tg elt iter : Expr} {ifs : List Expr} {scope : Scope} {pos : Pos} {N : List Str} {nl : Nat} {ixs : List Nat} {wi : TI} {g : TG} {tc : TT} {te : TE}
theorem pe_comp {sc : Scope} {XN : List Str} (N : List Str) (nl : Nat) (ixs : List Nat) (hsc : X.env.scope = sc) (hXN : X.N = XN) (hc : X.calm = true) (O' : compB sc scope = true) (hN : N.length = nl + ixs.length) (hcap' : capB nl ixs N XN scope.names = true)
    (hi : PI X tg iter wi) (hg : ∀ C s0 H0 ex, PG (X.comp N scope C s0 H0 ex) tg g) (gk : GKeep nl g) (ht : ∀ C s0 H0 ex, PIfs (X.comp N scope C s0 H0 ex) ifs tc) (he : ∀ C s0 H0 ex, PE (X.comp N scope C s0 H0 ex) elt te)
    (hs : ∀ x, foldedSetIterable iter X.env x = pure x := by intro _; rfl) : PE X (.ListComp elt [⟨tg, iter, ifs, 0⟩] scope pos) (tComp wi g tc te nl ixs) := by
  intro pins s σ H Q I h
  subst hsc hXN
  have O := compB_ok O'
  have hcap := capB_ok hcap'
  rw [eval_ListComp]
  have hcl := closureFor_eq (scope := scope) (env := X.env) fun n hn => I.ok.has n (by
    rcases O.free _ hn rfl with z | z
    · exact .inl z
    · exact .inr z)
  refine wpAny_comprehension_free (use := none) rfl hs hcl O.kind O.loc (thn (hi pins s σ H _ I h) fun v s1 h1 => thn h1 fun itv s2 h2 => ?_)
  obtain ⟨it, fp, tn, J, H2, e, I2, T, st2, f2, hW⟩ := h2
  subst e
  refine comp_block (Q := Q) (RR := fun acc C => compPost (model X.prog X.w) X.A X.xe none (EP X pins σ Q) acc C) I2 hc O hN hcap T st2 f2 hg gk ht he hW ?_
  intro D C s' H' σ' ys its n hC hD J' hv hz q
  obtain ⟨m, hn, _⟩ := id J'.loc
  have B := I2.compBack f2 hC hD J' hv hz
  obtain ⟨_, nD, neD, _, _⟩ := J'.pin (D, { cls := .type "list", data := .seq its.toArray n }) (List.mem_append_right _ (List.mem_singleton.mpr rfl))
  refine ⟨m, hn, fun h' sb => ⟨.ref D, _, ?_, rfl, q D nD⟩⟩
  refine B.turned (it := C) (h' := h') (t' := s'.toks) (fun b o hb e => (sb.2 b hb).trans e) ((upd_ne (H := H') (a := D) (b := C) (o := .lst ys) (Ne.symm neD)).trans J'.free) (Nat.ne_of_gt (Nat.lt_of_lt_of_le I2.lt hC)) (.inr (Nat.le_trans I2.sz hC)) (fun x c e z => ?_) (fun p hp z => ?_)
  · obtain ⟨_, q⟩ := I2.cell x c e
    exact absurd (Nat.lt_of_lt_of_le q.lt (by rw [z]; exact hC)) (Nat.lt_irrefl _)
  · exact absurd (Nat.lt_of_lt_of_le (Heap.lt_size (I2.pin p hp).1) (by rw [z]; exact hC)) (Nat.lt_irrefl _)
end
end L2
namespace L2
open PySem PySem.Spec PyProof.Rows
def Its (x : Str) : It := ⟨fun i _ => i < x.cps.size, fun i H v H' => H' = H ∧ ∃ c, x.cps[i]? = some c ∧ v = .str ⟨#[c]⟩, fun i _ => i = x.cps.size⟩
theorem turn_str {P : Program} {w : World} {K : PySem.W.Frag} {tg : Expr} {it : Addr} {x : Str} {t : Tok} {T : String} (W : ∀ A : Around, A.handled = none → Walks P w A it [it] [it] x.cps.size (SignAt x) fun i h => h.IsStrIter it T x t i)
    (sf : ∀ (A : Around) (i : Nat) (s : Shared) (Q : Value → Shared → Prop) (E : Value → Shared → Prop), s.heap.IsStrIter it T x t i → Q (.ref it) s → wpAny (model P w) A (pyIter (.ref it)) Q E s)
    (htg : ∀ v, letOwnedTupleGo tg (.ref it) v = pure ()) : Turn P w K tg (Its x) [it] it (fun i h => h.IsStrIter it T x t i) where
  mem := by simp
  obj := fun i h st b hb => by
    have e : b = it := by simpa using hb
    subst e
    obtain ⟨o, e, c, d⟩ := st
    exact ⟨o, e, fun v z => by rw [d] at z; cases z⟩
  keep := fun i h h' st k => by
    obtain ⟨o, e, r⟩ := st
    exact ⟨o, k it (by simp) o e, r⟩
  item := by
    intro X hP hw hK hc i pins s σ H E I hf st hg
    subst hP hw hK
    obtain ⟨f0, f1, f2, f3, f4, f5⟩ := hf it (by simp)
    refine (W X.A (I.ok.hd hc)).item i s _ _ hg st fun v h' tk hv st' kk => ?_
    obtain ⟨c, u, hcx, rfl⟩ := hv
    have I1 : Inv X pins σ H { s with heap := h', toks := tk } := I.turned (fun b o hb e => kk b o (by simpa using hb) e) f0 f1 f3 f4 f5
    refine ⟨_, rfl, wpAny_of_eq (htg _) ⟨.str ⟨#[c]⟩, H, I1, ⟨u, rfl⟩, ⟨rfl, c, hcx, rfl⟩, st', fun b hb => (hf b hb).1⟩⟩
  done := by
    intro X hP hw hK hc i pins s σ H E I hf st hg
    subst hP hw hK
    obtain ⟨f0, f1, f2, f3, f4, f5⟩ := hf it (by simp)
    have e : i = x.cps.size := hg
    subst e
    exact (W X.A (I.ok.hd hc)).done s _ _ st fun h' tk kk => ⟨rfl, I.turned (fun b o hb e => kk b o (by simpa using hb) e) f0 f1 f3 f4 f5⟩
  self := sf
section
variable {X : Cx} {tg : Expr}
end
section
variable {K : PySem.W.Frag} {a : Addr} {xs : List V} {g : TG} {tc : TT} {te : TE} {σ' : St} {H1 : Hp} {Q : V → Hp → Prop}
def CompW (J : It) (g : TG) (tc : TT) (te : TE) (σ' : St) (H1 : Hp) (Q : V → Hp → Prop) : Prop :=
  ∃ W : Nat → Nat → List V → Hp → Prop, (∃ m, W 0 m [] H1) ∧ ∀ i m ys H, W i m ys H →
      (J.stop i H ∧ ys.length ≤ sizeLine ∧ ∀ p, H p = none → Q (.ref p) (upd H p (.lst ys))) ∨
      (J.go i H ∧ ∃ M : List V → Hp → Prop, (∀ ys' H', M ys' H' → ∃ m', m' < m ∧ W (i + 1) m' ys' H') ∧ ∀ x H', J.yld i H x H' → g x σ' H' fun σ2 H2 => tc σ2 H2 fun b H3 =>
        if b = true then te σ2 H3 fun v H4 => ys.length < sizeLine ∧ M (ys ++ [v]) H4 else M ys H3)
theorem comp_list (Pv : Nat → List V → Hp → Prop) (h0 : Pv 0 [] H1) (hl : ∀ i ys H, i ≤ xs.length → Pv i ys H → SqL K H a xs)
    (hs : ∀ i x ys H, xs[i]? = some x → Pv i ys H → g x σ' H fun σ2 H2 => tc σ2 H2 fun b H3 => if b = true then te σ2 H3 fun v H4 => ys.length < sizeLine ∧ Pv (i + 1) (ys ++ [v]) H4 else Pv (i + 1) ys H3)
    (hd : ∀ ys H, Pv xs.length ys H → ys.length ≤ sizeLine ∧ ∀ p, H p = none → Q (.ref p) (upd H p (.lst ys))) : CompW (Itl K a) g tc te σ' H1 Q := by
  refine ⟨fun i m ys H => m = xs.length - i ∧ i ≤ xs.length ∧ Pv i ys H, ⟨xs.length, by simp, Nat.zero_le _, h0⟩, ?_⟩
  rintro i m ys H ⟨rfl, hi, p⟩
  have q := hl i ys H hi p
  by_cases hlt : i < xs.length
  · refine .inr ⟨⟨xs, xs[i], q, by simp [hlt]⟩, Pv (i + 1), fun ys' H' p' => ⟨xs.length - (i + 1), by omega, rfl, hlt, p'⟩, fun x H' y => ?_⟩
    obtain ⟨e, y⟩ := y
    subst e
    exact hs i x ys _ (y xs q) p
  · have e : i = xs.length := by omega
    subst e
    exact .inl ⟨⟨xs, q, Nat.le_refl _⟩, hd ys H p⟩
theorem comp_range {lo : Int} {n : Nat} (Pv : Nat → List V → Hp → Prop) (h0 : Pv 0 [] H1)
    (hs : ∀ i ys H, i < n → Pv i ys H → g (.int (lo + i)) σ' H fun σ2 H2 => tc σ2 H2 fun b H3 => if b = true then te σ2 H3 fun v H4 => ys.length < sizeLine ∧ Pv (i + 1) (ys ++ [v]) H4 else Pv (i + 1) ys H3)
    (hd : ∀ ys H, Pv n ys H → ys.length ≤ sizeLine ∧ ∀ p, H p = none → Q (.ref p) (upd H p (.lst ys))) : CompW (Itr lo n) g tc te σ' H1 Q := by
  refine ⟨fun i m ys H => m = n - i ∧ i ≤ n ∧ Pv i ys H, ⟨n, by simp, Nat.zero_le _, h0⟩, ?_⟩
  rintro i m ys H ⟨rfl, hi, p⟩
  by_cases hlt : i < n
  · refine .inr ⟨hlt, Pv (i + 1), fun ys' H' p' => ⟨n - (i + 1), by omega, rfl, hlt, p'⟩, fun x H' y => ?_⟩
    obtain ⟨e, y⟩ := y
    subst e y
    exact hs i ys _ hlt p
  · have e : i = n := by omega
    subst e
    exact .inl ⟨Nat.le_refl _, hd ys H p⟩
theorem comp_str {x : Str} (Pv : Nat → List V → Hp → Prop) (h0 : Pv 0 [] H1)
    (hs : ∀ i c ys H, x.cps[i]? = some c → Pv i ys H → g (.str ⟨#[c]⟩) σ' H fun σ2 H2 => tc σ2 H2 fun b H3 => if b = true then te σ2 H3 fun v H4 => ys.length < sizeLine ∧ Pv (i + 1) (ys ++ [v]) H4 else Pv (i + 1) ys H3)
    (hd : ∀ ys H, Pv x.cps.size ys H → ys.length ≤ sizeLine ∧ ∀ p, H p = none → Q (.ref p) (upd H p (.lst ys))) : CompW (Its x) g tc te σ' H1 Q := by
  refine ⟨fun i m ys H => m = x.cps.size - i ∧ i ≤ x.cps.size ∧ Pv i ys H, ⟨x.cps.size, by simp, Nat.zero_le _, h0⟩, ?_⟩
  rintro i m ys H ⟨rfl, hi, p⟩
  by_cases hlt : i < x.cps.size
  · refine .inr ⟨hlt, Pv (i + 1), fun ys' H' p' => ⟨x.cps.size - (i + 1), by omega, rfl, hlt, p'⟩, fun v H' y => ?_⟩
    obtain ⟨e, c, hc, y⟩ := y
    subst e y
    exact hs i c ys _ hc p
  · have e : i = x.cps.size := by omega
    subst e
    exact .inl ⟨rfl, hd ys H p⟩
end
def clsVal : V → Option Value
  | .ty n => some (.type n)
  | .ref a => some (.ref a)
  | _ => none
theorem clsVal_rel {y : V} {c u : Value} (h : clsVal y = some c) (r : RelV y u) : u = c := by
  cases y with
  | ty n => cases h; exact r
  | ref a => cases h; exact r
  | _ => cases h
section
variable {X : Cx} {pins : List (Addr × Obj)} {σ : St} {H : Hp} {s : Shared}
theorem TyOf.kit {x : V} {u t : Value} (I : Inv X pins σ H s) (rx : RelV x u) (ty : TyOf X.K H x t) : ∃ P : Heap → Prop, PySem.W.KitX X.K u t P ∧ P s.heap ∧ u ≠ .builtin "__main__.__loader__#opaque" := by
  cases ty with
  | non => cases (show u = Value.none from rx); exact ⟨_, PySem.W.kitx_none, True.intro, (fun z => nomatch z)⟩
  | bl y => cases (show u = Value.bool y from rx); exact ⟨_, PySem.W.kitx_bool, True.intro, (fun z => nomatch z)⟩
  | int i => obtain ⟨t, q⟩ := (show ∃ t, u = Value.int i t from rx); cases q; exact ⟨_, PySem.W.kitx_int, True.intro, (fun z => nomatch z)⟩
  | str y => obtain ⟨t, q⟩ := (show ∃ t, u = Value.str y t from rx); cases q; exact ⟨_, PySem.W.kitx_str, True.intro, (fun z => nomatch z)⟩
  | flt y => obtain ⟨t, q⟩ := (show ∃ t, u = Value.float y t from rx); cases q; exact ⟨_, PySem.W.kitx_float, True.intro, (fun z => nomatch z)⟩
  | @lst a xs ea =>
    cases (show u = Value.ref a from rx)
    obtain ⟨_, _, n, _, h1⟩ := (show ObjOk X.prog X.w H s.heap a (.lst xs) from I.hok a _ ea)
    exact ⟨_, PySem.W.kitx_list, ⟨_, h1, rfl⟩, (fun z => nomatch z)⟩
  | @frz a ob xs ea =>
    cases (show u = Value.ref a from rx)
    obtain ⟨_, _, _, n, _, h1⟩ := (show ObjOk X.prog X.w H s.heap a (.frz ob (.lst xs)) from I.hok a _ ea)
    exact ⟨_, PySem.W.kitx_list, ⟨_, h1, rfl⟩, (fun z => nomatch z)⟩
  | @tup a xs ea =>
    cases (show u = Value.ref a from rx)
    obtain ⟨_, _, _, p⟩ := (show ObjOk X.prog X.w H s.heap a (.tup xs) from I.hok a _ ea)
    obtain ⟨o, h1, h2, _⟩ := p
    exact ⟨_, PySem.W.kitx_tuple, ⟨o, h1, h2⟩, (fun z => nomatch z)⟩
  | @dK a kvs ea =>
    cases (show u = Value.ref a from rx)
    obtain ⟨_, _, vs, _, p⟩ := (show ObjOk X.prog X.w H s.heap a (.dK kvs) from I.hok a _ ea)
    obtain ⟨o, es, ep, h1, h2, _⟩ := p
    exact ⟨_, PySem.W.kitx_dict, ⟨o, h1, h2.1⟩, (fun z => nomatch z)⟩
  | @dT a kvs ea =>
    cases (show u = Value.ref a from rx)
    obtain ⟨_, _, xs, _, o, es, ep, h1, h2, _⟩ := (show ObjOk X.prog X.w H s.heap a (.dT kvs) from I.hok a _ ea)
    exact ⟨_, PySem.W.kitx_dict, ⟨o, h1, h2.1⟩, (fun z => nomatch z)⟩
  | @ins a C dx fs ea cl ha hn htk hm =>
    cases (show u = Value.ref a from rx)
    obtain ⟨mA, O, _⟩ := ins_get I.hok ea
    obtain ⟨od, J, _⟩ := O.look
    exact ⟨_, PySem.W.kitx_own (cl.get _) cl.hd ha hn htk hm, J, (fun z => nomatch z)⟩
end
section
variable {X : Cx}
theorem clsVals_rel : ∀ {ys : List V} {cs us : List Value}, ys.map clsVal = cs.map some → Vals ys us → us = cs
  | [], [], _, _, .nil => rfl
  | [], _ :: _, _, h, _ => by cases h
  | y :: ys, [], _, h, _ => by cases h
  | y :: ys, c :: cs, _, h, .cons r t => by
    rw [List.map_cons, List.map_cons] at h
    injection h with h1 h2
    rw [clsVal_rel h1 r, clsVals_rel h2 t]
theorem bools_of : ∀ {bs : List Bool} {us : List Value}, Vals (bs.map V.bl) us → us = bs.map Value.bool
  | [], _, .nil => rfl
  | b :: bs, _, .cons r t => by
    have e := bools_of t
    rw [e]
    cases r
    rfl
def rAll (K : PySem.W.Frag) : List V → Hp → VK → Prop := fun xs H Q => ∃ (p : Addr) (bs : List Bool), xs = [.ref p] ∧ SqL K H p (bs.map V.bl) ∧ Q (.bl (bs.all id)) H
theorem call_all (hc : X.calm = true) : CallR X (.builtin "all") (rAll X.K) := by
  intro pins s σ H xs us Q I r h
  obtain ⟨p, bs, rfl, hp, q⟩ := h
  obtain ⟨u, rfl, ru⟩ := vals1 r
  cases ru
  obtain ⟨its, rv, pl, hz⟩ := I.list hp
  have e := bools_of rv
  subst e
  have hh : X.A.in1.handled = none := I.ok.hd hc
  refine call_all_walk (wpAny_pyIter_list pl.isList ?_)
  have hne : p ≠ s.heap.objs.size := by
    obtain ⟨o, ho, _⟩ := pl.isList
    exact Nat.ne_of_lt (Heap.lt_size ho)
  refine ⟨s.heap.objs.size, _, _, _, _, _, fun i => (bs[i]?).getD false, rfl, Walks.list hh s.heap.objs.size p hne (bs.map Value.bool).toArray, ⟨⟨_, Heap.get?_push_size _ rfl, rfl, rfl⟩, pl.isList.at fun o e => Heap.get?_push_of_some _ e⟩, fun i v s Q E hv hq => ?_, fun h' tk hk => ?_⟩
  · have hv' : (bs.map Value.bool)[i]? = some v := by simpa using hv
    rw [List.getElem?_map] at hv'
    cases e : bs[i]? with
    | none => rw [e] at hv'; cases hv'
    | some b =>
      rw [e] at hv'
      cases hv'
      have hq' : Q ((bs[i]?).getD false) s := hq
      rw [e] at hq'
      exact wpAny_pure hq'
  · have e : ((List.range (bs.map Value.bool).toArray.size).all fun i => (bs[i]?).getD false) = bs.all id := by
      rw [List.size_toArray, List.length_map]
      have key : ∀ bs : List Bool, ((List.range bs.length).all fun i => (bs[i]?).getD false) = bs.all id := by
        intro bs
        induction bs with
        | nil => rfl
        | cons b r ih =>
          rw [List.length_cons, List.range_succ_eq_map, List.all_cons, List.all_map, List.all_cons, ← ih]
          rfl
      exact key bs
    rw [e]
    refine ⟨.bl _, H, ?_, rfl, q⟩
    have I1 : Inv X pins σ H { s with heap := s.heap.push { cls := .type "list_iterator", data := .fields #[.ref p, .int 0 0] } } := I.kept (t' := s.toks) fun b o e => Heap.get?_push_of_some _ e
    have nf := I.fpOk (b := s.heap.objs.size) (Nat.le_refl _) (I.hok.fresh (Nat.le_refl _))
    exact I1.turned (it := s.heap.objs.size) (h' := h') (t' := tk) (fun b o hb e => hk b o (by simpa using hb) e) nf.1 nf.2.1 nf.2.2.2.1 nf.2.2.2.2.1 nf.2.2.2.2.2
theorem op_le_str : OpR X (compareOp .LtE) (fun x y H Q => ∃ i j, x = .str i ∧ y = .str j ∧ Q (.bl (!decide (j.cps.toList < i.cps.toList))) H) := by
  intro pins s σ H x y v u Q I rx ry h
  obtain ⟨i, j, rfl, rfl, q⟩ := h
  obtain ⟨t, rfl⟩ := rx
  obtain ⟨t', rfl⟩ := ry
  exact PySem.P.le_str (fin_bl I q (by rfl))
def rLeU : R2 := fun x y H Q => match x, y with
  | .int i, .int j => Q (.bl (decide (i ≤ j))) H
  | .str i, .str j => Q (.bl (!decide (j.cps.toList < i.cps.toList))) H
  | _, _ => False
theorem u_le : OpR X (compareOp .LtE) rLeU := by
  intro pins s σ H x y v u Q I rx ry h
  cases x with
  | int i => cases y with
    | int j => exact op_le pins s σ H _ _ v u Q I rx ry ⟨i, j, rfl, rfl, h⟩
    | _ => exact False.elim h
  | str i => cases y with
    | str j => exact op_le_str pins s σ H _ _ v u Q I rx ry ⟨i, j, rfl, rfl, h⟩
    | _ => exact False.elim h
  | _ => exact False.elim h
theorem op_is_bl : OpR X (compareOp .Is) (fun x y H Q => ∃ i j, x = .bl i ∧ y = .bl j ∧ Q (.bl (i == j)) H) := by
  intro pins s σ H x y v u Q I rx ry h
  obtain ⟨i, j, rfl, rfl, q⟩ := h
  cases rx
  cases ry
  exact wpAny_is_plain (by cases i <;> cases j <;> rfl) (fin_bl I q (by cases i <;> cases j <;> rfl))
def rIsU : R2 := fun x y H Q => match x, y with
  | .bl i, .bl j => Q (.bl (i == j)) H
  | x, .non => Q (.bl (decide (x = .non))) H
  | _, _ => False
theorem u_is : OpR X (compareOp .Is) rIsU := by
  intro pins s σ H x y v u Q I rx ry h
  cases y with
  | non => exact op_isN pins s σ H x _ v u Q I rx ry ⟨rfl, by cases x <;> exact h⟩
  | bl j => cases x with
    | bl i => exact op_is_bl pins s σ H _ _ v u Q I rx ry ⟨i, j, rfl, rfl, h⟩
    | _ => exact False.elim h
  | _ => cases x <;> exact False.elim h
theorem op_rep_str : OpR X (binaryOp .Mult) (fun x y H Q => ∃ z k, x = .str z ∧ y = .int k ∧ MulOk z k ∧ Q (.str (Txt.mul z k)) H) := by
  intro pins s σ H x y v u Q I rx ry h
  obtain ⟨z, k, rfl, rfl, hm, q⟩ := h
  obtain ⟨t, rfl⟩ := rx
  obtain ⟨t', rfl⟩ := ry
  exact SB.mul hm fun t' k' => ⟨.str _, H, I.tok _, ⟨_, rfl⟩, q⟩
def rMulU : R2 := fun x y H Q => match x, y with
  | .int i, .int j => CMul i j ∧ Q (.int (i * j)) H
  | .str z, .int k => MulOk z k ∧ Q (.str (Txt.mul z k)) H
  | .ref a, .int k => rRep (.ref a) (.int k) H Q
  | _, _ => False
theorem u_mul : OpR X (binaryOp .Mult) rMulU := by
  intro pins s σ H x y v u Q I rx ry h
  cases y with
  | int j => cases x with
    | int i => exact op_mul pins s σ H _ _ v u Q I rx ry ⟨i, j, rfl, rfl, h.1, h.2⟩
    | str i => exact op_rep_str pins s σ H _ _ v u Q I rx ry ⟨i, j, rfl, rfl, h.1, h.2⟩
    | ref a => exact op_rep pins s σ H _ _ v u Q I rx ry h
    | _ => exact False.elim h
  | _ => cases x <;> exact False.elim h
def rAddU (K : PySem.W.Frag) : R2 := fun x y H Q => match x, y with
  | .int i, .int j => Q (.int (i + j)) H
  | .str i, .str j => i.length + j.length ≤ sizeLine ∧ Q (.str (i ++ j)) H
  | .ref a, .ref b => rCat (.ref a) (.ref b) H Q ∨ rCatT K (.ref a) (.ref b) H Q
  | _, _ => False
theorem u_add : OpR X (binaryOp .Add) (rAddU X.K) := by
  intro pins s σ H x y v u Q I rx ry h
  cases x with
  | int i => cases y with
    | int j => exact op_add pins s σ H _ _ v u Q I rx ry ⟨i, j, rfl, rfl, h⟩
    | _ => exact False.elim h
  | str i => cases y with
    | str j => exact op_add_str pins s σ H _ _ v u Q I rx ry ⟨i, j, rfl, rfl, h.1, h.2⟩
    | _ => exact False.elim h
  | ref a => cases y with
    | ref b => exact h.elim (fun h => op_cat pins s σ H _ _ v u Q I rx ry h) fun h => op_catT pins s σ H _ _ v u Q I rx ry h
    | _ => exact False.elim h
  | _ => exact False.elim h
def rLenU (K : PySem.W.Frag) : List V → Hp → VK → Prop := fun xs H Q => match xs with
  | [.str z] => z.length ≤ sizeLine ∧ Q (.int z.length) H
  | [.ref p] => (∃ ys, (SqL K H p ys ∨ SqT K H p ys) ∧ Q (.int ys.length) H) ∨ ∃ kvs, H p = some (.dK kvs) ∧ Q (.int kvs.length) H
  | _ => False
theorem call_lenU : CallR X (.builtin "len") (rLenU X.K) := by
  intro pins s σ H xs us Q I r h
  match xs, h with
  | [.str z], h => exact call_len_str pins s σ H _ us Q I r ⟨z, rfl, h.1, h.2⟩
  | [.ref p], .inl ⟨ys, h, q⟩ => exact call_len_seq pins s σ H _ us Q I r ⟨p, ys, rfl, h, q⟩
  | [.ref p], .inr ⟨kvs, h, q⟩ => exact call_lenD pins s σ H _ us Q I r ⟨p, kvs, rfl, h, q⟩
theorem sl_str : SlR X (fun x lo hi H Q => ∃ z, x = .str z ∧ z.length ≤ sizeLine ∧ Q (.str (Txt.slice z lo hi)) H) := by
  intro pins s σ H x v vl vu lo hi sl Q I rx hs pl pu h
  obtain ⟨z, rfl, hz, q⟩ := h
  obtain ⟨t, rfl⟩ := rx
  refine ⟨"str", _, F.slot_str_getitem.lookup, typeIs_str _ _ _, ?_⟩
  cases pl with
  | none =>
    cases pu with
    | none => exact wpAny_getItem_str_slice (l := none) (u := none) (st := none) hs rfl (post_val_or_str ⟨Nat.le_trans (Txt.slice_le z _ _) hz, fun t' k => ⟨.str _, H, I.tok _, ⟨_, rfl⟩, q⟩⟩)
    | int j uj => exact wpAny_getItem_str_slice (l := none) (u := some (j, uj)) (st := none) hs rfl (post_val_or_str ⟨Nat.le_trans (Txt.slice_le z _ _) hz, fun t' k => ⟨.str _, H, I.tok _, ⟨_, rfl⟩, q⟩⟩)
  | int i ui =>
    cases pu with
    | none => exact wpAny_getItem_str_slice (l := some (i, ui)) (u := none) (st := none) hs rfl (post_val_or_str ⟨Nat.le_trans (Txt.slice_le z _ _) hz, fun t' k => ⟨.str _, H, I.tok _, ⟨_, rfl⟩, q⟩⟩)
    | int j uj => exact wpAny_getItem_str_slice (l := some (i, ui)) (u := some (j, uj)) (st := none) hs rfl (post_val_or_str ⟨Nat.le_trans (Txt.slice_le z _ _) hz, fun t' k => ⟨.str _, H, I.tok _, ⟨_, rfl⟩, q⟩⟩)
def rSlU (K : PySem.W.Frag) : V → Option Int → Option Int → Hp → VK → Prop := fun x lo hi H Q => match x with
  | .str z => z.length ≤ sizeLine ∧ Q (.str (Txt.slice z lo hi)) H
  | .ref a => rSlL K (.ref a) lo hi H Q ∨ rSlT K (.ref a) lo hi H Q
  | _ => False
theorem u_sl : SlR X (rSlU X.K) := by
  intro pins s σ H x v vl vu lo hi sl Q I rx hs pl pu h
  cases x with
  | str z => exact sl_str pins s σ H _ v vl vu lo hi sl Q I rx hs pl pu ⟨z, rfl, h.1, h.2⟩
  | ref a => exact h.elim (fun h => sl_list pins s σ H _ v vl vu lo hi sl Q I rx hs pl pu h) fun h => sl_tup pins s σ H _ v vl vu lo hi sl Q I rx hs pl pu h
  | _ => exact False.elim h
theorem strs_of : ∀ {ys : List Str} {us : List Value}, Vals (ys.map V.str) us → StrsAre us ys
  | [], _, .nil => .nil
  | y :: ys, _, .cons r t => by
    obtain ⟨tk, rfl⟩ := r
    exact .cons y tk (strs_of t)
def rJoin (K : PySem.W.Frag) : V → List V → Hp → VK → Prop := fun x vs H Q => ∃ (z : Str) (p : Addr) (ys : List Str), x = .str z ∧ vs = [.ref p] ∧ SqL K H p (ys.map V.str) ∧ (ys.map (·.length)).sum + ys.length * z.length ≤ 16777216 ∧ Q (.str (Txt.join z ys)) H
theorem mt_join : MtR X "str.join" (rJoin X.K) := by
  intro pins s σ H x vs v us Q I rx rv h
  obtain ⟨z, p, ys, rfl, rfl, hp, hz, q⟩ := h
  obtain ⟨t, rfl⟩ := rx
  obtain ⟨u, rfl, ru⟩ := rv.one
  cases ru
  obtain ⟨its, r, pl, _⟩ := I.list hp
  exact join_list pl.isList (by simpa using strs_of r) hz fun t' k => ⟨.str _, H, I.tok _, ⟨_, rfl⟩, q⟩
def iAny (K : PySem.W.Frag) (te : TE) : TI := fun σ H R => te σ H fun v H1 => match v with
  | .str x => R (Its x) H1
  | .ref a => ((∃ xs, SqL K H1 a xs) ∧ R (Itl K a) H1) ∨ ((∃ xs, SqT K H1 a xs) ∧ R (Itt K a) H1)
  | _ => False
theorem pi_any {tg e : Expr} {te : TE} (he : PE X e te) (htg : ∀ it v, letOwnedTupleGo tg it v = pure () := by intro _ _; rfl) : PI X tg e (iAny X.K te) := by
  intro pins s σ H R I h
  refine thn (he pins s σ H _ I h) fun v s1 ⟨y, H1, I1, r1, q1⟩ => ?_
  cases y with
  | str x =>
    obtain ⟨t, rfl⟩ := r1
    have fp : ∀ b ∈ [s1.heap.objs.size], FpOk X pins H1 b := fun b hb => by
      have e : b = s1.heap.objs.size := by simpa using hb
      subst e
      exact I1.fpOk (Nat.le_refl _) (I1.hok.fresh (Nat.le_refl _))
    cases ha : x.cps.all (· < 128)
    · exact wpAny_pyIter_wide ha ⟨s1.heap.objs.size, [s1.heap.objs.size], _, _, H1, rfl, I1.kept (t' := s1.toks) fun b o e => Heap.get?_push_of_some _ e,
        turn_str (T := "str_iterator") (fun A hA => Walks.strWide hA _ x t) (fun A i s Q E st h => wpAny_pyIter_striter_wide st h) (htg _), ⟨_, Heap.get?_push_size _ rfl, rfl, rfl⟩, fp, q1⟩
    · exact wpAny_pyIter_ascii ha ⟨s1.heap.objs.size, [s1.heap.objs.size], _, _, H1, rfl, I1.kept (t' := s1.toks) fun b o e => Heap.get?_push_of_some _ e,
        turn_str (T := "str_ascii_iterator") (fun A hA => Walks.strAscii hA _ x t) (fun A i s Q E st h => wpAny_pyIter_striter_ascii st h) (htg _), ⟨_, Heap.get?_push_size _ rfl, rfl, rfl⟩, fp, q1⟩
  | ref a =>
    cases r1
    have fp : ∀ b ∈ [s1.heap.objs.size], FpOk X pins H1 b := fun b hb => by
      have e : b = s1.heap.objs.size := by simpa using hb
      subst e
      exact I1.fpOk (Nat.le_refl _) (I1.hok.fresh (Nat.le_refl _))
    rcases q1 with ⟨⟨xs, hq⟩, q⟩ | ⟨⟨xs, hq⟩, q⟩
    · obtain ⟨its, rv, p, hz⟩ := I1.list hq
      exact wpAny_pyIter_list p.isList ⟨s1.heap.objs.size, [s1.heap.objs.size], _, _, H1, rfl, I1.kept (t' := s1.toks) fun b o e => Heap.get?_push_of_some _ e, turn_list a _, ⟨_, Heap.get?_push_size _ rfl, rfl, rfl⟩, fp, q⟩
    · obtain ⟨its, rv, p, hz⟩ := I1.tuple hq
      exact wpAny_pyIter_tuple (show s1.heap.IsTuple a its.toArray from p) ⟨s1.heap.objs.size, [s1.heap.objs.size], _, _, H1, rfl, I1.kept (t' := s1.toks) fun b o e => Heap.get?_push_of_some _ e, turn_tuple a _, ⟨_, Heap.get?_push_size _ rfl, rfl, rfl⟩, fp, q⟩
  | _ => exact False.elim q1
end
end L2
namespace L2
open PySem PySem.Spec PyProof.Rows
section
variable {D : Ends} {σ : St} {H : Hp} {Q : VK} {QT : Bool → Hp → Prop} {QA : List V → Hp → Prop} {t u : TS} {te ta tb tc : TE} {c c' : TT} {tr tas : TA} {r r' : R2} {K : PySem.W.Frag}
theorem vSeq (h : t { D with nx := u D } σ H) : tSeq t u D σ H := h
theorem vAsg {i : Nat} (h : te σ H fun x H1 => D.nx (σ.set i (some x)) H1) : tAsg te (gName i) D σ H := h
theorem vAsgS {to ti : TE} {s : TSet} (h : te σ H fun x H1 => to σ H1 fun o H2 => ti σ H2 fun i H3 => s o i x H3 fun H4 => D.nx σ H4) : tAsg te (gSub to ti s) D σ H := h
theorem vIfS (h : c σ H fun b H1 => if b = true then t D σ H1 else u D σ H1) : tIfS c t u D σ H := h
theorem vRet (h : te σ H D.rt) : tRet te D σ H := h
theorem vRetN (h : D.rt .non H) : tRetN D σ H := h
theorem vDrop (h : te σ H fun _ H1 => D.nx σ H1) : tDrop te D σ H := h
theorem vNext (h : D.nx σ H) : tNext D σ H := h
theorem vC {v : V} (h : Q v H) : tC v σ H Q := h
theorem vVar {i : Nat} {v : V} (e : σ[i]? = some (some v)) (h : Q v H) : tVar i σ H Q := ⟨v, e, h⟩
theorem vOp (h : ta σ H fun x H1 => tb σ H1 fun y H2 => r x y H2 Q) : tOp r ta tb σ H Q := h
theorem vUn {f : V → Hp → VK → Prop} (h : ta σ H fun x H1 => f x H1 Q) : tUn f ta σ H Q := h
theorem vChain (h : ta σ H fun x H1 => tb σ H1 fun y H2 => r x y H2 fun z H3 => ∃ k, z = .bl k ∧ if k = true then tc σ H3 fun z2 H4 => r' y z2 H4 Q else Q (.bl false) H3) : tChain r r' ta tb tc σ H Q := h
theorem vNil (h : QA [] H) : tNil σ H QA := h
theorem vCons (h : ta σ H fun x H1 => tr σ H1 fun xs H2 => QA (x :: xs) H2) : tCons ta tr σ H QA := h
theorem vCB {f : List V → Hp → VK → Prop} (h : tas σ H fun vs H1 => f vs H1 Q) : tCB f tas σ H Q := h
theorem vCall {sp : Sp} {E : XK} (h : tas σ H fun vs H1 => sp (vs ++ []) H1 Q E) : tCall sp [] E tas σ H Q := h
theorem vLst (h : tas σ H fun xs H1 => xs.length ≤ sizeLine ∧ ∀ p, H1 p = none → Q (.ref p) (upd H1 p (.lst xs))) : tLst tas σ H Q := h
theorem vTup (h : tas σ H fun xs H1 => xs.length ≤ sizeLine ∧ ∀ p, H1 p = none → Q (.ref p) (upd H1 p (.tup xs))) : tTup tas σ H Q := h
theorem vTest (h : te σ H fun x H' => ∃ k, x = .bl k ∧ QT k H') : tTest te σ H QT := h
theorem vB (h : te σ H fun x H' => ∃ k, x = .bl k ∧ QT k H') : tB te σ H QT := h
theorem vNot (h : c σ H fun b H1 => QT (!b) H1) : tNot c σ H QT := h
theorem vAnd (h : c σ H fun b H1 => if b = true then c' σ H1 QT else QT false H1) : tAnd c c' σ H QT := h
theorem vOr (h : c σ H fun b H1 => if b = true then QT true H1 else c' σ H1 QT) : tOr c c' σ H QT := h
theorem vAndV (h : ta σ H fun x H1 => ∃ k, x = .bl k ∧ if k = true then tb σ H1 Q else Q (.bl false) H1) : tAndV ta tb σ H Q := h
theorem vOrV (h : ta σ H fun x H1 => ∃ k, x = .bl k ∧ if k = true then Q (.bl true) H1 else tb σ H1 Q) : tOrV ta tb σ H Q := h
theorem vNotV (h : ta σ H fun x H1 => ∃ k, x = .bl k ∧ Q (.bl (!k)) H1) : tNotV ta σ H Q := h
theorem vIf (h : c σ H fun b H1 => if b = true then ta σ H1 Q else tb σ H1 Q) : tIf c ta tb σ H Q := h
theorem vYes (h : QT true H) : tYes σ H QT := h
theorem vI0 {g : Int → Int → V} {i j : Int} (h : Q (g i j) H) : rI0 g (.int i) (.int j) H Q := ⟨i, j, rfl, rfl, h⟩
theorem vI {C : Int → Int → Prop} {g : Int → Int → V} {i j : Int} (hc : C i j) (h : Q (g i j) H) : rI C g (.int i) (.int j) H Q := ⟨i, j, rfl, rfl, hc, h⟩
theorem vEqI {i j : Int} (h : Q (.bl (decide (i = j))) H) : rEq (.int i) (.int j) H Q := ⟨rfl, by
  have e : decide (V.int i = V.int j) = decide (i = j) := by
    by_cases h : i = j
    · subst h; simp
    · rw [decide_eq_false h, decide_eq_false (fun e => h (V.int.inj e))]
  rw [e]; exact h⟩
theorem vEqB {i j : Bool} (h : Q (.bl (i == j)) H) : rEq (.bl i) (.bl j) H Q := ⟨rfl, by rw [dec_bl]; exact h⟩
theorem vIxL {p : Addr} {xs : List V} {i : Int} {v : V} (hp : H p = some (.lst xs)) (ha : atI xs i = some v) (h : Q v H) : rIx K (.ref p) (.int i) H Q := .inl ⟨p, xs, i, v, rfl, rfl, SqL.of hp, ha, h⟩
theorem vIxLs {p : Addr} {xs : List V} {i : Int} {v : V} (hp : SqL K H p xs) (ha : atI xs i = some v) (h : Q v H) : rIx K (.ref p) (.int i) H Q := .inl ⟨p, xs, i, v, rfl, rfl, hp, ha, h⟩
theorem vIxT {p : Addr} {xs : List V} {i : Int} {v : V} (hp : H p = some (.tup xs)) (ha : atI xs i = some v) (h : Q v H) : rIx K (.ref p) (.int i) H Q := .inr (.inl ⟨p, xs, i, v, rfl, rfl, SqT.of hp, ha, h⟩)
theorem vIxS {z : Str} {i : Int} {ch : Nat} (hz : z.length ≤ sizeLine) (ha : atI z.cps.toList i = some ch) (h : Q (.str ⟨#[ch]⟩) H) : rIx K (.str z) (.int i) H Q := .inr (.inr ⟨z, i, ch, rfl, rfl, hz, ha, h⟩)
theorem vSetL {p : Addr} {xs : List V} {k : Int} {v : V} {j : Nat} {QH : Hp → Prop} (hp : H p = some (.lst xs)) (hj : ixN xs.length k = some j) (h : QH (upd H p (.lst (xs.set j v)))) : rSetL (.ref p) (.int k) v H QH := ⟨p, xs, k, j, rfl, rfl, hp, hj, h⟩
theorem vEx {k : Bool} {P : Bool → Prop} (h : P k) : ∃ k', V.bl k = .bl k' ∧ P k' := ⟨k, rfl, h⟩
theorem vLeI {i j : Int} (h : Q (.bl (decide (i ≤ j))) H) : rLeU (.int i) (.int j) H Q := h
theorem vLeS {i j : Str} (h : Q (.bl (!decide (j.cps.toList < i.cps.toList))) H) : rLeU (.str i) (.str j) H Q := h
theorem vIsB {i j : Bool} (h : Q (.bl (i == j)) H) : rIsU (.bl i) (.bl j) H Q := h
theorem vAddI {i j : Int} (h : Q (.int (i + j)) H) : rAddU K (.int i) (.int j) H Q := h
theorem vAddS {i j : Str} (hz : i.length + j.length ≤ sizeLine) (h : Q (.str (i ++ j)) H) : rAddU K (.str i) (.str j) H Q := ⟨hz, h⟩
theorem vMulI {i j : Int} (hc : CMul i j) (h : Q (.int (i * j)) H) : rMulU (.int i) (.int j) H Q := ⟨hc, h⟩
theorem vLenS {z : Str} (hz : z.length ≤ sizeLine) (h : Q (.int z.length) H) : rLenU K [.str z] H Q := ⟨hz, h⟩
theorem vLenL {p : Addr} {ys : List V} (hp : H p = some (.lst ys)) (h : Q (.int ys.length) H) : rLenU K [.ref p] H Q := .inl ⟨ys, .inl (SqL.of hp), h⟩
theorem vLenLs {p : Addr} {ys : List V} (hp : SqL K H p ys) (h : Q (.int ys.length) H) : rLenU K [.ref p] H Q := .inl ⟨ys, .inl hp, h⟩
theorem vLenT {p : Addr} {ys : List V} (hp : H p = some (.tup ys)) (h : Q (.int ys.length) H) : rLenU K [.ref p] H Q := .inl ⟨ys, .inr (SqT.of hp), h⟩
theorem vSlS {z : Str} {lo hi : Option Int} (hz : z.length ≤ sizeLine) (h : Q (.str (Txt.slice z lo hi)) H) : rSlU K (.str z) lo hi H Q := ⟨hz, h⟩
theorem vSl {f : V → Option Int → Option Int → Hp → VK → Prop} {tl th : TO} (h : te σ H fun x H1 => tl σ H1 fun l H2 => th σ H2 fun u H3 => f x l u H3 Q) : tSl f te tl th σ H Q := h
theorem vNoPart {QO : Option Int → Hp → Prop} (h : QO none H) : tNoPart σ H QO := h
theorem vPart {QO : Option Int → Hp → Prop} (h : te σ H fun x H1 => ∃ i, x = .int i ∧ QO (some i) H1) : tPart te σ H QO := h
theorem vExI {i : Int} {P : Int → Prop} (h : P i) : ∃ j, V.int i = .int j ∧ P j := ⟨i, rfl, h⟩
theorem vBM {T : String} {f : V → List V → Hp → VK → Prop} (h : te σ H fun x H1 => tyV K T x H1 ∧ tas σ H1 fun xs H2 => f x xs H2 Q) : tBM K T f te tas σ H Q := h
theorem vBM0 {T : String} {f : V → List V → Hp → VK → Prop} (h : te σ H fun x H1 => tyV K T x H1 ∧ f x [] H1 Q) : tBM0 K T f te σ H Q := h
theorem vComp {wi : TI} {g : TG} {nl : Nat} {ixs : List Nat} (h : wi σ H fun J H1 => CompW J g c te (capS nl ixs σ) H1 Q) : tComp wi g c te nl ixs σ H Q := h
theorem vFor {wi : TI} {g : TG} (h : wi σ H fun J H1 => ∃ W : Nat → Nat → St → Hp → Prop, (∃ m, W 0 m σ H1) ∧ ∀ i m σ H, W i m σ H →
  (J.stop i H ∧ D.nx σ H) ∨ (J.go i H ∧ ∃ N : St → Hp → Prop, (∀ σ' H', N σ' H' → ∃ m', m' < m ∧ W (i + 1) m' σ' H') ∧ ∀ x H', J.yld i H x H' → g x σ H' fun σ2 H2 => t { D with nx := N, ct := N, bk := D.nx } σ2 H2)) : tFor wi g t D σ H := h
theorem vRng1 {R : It → Hp → Prop} (h : tas σ H fun vs H1 => ∃ j : Int, vs = [.int j] ∧ -(2 ^ 62) ≤ j ∧ j < 2 ^ 62 ∧ R (Itr 0 j.toNat) H1) : iRng1 tas σ H R := h
theorem vAny {R : It → Hp → Prop} (h : te σ H fun v H1 => match v with
  | .str x => R (Its x) H1
  | .ref a => ((∃ xs, SqL K H1 a xs) ∧ R (Itl K a) H1) ∨ ((∃ xs, SqT K H1 a xs) ∧ R (Itt K a) H1)
  | _ => False) : iAny K te σ H R := h
theorem vGN {i : Nat} {v : V} {QS : St → Hp → Prop} (h : QS (σ.set i (some v)) H) : gName i v σ H QS := h
theorem atI_lt {α : Type} {xs : List α} {i : Int} (h0 : 0 ≤ i) (h1 : i < xs.length) : ∃ v, atI xs i = some v ∧ xs[i.toNat]? = some v := by
  obtain ⟨n, rfl⟩ := Int.eq_ofNat_of_zero_le h0
  have hn : n < xs.length := by omega
  exact ⟨xs[n], atI_nat (by simp [hn]), by simp [hn]⟩
end
section
variable {X : Cx} {K : PySem.W.Frag} {o e : Expr} {es : List Expr} {to ta : TE} {t : TA} {name f : Str} {apos cpos pos : Pos} {T id : String} {r : V → List V → Hp → VK → Prop} {tg : Expr}
theorem k_len (hK : X.K = K) : CallR X (.builtin "len") (rLenU K) := by subst hK; exact call_lenU
theorem k_all (hK : X.K = K) (hc : X.calm = true) : CallR X (.builtin "all") (rAll K) := by subst hK; exact call_all hc
theorem k_sl (hK : X.K = K) : SlR X (rSlU K) := by subst hK; exact u_sl
theorem k_add (hK : X.K = K) : OpR X (binaryOp .Add) (rAddU K) := by subst hK; exact u_add
theorem k_join (hK : X.K = K) : MtR X "str.join" (rJoin K) := by subst hK; exact mt_join
theorem ki_any (hK : X.K = K) (he : PE X e ta) (htg : ∀ it v, letOwnedTupleGo tg it v = pure () := by intro _ _; rfl) : PI X tg e (iAny K ta) := by subst hK; exact pi_any he htg
theorem k_bm (hK : X.K = K) (pa : PlainAttrs T) (slot : Slot T name id) (hty : typeOf (.builtin id) = pure (.type "method_descriptor")) (hm : MtR X id r) (ho : PE X o to) (ha : PA X (e :: es) t)
    (hbase : attributeBase o name X.env (eval o X.env) = eval o X.env := by rfl)
    (hfew : ((backTo cpos (starEach (e :: es) X.env)).all (fun x => !x.1) && (backToKw cpos (keywordEach [] X.env)).all (fun x => x.1.isSome)
      && decide ((e :: es).length + ([] : List Keyword).length + (if ([] : List Keyword).isEmpty then 0 else 1) < 30)) = true := by rfl)
    (hline : (apos.endLine == cpos.line) = true := by rfl) (hs : starEach (e :: es) X.env = (false, eval e X.env) :: starEach es X.env := by rfl) (hplain : (backTo cpos (starEach es X.env)).any (·.1) = false := by rfl) :
    PE X (.Call (.Attribute o name apos) (e :: es) [] cpos) (tBM K T r to t) := by
  subst hK
  exact pe_bm pa slot hty hm ho ha hbase hfew hline hs hplain
end
structure DefOk (P : Program) (w : World) (K : PySem.W.Frag) (mg : Str → Option Value) (base : Heap) (CX : CXT) (k : Nat) (x : Str) (ps : List Str) (sp : Sp) : Prop where
  ex : ∃ f fd, FnOk P w K mg base CX k f fd ps sp ∧ mg x = some (.ref f) ∧ PySem.W.keepIn K (.ref f) = true ∧ Binds K fd ps []
section
variable {X : Cx} {CX : CXT} {k : Nat} {ps : List Str} {sp : Sp} {E : XK} {x : Str} {p pos : Pos} {e : Expr} {es : List Expr} {t : TA}
theorem pe_def (D : DefOk X.prog X.w X.K X.mg X.base CX k x ps sp) (hr : Room k X.A) (hx : Passes CX X E) (ha : PA X (e :: es) t) (hg : Gl X x := by rfl) (hdb : (x == ("__debug__" : Str)) = false := by decide)
    (he : starEach (e :: es) X.env = (false, eval e X.env) :: starEach es X.env := by rfl) (hpl : (backTo pos (starEach es X.env)).any (·.1) = false := by rfl) : PE X (.Call (.Name x p) (e :: es) [] pos) (tCall sp [] E t) := by
  obtain ⟨f, fd, F, hm, hk, hb⟩ := D.ex
  exact pe_call F hr hg hm hk hb .nil hx ha hdb he hpl
theorem pe_globI {i : Int} (hg : Gl X x) (hm : ∃ tk, X.mg x = some (.int i tk)) (hd : (x == ("__debug__" : Str)) = false := by decide) : PE X (.Name x pos) (tC (.int i)) := by
  obtain ⟨tk, hm⟩ := hm
  exact pe_glob hg hm ⟨tk, rfl⟩ hd
end
def isaT (t c : String) : Bool := t == c || (t == "bool" && c == "int")
theorem kit_tab (K : PySem.W.Frag) : ∀ t ∈ ["NoneType", "bool", "int", "str", "list", "tuple", "dict"], ∀ c ∈ ["bool", "int", "str", "list", "tuple", "dict"], PySem.W.kitOne K (.type t) (.type c) = some (isaT t c) := by
  intro t ht c hc
  simp only [List.mem_cons, List.not_mem_nil, or_false] at ht hc
  rcases ht with rfl | rfl | rfl | rfl | rfl | rfl | rfl <;> rcases hc with rfl | rfl | rfl | rfl | rfl | rfl <;> rfl
end L2
namespace L2
open PySem PySem.Spec PyProof.Rows
def xMro : List Value → Bool
  | [.type a, .type b, .type c, .type d] => a == "ValueError" && b == "Exception" && c == "BaseException" && d == "object"
  | .ref _ :: r => xMro r
  | _ => false
def xcIn (K : PySem.W.Frag) (C : Addr) : Bool := match K.lookup C with
  | some ⟨.type "type", _, .cls cd, sl⟩ => (match cd.mro, sl.toList with
    | .ref D :: bm, [_, _, _, _, some (.builtin n), _] => D == C && !cd.hasDel && xMro bm && n == "ValueError.__new__"
    | _, _ => false)
  | _ => false
theorem xc_cls {K : PySem.W.Frag} {h : Heap} {C : Addr} (X : K.In h) (q : xcIn K C = true) : ∃ nm qn N bs bm hdct sn sub ab col dd k0 k1 k2 k3 k5,
    h.get? C = some (excClassObj nm qn C N bs bm hdct sn sub ab col dd k0 k1 k2 k3 k5 "ValueError.__new__") ∧ xMro bm = true := by
  unfold xcIn at q
  split at q
  · rename_i dd cd sl ho
    split at q
    · rename_i D bm k0 k1 k2 k3 n k5 hm hs
      simp only [Bool.and_eq_true, beq_iff_eq, Bool.not_eq_true'] at q
      obtain ⟨⟨⟨e1, e2⟩, e3⟩, e4⟩ := q
      subst e1 e4
      obtain ⟨nm, bs, mro, ns, qn, hd, sn, sub, ab, col, del⟩ := cd
      dsimp only at hm e2
      subst hm e2
      obtain ⟨l⟩ := sl
      dsimp only at hs
      subst hs
      exact ⟨nm, qn, ns, bs, bm, hd, sn, sub, ab, col, dd, k0, k1, k2, k3, k5, X _ _ ho, e3⟩
    · cases q
  · cases q
structure XAt (K : PySem.W.Frag) (C : Addr) : Prop where
  ga : PySem.W.findIn K (.ref C) "__getattribute__" = some (some (.builtin "BaseException.__getattribute__"))
  gn : PySem.W.findIn K (.ref C) "__getattr__" = some none
  bx : PySem.W.mroIn K C (.type "BaseException") = some true
  ob : PySem.W.mroIn K C (.type "object") = some true
  hd : PySem.W.hasDictIn K C = true
  cl : PySem.W.findIn K (.ref C) "__class__" = some (some (.builtin "object.__class__"))
  cg : PySem.W.specialIn K (.builtin "object.__class__") "__get__" = some (some (.builtin "getset_descriptor.__get__"))
  ct : PySem.W.takesIn K (.builtin "object.__class__") = some true
  sa : PySem.W.findIn K (.ref C) "__setattr__" = some (some (.builtin "object.__setattr__"))
  mr : (PySem.W.clsIn K C).any (fun cd => xMro cd.mro) = true
  xc : xcIn K C = true
theorem bexc_ga_slot : Slot "ValueError" "__getattribute__" "BaseException.__getattribute__" := PySem.F.attr_ValueError.ga
section
variable {prog : Program} {w : World} {A : Around} {E : Value → Shared → Prop} {s : Shared} {K : PySem.W.Frag} {x C : Addr} {ox : Obj} {od : Option Obj} {name : Str} {v : Value}
theorem xga_value {tk : Tok} {Q : Fin → Shared → Prop} (X : K.In s.heap) (I : PySem.W.InstAt s.heap x ox C od) (hf : PySem.W.findObj K C od name = some (.value v)) (h : Q (.done (.ret v)) s) :
    wpAny (model prog w) A (Builtin.«object.__getattribute__» ⟨[.ref x, .str name tk], []⟩) Q E s := by
  have F := PySem.W.looks_find (M := model prog w) X I hf
  refine wpAny_bind (wpAny_pure (wpAny_bind (wpAny_pure (wpAny_bind (I.type.here (wpAny_bind (F.here ?_)))))))
  exact wpAny_pure h
theorem xga_call {tk : Tok} {R : Result → Shared → Prop} (X : K.In s.heap) (I : PySem.W.InstAt s.heap x ox C od) (hb : PySem.W.mroIn K C (.type "BaseException") = some true)
    (h : wpAny (model prog w) A.in1 (Builtin.«object.__getattribute__» ⟨[.ref x, .str name tk], []⟩) (fun fin s' => match fin with | .done f => R (.ok f) s' | .again c' => c'.quiet = true ∧ codeAny (model prog w) A c' R s') (fun e s' => R (.error e) s') s) :
    codeAny (model prog w) A (.call (.builtin "BaseException.__getattribute__") ⟨[.ref x, .str name tk], []⟩) R s := by
  refine codeAny_call_builtin bexc_ga_slot.plain PySem.F.entry_bexc_ga ?_
  exact @PySem.W.check_slot (model prog w) _ _ s "BaseException.__getattribute__" "BaseException" "__getattribute__" (.ref x) [.str name tk] [] _ (by decide +kernel) (by decide +kernel) (I.type.andThen (PySem.W.looks_mroIn X hb)) (PySem.F.args_bexc_ga _ _) h
theorem xget_by {fill expr : Bool} {tk : Tok} {Q : Value → Shared → Prop} (X : K.In s.heap) (I : PySem.W.InstAt s.heap x ox C od) (c : XAt K C)
    (h : wpAny (model prog w) A.in1 (Builtin.«object.__getattribute__» ⟨[.ref x, .str name tk], []⟩) (fun fin s' => match fin with | .done (.ret v) => wpAny (model prog w) A (handedOut v) Q E s' | _ => False) (fun _ _ => False) s) :
    wpAny (model prog w) A (getAttrBy (.ref x) (.str name tk) fill expr) Q E s := by
  unfold getAttrBy
  refine wpAny_holding (wpAny_bind (I.type.here (wpAny_bind ((PySem.W.looks_findIn X c.ga).here ?_))))
  have e1 : (onTheHeap (Value.ref C) && Value.builtin "BaseException.__getattribute__" == Value.builtin "object.__getattribute__") = false := by
    rw [show (Value.builtin "BaseException.__getattribute__" == Value.builtin "object.__getattribute__") = false by decide +kernel]
    rfl
  dsimp only
  rw [e1, if_neg (by decide)]
  unfold getAttrByItsOwn hookBefore
  rw [if_pos (show onTheHeap (Value.ref C) = true from rfl)]
  refine wpAny_bind ((PySem.W.looks_findIn X c.gn).here (wpAny_bind (wpAny_attempt (wpAny_holding ?_))))
  have e2 : (expr && onTheHeap (Value.builtin "BaseException.__getattribute__")) = false := by cases expr <;> rfl
  unfold callGetattribute
  rw [e2, if_neg (by decide)]
  unfold boundAndCalled
  rw [bexc_ga_slot.bind]
  refine wpAny_bind (wpAny_pure ?_)
  show wpAny _ _ (call (.builtin "BaseException.__getattribute__") [.ref x, .str name tk]) _ _ _
  refine wpAny_call (xga_call X I c.bx (wpAny_mono h (fun fin s' z => ?_) fun _ _ z => z.elim))
  rcases fin with (_ | _ | _ | _) | _ <;> first | exact z | exact z.elim
theorem xget {expr : Bool} {Q : Value → Shared → Prop} (X : K.In s.heap) (I : PySem.W.InstAt s.heap x ox C od) (c : XAt K C) (hf : PySem.W.findObj K C od name = some (.value v)) (hh : PySem.W.handedIn v = true)
    (h : Q v { s with toks := s.toks + 1 }) : wpAny (model prog w) A (getAttr (.ref x) name expr) Q E s := by
  unfold getAttr
  refine wpAny_bind (wpAny_mkText (xget_by (s := { s with toks := s.toks + 1 }) X I c (xga_value (s := { s with toks := s.toks + 1 }) X I hf ?_)))
  show wpAny _ _ (handedOut v) _ _ _
  rw [PySem.W.handedOut_of hh]
  exact wpAny_pure h
theorem xclass {Q : Option Value → Shared → Prop} (X : K.In s.heap) (I : PySem.W.InstAt s.heap x ox C od) (c : XAt K C) (hf : PySem.W.findObj K C od "__class__" = some (.bind (.builtin "getset_descriptor.__get__") (.builtin "object.__class__")))
    (h : Q (some (.ref C)) { s with toks := s.toks + 1 }) : wpAny (model prog w) A (getAttr? (.ref x) "__class__") Q E s := by
  unfold getAttr? getAttrBy?
  refine wpAny_bind (wpAny_mkText (wpAny_bind (wpAny_attempt (xget_by (s := { s with toks := s.toks + 1 }) X I c ?_))))
  have F := PySem.W.looks_find (M := model prog w) X I hf
  refine wpAny_bind (wpAny_pure (wpAny_bind (wpAny_pure (wpAny_bind (I.type.here (s := { s with toks := s.toks + 1 }) (wpAny_bind (F.here (s := { s with toks := s.toks + 1 }) ?_)))))))
  show wpAny _ _ (holding [Value.builtin "object.__class__"] (call (.builtin "getset_descriptor.__get__") [.builtin "object.__class__", .ref x, .ref C]) >>= ret) _ _ _
  refine wpAny_bind (wpAny_holding (wpAny_call (PySem.W.class_get (s := { s with toks := s.toks + 1 }) X I c.ob ?_)))
  refine wpAny_pure ?_
  show wpAny _ _ (handedOut (.ref C)) _ _ _
  exact wpAny_pure (wpAny_pure h)
theorem findObj_class (c : XAt K C) : PySem.W.findObj K C od "__class__" = some (.bind (.builtin "getset_descriptor.__get__") (.builtin "object.__class__")) := by
  obtain ⟨cd, hc, _⟩ := PySem.W.any_some c.hd
  unfold PySem.W.findObj
  rw [hc, Option.bind_some, c.cl, Option.bind_some]
  simp [c.cg, c.ct]
theorem kitx_exc {od : Option Obj} (c : XAt K C) : PySem.W.KitX K (.ref x) (.ref C) (fun h => PySem.W.InstAt h x ox C od) where
  ty := fun _ _ _ I => I.type
  it := fun _ _ X _ => by
    obtain ⟨cd, hc, _⟩ := PySem.W.any_some c.hd
    unfold PySem.W.clsIn at hc
    split at hc
    · rename_i c1 d1 cd1 sl1 ho
      intro A' Q' E' s' k q
      unfold isType loadHead
      exact wpAny_bind (wpAny_loadPart (k _ _ (X _ _ ho)) (wpAny_pure q))
    · cases hc
  ne := fun h tp dd its n sl X htp => by
    obtain ⟨cd, hc, _⟩ := PySem.W.any_some c.hd
    refine Bool.eq_false_iff.mpr fun q => ?_
    have e : C = tp := Value.ref.inj (beq_iff_eq.mp q)
    subst e
    unfold PySem.W.clsIn at hc
    split at hc
    · rename_i c1 d1 cd1 sl1 ho
      have z := (X _ _ ho).symm.trans htp
      cases z
    · cases hc
  ca := fun X I k => xclass X I c (findObj_class c) k
end
end L2
namespace L2
open PySem PySem.Spec PyProof.Rows
theorem xMro_cons {c : Addr} {r : List Value} (e : xMro (.ref c :: r) = true) : xMro r = true := by
  cases r with
  | nil => cases e
  | cons a r => exact e
theorem xMro_line : ∀ {l : List Value}, xMro l = true → ∃ rs : List Addr, l = rs.map Value.ref ++ [.type "ValueError", .type "Exception", .type "BaseException", .type "object"]
  | [], e => by cases e
  | .ref c :: r, e => by
    obtain ⟨rs, q⟩ := xMro_line (xMro_cons e)
    exact ⟨c :: rs, by rw [q]; rfl⟩
  | .type a :: r, e => by
    match r, e with
    | [.type b, .type c, .type d], e =>
      simp only [xMro, Bool.and_eq_true, beq_iff_eq] at e
      obtain ⟨⟨⟨rfl, rfl⟩, rfl⟩, rfl⟩ := e
      exact ⟨[], rfl⟩
theorem refuse_exc (self : Value) {l : List Value} (e : xMro l = true) : refuseLoop self "__setattr__" l = pure () := by
  obtain ⟨rs, rfl⟩ := xMro_line e
  induction rs with
  | nil => exact PySem.F.store_ValueError.passes self
  | cons c rs ih => rw [List.map_cons, List.cons_append, refuseLoop_ref]; exact ih (xMro_cons e)
theorem xMro_has {l : List Value} (e : xMro l = true) {T : String} (h : T ∈ ["ValueError", "Exception", "BaseException", "object"]) : l.contains (.type T) = true := by
  obtain ⟨rs, rfl⟩ := xMro_line e
  rw [List.contains_iff_mem]
  refine List.mem_append_right _ ?_
  simp only [List.mem_cons, List.not_mem_nil, or_false] at h ⊢
  rcases h with rfl | rfl | rfl | rfl <;> simp
section
variable {prog : Program} {w : World} {A : Around} {E : Value → Shared → Prop} {s : Shared} {K : PySem.W.Frag} {x C : Addr} {name : Str} {v : Value} {R : Result → Shared → Prop}
theorem xosa {tk : Tok} {ox : Obj} {od : Option Obj} (X : K.In s.heap) (I : PySem.W.InstAt s.heap x ox C od) (c : XAt K C) (n : NoAttr K C name)
    (h : wpAny (model prog w) A.in1 (Builtin.ObjectAttr.storeInOwnDict (.ref x) (.ref C) (.str name tk) name v false)
      (fun fin s' => match fin with | .done f => R (.ok f) s' | .again c' => c'.quiet = true ∧ codeAny (model prog w) A c' R s') (fun e s' => R (.error e) s') s) :
    codeAny (model prog w) A (.call (.builtin "object.__setattr__") ⟨[.ref x, .str name tk, v], []⟩) R s := by
  have SF := PySem.F.store_object
  obtain ⟨cd, hc, ho⟩ := PySem.W.any_some c.mr
  have hm : PySem.W.Looks (model prog w) s.heap (mroOf (.ref C)) cd.mro := (PySem.W.looks_clsIn X hc).andThen .now
  refine codeAny_call_builtin SF.slot.plain SF.entry (@PySem.W.check_slot (model prog w) _ _ s "object.__setattr__" "object" "__setattr__" (.ref x) [.str name tk, v] [] _ SF.kind SF.split (I.type.andThen (PySem.W.looks_mroIn X c.ob)) (SF.args (.ref x) (.str name tk) v) ?_)
  rw [PySem.W.osa_eq, refuse_eq]
  refine wpAny_bind (wpAny_bind (I.type.here (wpAny_bind (hm.here ?_))))
  rw [refuse_exc _ ho]
  refine wpAny_pure (wpAny_bind (I.type.here (wpAny_bind ((PySem.W.looks_findIn X n).here (wpAny_bind (wpAny_pure ?_))))))
  exact h
theorem xset {vs : Array Value} (X : K.In s.heap) (hx : s.heap.get? x = some ⟨.ref C, none, .fields vs, #[]⟩) (c : XAt K C) (n : NoAttr K C name) {Q : Unit → Shared → Prop}
    (h : ∀ h', h'.get? x = some ⟨.ref C, some s.heap.objs.size, .fields vs, #[]⟩ → h'.Ns1 s.heap.objs.size (fun y => if y = name then some v else none) → (∀ b o, b ≠ x → s.heap.get? b = some o → h'.get? b = some o) →
      Q () { s with heap := h', toks := s.toks + 2 }) : wpAny (model prog w) A (setAttr (.ref x) name v) Q E s := by
  have I : PySem.W.InstAt s.heap x ⟨.ref C, none, .fields vs, #[]⟩ C none := ⟨hx, rfl, rfl, True.intro⟩
  obtain ⟨cd, hc, hd⟩ := PySem.W.any_some c.hd
  refine PySem.W.set_plain X I c.sa (xosa (s := { s with toks := s.toks + 1 }) X I c n ?_)
  refine wpAny_bind (wpAny_pure (wpAny_bind (wpAny_bind (wpAny_loadPart hx (wpAny_bind ((PySem.W.looks_clsIn X hc).here (s := { s with toks := s.toks + 1 }) ?_))))))
  rw [hd]
  obtain ⟨hh, g, dr, tk, os⟩ := s
  show wpAny _ _ (alloc { cls := .type "dict", data := .dict #[] } >>= fun d => update x (fun o => { cls := o.cls, dict := some d, data := o.data, slots := o.slots }) >>= fun _ => pure (some d)) _ _ _
  have hxs : x ≠ hh.objs.size := Nat.ne_of_lt (Heap.lt_size hx)
  have hx1 := Heap.get?_push_of_some { cls := .type "dict", data := .dict #[] } hx
  refine wpAny_bind (wpAny_alloc' (wpAny_bind (wpAny_update' hx1 (wpAny_pure ?_))))
  have hx2 := Heap.get?_update_self (fun o : Obj => { cls := o.cls, dict := some hh.objs.size, data := o.data, slots := o.slots }) hx1 rfl
  have hd2 := (Heap.get?_update_ne (hh.push { cls := .type "dict", data := .dict #[] }) hh.objs.size x (fun o : Obj => { cls := o.cls, dict := some hh.objs.size, data := o.data, slots := o.slots }) hxs.symm).trans (Heap.get?_push_at rfl rfl)
  generalize hg : (hh.push { cls := .type "dict", data := .dict #[] }).update x (fun o : Obj => { cls := o.cls, dict := some hh.objs.size, data := o.data, slots := o.slots }) = h2 at hx2 hd2 ⊢
  have nd : h2.Ns hh.objs.size (fun _ => none) := ⟨_, #[], _, hd2, rfl, fun e he => absurd he (by simp), fun _ => rfl⟩
  show wpAny _ _ (Builtin.ObjectAttr.storeInDict hh.objs.size (.str name tk) name v) _ _ _
  unfold Builtin.ObjectAttr.storeInDict Builtin.ObjectAttr.newKeyGuard
  refine wpAny_bind (wpAny_pure (wpAny_bind (wpAny_nsSet1 (Heap.Ns1.of_empty nd) fun h' n2 sb => ?_)))
  obtain ⟨oD, esD, epD, hoD, hdD, hcD⟩ := n2.count (PySem.Within.cons name v PySem.Within.nil)
  have hz : esD.size ≤ sizeLine := Nat.le_trans hcD (by rw [List.length_cons, List.length_nil, sizeLine_eq]; omega)
  refine wpAny_bind (wpAny_lookBehind hoD (by rw [hdD]; exact pastItsLine_dict (Nat.le_succ_of_le hz)) ?_)
  refine wpAny_pure (h h' ((sb.2 x hxs).trans hx2) n2 fun b o hb e => (sb.2 b (Nat.ne_of_lt (Heap.lt_size e))).trans ?_)
  rw [← hg]
  exact (Heap.get?_update_ne _ _ _ _ hb).trans (Heap.get?_push_of_some _ e)
theorem ve_check {M : Model} {ox : Obj} {u : Value} {Q : Unit → Shared → Prop} (X : K.In s.heap) (c : XAt K C) (hx : s.heap.get? x = some ox) (hcls : ox.cls = .ref C) (q : Q () s) :
    wpAny M A (checkBuiltinCall "ValueError.__init__" ⟨[.ref x, u], []⟩) Q E s := by
  have F := PySem.F.excBase_ValueError
  have hshort := F.noStar
  obtain ⟨nm, qn, N, bs, bm, hdct, sn, sub, ab, col, dd, k0, k1, k2, k3, k5, hC, hm⟩ := xc_cls X c.xc
  have hcB : (Value.ref C :: bm).contains (.type "ValueError") = true := by rw [List.contains_cons, xMro_has hm (by simp), Bool.or_true]
  obtain ⟨hh, g, dr, tk, os⟩ := s
  simp only [checkBuiltinCall, F.initKind, F.initSplit, F.initRow]
  repeat (first | (with_reducible refine wpAny_loadPart_at hx ?_; rw [hcls]) | with_reducible refine wpAny_loadPart_at hC ?_ | (with_reducible refine wpAny_isSubtype_exc hC ?_; rw [hcB]) | wp_step)
  exact q
abbrev xfs (a0 : Addr) : Array Value := #[.ref a0, .none, .none, .none, .bool false, .none]
theorem xbase_init {a0 : Addr} {u : Value} (X : K.In s.heap) (hx : s.heap.get? x = some ⟨.ref C, none, .fields (xfs a0), #[]⟩) (c : XAt K C) {Q : Value → Shared → Prop}
    (h : ∀ h' a1, h'.get? x = some ⟨.ref C, none, .fields (xfs a1), #[]⟩ → (∀ b o, b ≠ x → s.heap.get? b = some o → h'.get? b = some o) → Q .none { s with heap := h' }) :
    wpAny (model prog w) A (call (.builtin "ValueError.__init__") [.ref x, u]) Q E s := by
  have F := PySem.F.excBase_ValueError
  refine wpAny_call (codeAny_call_builtin F.init.plain F.initEntry (ve_check X c hx rfl ?_))
  obtain ⟨hh, g, dr, tk, os⟩ := s
  wp_walk
  refine h _ hh.objs.size ?_ fun b o hb e => ?_
  · rw [Heap.get?_update_self _ (Heap.get?_push_of_some _ hx) rfl]
    rfl
  · rw [Heap.get?_update_other _ _ (Ne.symm hb)]
    exact Heap.get?_push_of_some _ e
end
end L2
namespace L2
open PySem PySem.Spec PyProof.Rows
theorem xMro_not {l : List Value} (e : xMro l = true) {T : String} (h : T ∉ ["ValueError", "Exception", "BaseException", "object"]) : l.contains (.type T) = false := by
  obtain ⟨rs, rfl⟩ := xMro_line e
  refine Bool.eq_false_iff.mpr fun q => ?_
  rcases List.mem_append.mp (List.contains_iff_mem.mp q) with z | z
  · obtain ⟨a, _, q⟩ := List.mem_map.mp z
    cases q
  · simp only [List.mem_cons, List.not_mem_nil, or_false, Value.type.injEq] at z h
    exact h z
section
variable {prog : Program} {w : World} {A : Around} {R : Result → Shared → Prop} {E : Value → Shared → Prop} {h : Heap} {g : Array GenState} {d : Drawn} {t : Nat} {os : OsState}
variable {nm q : Str} {C N : Addr} {bs bm : List Value} {hdct : Bool} {sn : List Str} {sub : List Value} {ab : Bool} {col : Option Bool} {dd : Option Addr} {k0 k1 k2 k3 k5 : Option Value}
theorem xnew_check {M : Model} {rest : List Value} {Q : Unit → Shared → Prop} (hC : h.get? C = some (excClassObj nm q C N bs bm hdct sn sub ab col dd k0 k1 k2 k3 k5 "ValueError.__new__")) (hm : xMro bm = true) (hq : Q () ⟨h, g, d, t, os⟩) :
    wpAny M A (checkBuiltinCall "ValueError.__new__" ⟨.ref C :: rest, []⟩) Q E ⟨h, g, d, t, os⟩ := by
  have F := PySem.F.excBase_ValueError
  have hcont : (Value.ref C :: bm).contains (.type "ValueError") = true := by rw [List.contains_cons, xMro_has hm (by simp), Bool.or_true]
  have hstar := F.noStar
  simp only [checkBuiltinCall, F.newKind, F.newSplit, F.newRow]
  repeat (first | refine wpAny_loadPart_at hC ?_ | (refine wpAny_isSubtype_exc hC ?_; rw [hcont]) | refine wpAny_staticBase_exc hC ?_ | refine wpAny_madeBy_exc hC ?_ | simp only [bne_self_eq_false, Bool.false_eq_true, if_false] | wp_step)
  exact hq
theorem xnew {rest : List Value} (hC : h.get? C = some (excClassObj nm q C N bs bm hdct sn sub ab col dd k0 k1 k2 k3 k5 "ValueError.__new__")) (hm : xMro bm = true) (hrest : rest.length ≤ sizeLine)
    (hq : R (.ok (.ret (.ref (h.objs.size + 1)))) ⟨(h.push { cls := .type "tuple", data := .seq rest.toArray }).push { cls := .ref C, data := .fields (xfs h.objs.size) }, g, d, t, os⟩) :
    codeAny (model prog w) A (.builtin "ValueError.__new__" ⟨.ref C :: rest, []⟩) R ⟨h, g, d, t, os⟩ := by
  have F := PySem.F.excBase_ValueError
  have hends := F.ends
  have hcB : (Value.ref C :: bm).contains (.type "ValueError") = true := by rw [List.contains_cons, xMro_has hm (by simp), Bool.or_true]
  have hcA : (Value.ref C :: bm).contains (.type "AttributeError") = false := by rw [List.contains_cons, xMro_not hm (by simp)]; rfl
  have hcN : (Value.ref C :: bm).contains (.type "NameError") = false := by rw [List.contains_cons, xMro_not hm (by simp)]; rfl
  refine codeAny_builtinAt F.entry ?_
  unfold Builtin.«BaseException.__new__»
  refine PySem.wpAt_bind ?_
  show PySem.wpAt _ _ _ (stack >>= _) _ _ _
  refine PySem.wpAt_bind (PySem.wpAt_stack fun p0 below0 => PySem.wpAt_of_wpAny ?_)
  wp_walk
  refine PySem.wpAt_of_wpAny ?_
  rw [F.owner]
  repeat (first | with_reducible refine wpAny_madeHere_exc F.canon hC ?_ | with_reducible refine wpAny_loadPart_at hC ?_ | (with_reducible refine wpAny_isSubtype_exc hC ?_; first | rw [hcB] | rw [hcA] | rw [hcN]) | wp_step)
  show R _ _
  rw [Heap.size_push]
  exact hq
theorem xtype_call {K : PySem.W.Frag} {f : Addr} {rest : List Value} {Q : Fin → Shared → Prop} (X : K.In h) (hC : h.get? C = some (excClassObj nm q C N bs bm hdct sn sub ab col dd k0 k1 k2 k3 k5 "ValueError.__new__")) (hm : xMro bm = true)
    (hi : PySem.W.findIn K (.ref C) "__init__" = some (some (.ref f))) (hf : PySem.W.isFn K (.ref f) = true) (hrest : rest.length ≤ sizeLine)
    (hq : wpAny (model prog w) A (call (.ref f) (.ref (h.objs.size + 1) :: rest)) (fun r s' => r = .none ∧ Q (.done (.ret (.ref (h.objs.size + 1)))) s') E
      ⟨(h.push { cls := .type "tuple", data := .seq rest.toArray }).push { cls := .ref C, data := .fields (xfs h.objs.size) }, g, d, t, os⟩) :
    wpAny (model prog w) A (Builtin.«type.__call__» ⟨.ref C :: rest, []⟩) Q E ⟨h, g, d, t, os⟩ := by
  have F := PySem.F.excBase_ValueError
  repeat (first | with_reducible refine wpAny_loadPart_at hC ?_ | with_reducible refine wpAny_madeBy_exc hC ?_ | wp_step)
  refine codeAny_call_builtin_code (Code.quiet_builtin _ F.quiet) (xnew_check hC hm (xnew hC hm hrest ?_))
  show wpAny _ _ _ _ _ _
  have up : ∀ b o, h.get? b = some o → ((h.push { cls := .type "tuple", data := .seq rest.toArray }).push { cls := .ref C, data := .fields (xfs h.objs.size) }).get? b = some o := fun b o e => Heap.get?_push_of_some _ (Heap.get?_push_of_some _ e)
  have hC1 := up _ _ hC
  have hget : ((h.push { cls := .type "tuple", data := .seq rest.toArray }).push { cls := .ref C, data := .fields (xfs h.objs.size) }).get? (h.objs.size + 1) = some { cls := .ref C, data := .fields (xfs h.objs.size) } := Heap.get?_push_at (by rw [Heap.size_push]) rfl
  have X1 : K.In ((h.push { cls := .type "tuple", data := .seq rest.toArray }).push { cls := .ref C, data := .fields (xfs h.objs.size) }) := X.keeps up
  have hcC : (Value.ref C :: bm).contains (.ref C) = true := by simp
  unfold isInstance
  repeat (first | with_reducible refine wpAny_loadPart_at hget ?_ | (with_reducible refine wpAny_isSubtype_exc hC1 ?_; rw [hcC]) | wp_step)
  show wpAny _ _ (typeLookup (.ref C) _) _ _ _
  refine (PySem.W.looks_findIn X1 hi).at (wpAny_holding (wpAny_bind ((PySem.W.bind_fn X1 _ (beq_iff_eq.mp hf)).at (wpAny_bind (wpAny_mono hq (fun r s' hr => ?_) fun _ _ z => z)))))
  obtain ⟨rfl, hQ⟩ := hr
  wp_walk
  exact hQ
theorem xcall {K : PySem.W.Frag} {f : Addr} {rest : List Value} {s : Shared} {Q : Value → Shared → Prop} (X : K.In s.heap) (c : XAt K C) (hi : PySem.W.findIn K (.ref C) "__init__" = some (some (.ref f))) (hf : PySem.W.isFn K (.ref f) = true) (hrest : rest.length ≤ sizeLine)
    (hq : wpAny (model prog w) (A.under (.builtin "type.__call__" ⟨.ref C :: rest, []⟩)) (call (.ref f) (.ref (s.heap.objs.size + 1) :: rest)) (fun r s' => r = .none ∧ Q (.ref (s.heap.objs.size + 1)) s') E
      { s with heap := (s.heap.push { cls := .type "tuple", data := .seq rest.toArray }).push { cls := .ref C, data := .fields (xfs s.heap.objs.size) } }) :
    wpAny (model prog w) A (call (.ref C) rest) Q E s := by
  obtain ⟨nm, qn, N, bs, bm, hdct, sn, sub, ab, col, dd, k0, k1, k2, k3, k5, hC, hm⟩ := xc_cls X c.xc
  obtain ⟨h, g, d, t, os⟩ := s
  have f1 := tc_lookup
  have f2 := tc_bind (.ref C)
  have hT : (⟨h, g, d, t, os⟩ : Shared).TypeIs (.ref C) "type" := ⟨_, hC, rfl⟩
  refine wpAny_call (codeAny_of_tree ?_)
  show wpAny _ _ (callAny (.ref C) _) _ _ _
  repeat (any_goals (first | assumption | with_reducible refine wpAny_loadPart_at hC ?_ | wp_step))
  refine ⟨rfl, ?_⟩
  exact codeAny_call_builtin_at (Code.quiet_builtin _ (by decide +kernel)) entry_typeCall (wpAny_check_type_call_sub hC (xtype_call X hC hm hi hf hrest hq))
end
end L2
namespace L2
open PySem PySem.Spec PyProof.Rows
def XN (e C : Addr) (dx : Option Addr) : HO := .ext fun h => ∃ a0, h.get? e = some ⟨.ref C, dx, .fields (xfs a0), #[]⟩
def XO (e C : Addr) (dx : Option Addr) : HO := .ext fun h => ∃ vs, h.get? e = some ⟨.ref C, dx, .fields vs, #[]⟩
theorem XN.ok {P : Program} {w : World} {H : Hp} {h : Heap} {e C a0 : Addr} {dx : Option Addr} (q : h.get? e = some ⟨.ref C, dx, .fields (xfs a0), #[]⟩) : ObjOk P w H h e (XN e C dx) :=
  ⟨⟨a0, q⟩, ⟨_, q⟩, fun _ _ ⟨a, x⟩ k => ⟨a, k _ x⟩⟩
theorem XO.ok {P : Program} {w : World} {H : Hp} {h : Heap} {e C : Addr} {vs : Array Value} {dx : Option Addr} (q : h.get? e = some ⟨.ref C, dx, .fields vs, #[]⟩) : ObjOk P w H h e (XO e C dx) :=
  ⟨⟨vs, q⟩, ⟨_, q⟩, fun _ _ ⟨a, x⟩ k => ⟨a, k _ x⟩⟩
def IsX (H : Hp) (e C : Addr) (dx : Option Addr) : Prop := H e = some (XN e C dx) ∨ H e = some (XO e C dx)
theorem IsX.get {P : Program} {w : World} {H : Hp} {h : Heap} {e C : Addr} {dx : Option Addr} (q : IsX H e C dx) (hok : HOk P w H h) : ∃ vs, h.get? e = some ⟨.ref C, dx, .fields vs, #[]⟩ := by
  rcases q with q | q
  · obtain ⟨⟨a, x⟩, _⟩ := (show ObjOk P w H h e (XN e C dx) from hok e _ q)
    exact ⟨_, x⟩
  · obtain ⟨⟨a, x⟩, _⟩ := (show ObjOk P w H h e (XO e C dx) from hok e _ q)
    exact ⟨_, x⟩
theorem upd_id {H : Hp} {a : Addr} {o : HO} (h : H a = some o) : upd H a o = H := by
  funext b
  unfold upd
  split
  · rename_i e; subst e; exact h.symm
  · rfl
section
variable {X : Cx} {pins : List (Addr × Obj)} {σ : St} {H : Hp} {s : Shared} {e C : Addr} {dx : Option Addr}
theorem xd_get (I : Inv X pins σ H s) {d : Addr} {fs : List (Str × V)} (h : H d = some (.xd fs)) : ∃ (od : Obj) (mA : Str → Option Value), s.heap.get? d = some od ∧ (∀ name, PySem.W.lookIn name od = some (mA name)) ∧ ∀ f, RelO (fs.lookup f) (mA f) := by
  obtain ⟨mA, n, r⟩ := (show ObjOk X.prog X.w H s.heap d (.xd fs) from I.hok d _ h)
  obtain ⟨od, h1, h2⟩ := lookIn_ns n
  exact ⟨od, mA, h1, h2, r⟩
end
section
variable {X : Cx} {pins : List (Addr × Obj)} {σ : St} {H : Hp} {s : Shared} {a d : Addr} {h' : Heap} {o u : HO} {t' : Nat}
theorem Inv.both (I : Inv X pins σ H s) (mu : Mut (H a)) (hd : s.heap.objs.size ≤ d) (k : ∀ b v, b ≠ a → s.heap.get? b = some v → h'.get? b = some v) (ha : ∃ v, h'.get? a = some v)
    (n1 : ObjOk X.prog X.w (upd (upd H d u) a o) h' a o) (n2 : ObjOk X.prog X.w (upd (upd H d u) a o) h' d u) (ne : d ≠ a) : Inv X pins σ (upd (upd H d u) a o) { s with heap := h', toks := t' } := by
  have nd : H d = none := I.hok.fresh hd
  have na : ∀ b q, H b = some q → ¬ Mut (some q) → b ≠ a := fun b q e nm z => by subst z; rw [e] at mu; exact nm mu
  have nn : ∀ b, H b = none → b ≠ a := fun b e z => by subst z; rw [e] at mu; exact mu
  have big : ∀ b v, s.heap.get? b = some v → b ≠ d := fun b v e => Nat.ne_of_lt (Nat.lt_of_lt_of_le (Heap.lt_size e) hd)
  have up : ∀ b q, H b = some q → b ≠ a → upd (upd H d u) a o b = some q := fun b q e n => by rw [upd_ne n, upd_ne (ne_of_none e nd)]; exact e
  refine I.un ⟨fun b v e n _ _ => k b v (nn b n) e, fun b v e n _ _ => ⟨v.slots, k b v (nn b n) e⟩, fun b v e n _ => by rw [upd_ne (nn b n), upd_ne (big b v e)]; exact n, fun b v e _ => ?_, fun b xs e => up b _ e (na b _ e fun z => z), fun b q xs e => up b _ e (na b _ e fun z => z),
    fun b ps e => ⟨#[], by rw [up b _ e (na b _ e fun z => z)]; simp⟩⟩ fun b q e => ?_
  · by_cases hb : b = a
    · subst hb; exact ha
    · exact ⟨v, k b v hb e⟩
  · by_cases hb : b = a
    · subst hb
      rw [upd_same] at e
      cases e
      exact n1
    · rw [upd_ne hb] at e
      by_cases hbd : b = d
      · subst hbd
        rw [upd_same] at e
        cases e
        exact n2
      · rw [upd_ne hbd] at e
        refine (I.hok b q e).stay (fun c v hc r => k c v ?_ r) (fun c r => up c _ r (na c _ r fun z => z)) fun c xs r => up c _ r (na c _ r fun z => z)
        rcases hc with rfl | hc
        · exact hb
        · exact na c _ hc fun z => z
end
def tFldU (K : PySem.W.Frag) (ta : TE) (f : Str) : TE := fun σ H Q => ta σ H fun x H1 => (∃ a C dx fs v, x = .ref a ∧ H1 a = some (.ins C dx fs) ∧ Cls K C ∧ NoAttr K C f ∧ fs.lookup f = some v ∧ Q v H1) ∨
  (∃ a C dx fs v, x = .ref a ∧ IsX H1 a C (some dx) ∧ XAt K C ∧ NoAttr K C f ∧ H1 dx = some (.xd fs) ∧ fs.lookup f = some v ∧ Q v H1)
def sFldU (K : PySem.W.Frag) (ta tv : TE) (f : Str) : TS := fun D σ H => tv σ H fun y H1 => ta σ H1 fun x H2 => (∃ a C dx fs, x = .ref a ∧ H2 a = some (.ins C dx fs) ∧ Cls K C ∧ NoAttr K C f ∧ fs.length < 1000 ∧
    D.nx σ (upd H2 a (.ins C dx (putF f y fs)))) ∨
  (∃ a C, x = .ref a ∧ H2 a = some (XN a C none) ∧ XAt K C ∧ NoAttr K C f ∧ ∀ dx, H2 dx = none → D.nx σ (upd (upd H2 dx (.xd [(f, y)])) a (XN a C (some dx))))
section
variable {X : Cx} {o e value : Expr} {f : Str} {pos pos' : Pos} {ta tv : TE} {K : PySem.W.Frag}
theorem k_fldU (hK : X.K = K) (he : PE X e ta) (hb : attributeBase e f X.env (eval e X.env) = eval e X.env) : PE X (.Attribute e f pos) (tFldU K ta f) := by
  subst hK
  intro pins s σ H Q I h
  refine attr_of hb (thn (he pins s σ H _ I h) fun u s1 ⟨x, H1, I1, rx, hx⟩ => ?_)
  rcases hx with ⟨a, C, dx, fs, v, rfl, ea, c, n, l, q⟩ | ⟨a, C, dx, fs, v, rfl, ea, c, n, hd, l, q⟩
  · obtain rfl : u = Value.ref a := rx
    exact getattr_ok I1 ea c n l fun u' s2 I2 ru => ⟨v, H1, I2, ru, q⟩
  · obtain rfl : u = Value.ref a := rx
    obtain ⟨vs, hx⟩ := ea.get I1.hok
    obtain ⟨od, mA, h1, h2, r⟩ := xd_get I1 hd
    obtain ⟨u', hu, ru⟩ := RelO.some_of (v := v) (o := mA f) (by rw [← l]; exact r f)
    exact xget I1.kIn (od := some od) ⟨hx, rfl, rfl, h1⟩ c (PySem.W.findObj_own c.hd n rfl (by rw [h2, hu])) (handed_of ru) ⟨v, H1, I1.tok _, ru, q⟩
theorem k_sfldU (hK : X.K = K) (ha : PE X o ta) (hv : PE X value tv) (hs : swapsWith value (some (.Attribute o f pos')) pos.line X.env = pure false) : PS X (.Assign [.Attribute o f pos'] value pos) (sFldU K ta tv f) := by
  subst hK
  intro pins s σ H D I h
  refine plainObj_wpAny_Assign_Attribute (thn (hv pins s σ H _ I h) fun u s1 ⟨y, H1, I1, ry, q⟩ => thn (ha pins s1 σ H1 _ I1 q) fun ov s2 ⟨x, H2, I2, rx, hx⟩ => ?_) hs
  rcases hx with ⟨a, C, dx, fs, rfl, ea, c, n, l, q2⟩ | ⟨a, C, rfl, ea, c, n, q2⟩
  · obtain rfl : ov = Value.ref a := rx
    exact setattr_ok I2 ea c n l ry fun s3 I3 => ⟨σ, _, I3, q2⟩
  · obtain rfl : ov = Value.ref a := rx
    obtain ⟨⟨a0, hx⟩, _⟩ := (show ObjOk X.prog X.w H2 s2.heap a (XN a C none) from I2.hok a _ ea)
    refine xset I2.kIn hx c n fun h' g1 g2 g3 => ?_
    have nd : H2 s2.heap.objs.size = none := I2.hok.fresh (Nat.le_refl _)
    have ne : s2.heap.objs.size ≠ a := Nat.ne_of_gt (Heap.lt_size hx)
    refine ⟨σ, _, I2.both (o := XN a C (some s2.heap.objs.size)) (u := .xd [(f, y)]) (by rw [ea]; exact True.intro) (Nat.le_refl _) g3 ⟨_, g1⟩ (XN.ok g1) ⟨_, g2, fun g => ?_⟩ ne, q2 _ nd⟩
    by_cases hg : g = f
    · subst hg
      simp only [List.lookup, beq_self_eq_true, if_true]
      exact ry
    · have hb : (g == f) = false := beq_eq_false_iff_ne.mpr hg
      simp only [List.lookup, hb, if_neg hg]
      exact True.intro
end
def tXMake (C : Addr) (sp : Sp) (E : XK) (t : TA) : TE := fun σ H Q => t σ H fun vs H1 => vs.length ≤ 1000 ∧ ∀ x, H1 x = none → sp (.ref x :: vs) (upd H1 x (XN x C none)) (fun v H2 => v = .non ∧ Q (.ref x) H2) E
structure XMk (K : PySem.W.Frag) (C f : Addr) : Prop where
  at_ : XAt K C
  init : PySem.W.findIn K (.ref C) "__init__" = some (some (.ref f))
  fn : PySem.W.isFn K (.ref f) = true
  kp : PySem.W.keepIn K (.ref C) = true
section
variable {X : Cx} {CX : CXT} {k : Nat} {f C : Addr} {fd : FuncData} {ps : List Str} {sp : Sp} {E : XK} {x m : Str} {p pos apos : Pos} {e o : Expr} {es : List Expr} {ta : TE} {t : TA}
theorem run_xmake {pins : List (Addr × Obj)} {σ : St} {H : Hp} {s : Shared} {Q : VK} {us : List Value} {vs : List V} (M : XMk X.K C f) (F : FnOk X.prog X.w X.K X.mg X.base CX k f fd ps sp) (hr : Room (k + 1) X.A) (hb : Binds X.K fd ps [])
    (hx : Passes CX X E) (I : Inv X pins σ H s) (r : Vals vs us) (hl0 : vs.length ≤ 1000) (h : ∀ x, H x = none → sp (.ref x :: vs) (upd H x (XN x C none)) (fun v H2 => v = .non ∧ Q (.ref x) H2) E) :
    wpAny (model X.prog X.w) X.A (call (.ref C) us) (EP X pins σ Q) X.xe s := by
  have hq := h (s.heap.objs.size + 1) (I.hok.fresh (Nat.le_succ _))
  have up : ∀ b o, s.heap.get? b = some o → ((s.heap.push { cls := .type "tuple", data := .seq us.toArray }).push { cls := .ref C, data := .fields (xfs s.heap.objs.size) }).get? b = some o := fun b o q => Heap.get?_push_of_some _ (Heap.get?_push_of_some _ q)
  have hget : ((s.heap.push { cls := .type "tuple", data := .seq us.toArray }).push { cls := .ref C, data := .fields (xfs s.heap.objs.size) }).get? (s.heap.objs.size + 1) = some ⟨.ref C, none, .fields (xfs s.heap.objs.size), #[]⟩ := Heap.get?_push_at (by rw [Heap.size_push]) rfl
  have I2 := I.laid (a := s.heap.objs.size + 1) (o := XN (s.heap.objs.size + 1) C none) (t' := s.toks) up (Nat.le_succ _) (XN.ok hget)
  have r2 : Vals (V.ref (s.heap.objs.size + 1) :: vs) (Value.ref (s.heap.objs.size + 1) :: us) := .cons rfl r
  have hl : (Value.ref (s.heap.objs.size + 1) :: us ++ []).length = ps.length := by
    have q := r2.length
    rw [F.len _ _ _ _ hq] at q
    rw [List.append_nil]
    exact q.symm
  have hus : us.length ≤ sizeLine := by rw [← r.length]; exact Nat.le_of_lt (small1000 hl0)
  refine xcall I.kIn M.at_ M.init M.fn hus (wpAny_call (codeAny_mono (F.run _ X.stack _ _ ⟨Value.ref (s.heap.objs.size + 1) :: us, []⟩ (Value.ref (s.heap.objs.size + 1) :: us) _ _ E (hr.make C us [])
    (I2.env0.make C us []) (by have z := hb _ (Value.ref (s.heap.objs.size + 1) :: us) I2.kIn hl; rw [List.append_nil] at z; exact z) r2 hq) fun r s' hq' => ?_))
  cases r with
  | error e => exact hx pins σ _ _ e s' I2 hq'
  | ok fl =>
    cases fl with
    | ret u =>
      obtain ⟨v, H', I3, rv, ev, q3⟩ := I2.after hq'
      subst ev
      exact ⟨rv, ⟨V.ref (s.heap.objs.size + 1), H', I3, rfl, q3⟩⟩
    | next => exact False.elim hq'
    | brk => exact False.elim hq'
    | cont => exact False.elim hq'
theorem pe_xmake (M : XMk X.K C f) (F : FnOk X.prog X.w X.K X.mg X.base CX k f fd ps sp) (hr : Room (k + 1) X.A) (hg : Gl X x) (hm : X.mg x = some (.ref C)) (hb : Binds X.K fd ps []) (hx : Passes CX X E)
    (ha : PA X (e :: es) t) (hdb : (x == ("__debug__" : Str)) = false := by decide) (he : starEach (e :: es) X.env = (false, eval e X.env) :: starEach es X.env := by rfl) (hpl : (backTo pos (starEach es X.env)).any (·.1) = false := by rfl) :
    PE X (.Call (.Name x p) (e :: es) [] pos) (tXMake C sp E t) := by
  intro pins s σ H Q I h
  refine wpAny_Call_Name_kw (ld_glob I hg hm ?_ hdb)
  refine PySem.W.callWith_K (h₀ := X.base) I.ok.mod.kin M.kp (thn (ha pos pins s σ H _ I h) fun us s1 ⟨vs, H1, I1, r, z, q⟩ => ⟨I1.kIn, ?_⟩) he hpl
  exact run_xmake M F hr hb hx I1 r z q
structure CMeth (K : PySem.W.Frag) (C : Addr) (m : Str) (f : Addr) : Prop where
  rd : PySem.W.readsIn K C (.type "type") = true
  at_ : PySem.W.findCls K (.ref C) (.type "type") m = some (.val (.ref f))
  ga : PySem.W.specialIn K (.ref C) "__getattribute__" = some (some (.builtin "type.__getattribute__"))
  kp : PySem.W.keepIn K (.ref f) = true
theorem pe_clsm {pl : Sem Bool} (M : CMeth X.K C m f) (F : FnOk X.prog X.w X.K X.mg X.base CX k f fd ps sp) (hr : Room k X.A) (hg : Gl X x) (hm : X.mg x = some (.ref C)) (hb : Binds X.K fd ps []) (hx : Passes CX X E) (ha : PA X (e :: es) t)
    (hdb : (x == ("__debug__" : Str)) = false := by decide) (hst : starEach (e :: es) X.env = (false, eval e X.env) :: starEach es X.env := by rfl) (hpl : (backTo pos (starEach es X.env)).any (·.1) = false := by rfl)
    (ht : eval (.Call (.Attribute (.Name x p) m apos) (e :: es) [] pos) X.env = (do
      let ov ← eval (.Name x p) X.env
      standAt apos.atName
      let (f, first) ← holding [ov] (getMethod ov m pl)
      callWith pos f first (backTo pos (starEach (e :: es) X.env)) (backToKw pos (keywordEach [] X.env))) := by rfl) :
    PE X (.Call (.Attribute (.Name x p) m apos) (e :: es) [] pos) (tCall sp [] E t) := by
  intro pins s σ H Q I h
  refine PySem.W.methodCall_KW (pl := pl) (ld_glob I hg hm ?_ hdb) ht
  refine PySem.W.method_cls I.kIn M.ga (PySem.W.cls_value I.kIn M.rd M.at_ rfl ?_)
  refine PySem.W.callWith_K (first := []) (h₀ := X.base) I.ok.mod.kin M.kp (thn (ha pos pins _ σ H _ (I.tok (s.toks + 1)) h) fun us s2 ⟨vs, H2, I2, r, q2⟩ => ⟨I2.kIn, ?_⟩) hst hpl
  exact run_fn F hr hb .nil hx I2 r q2
end
end L2
namespace L2
open PySem PySem.Spec PyProof.Rows
def tVinit (K : PySem.W.Frag) (t : TA) : TE := fun σ H Q => t σ H fun vs H1 => ∃ a C y, vs = [.ref a, y] ∧ H1 a = some (XN a C none) ∧ XAt K C ∧ Q .non H1
theorem ve_type {M : Model} {h : Heap} : PySem.W.Looks M h (typeOf (.type "ValueError")) (.type "type") := PySem.W.Looks.of_pure (by kernel_rfl)
theorem ve_opaque {M : Model} {h : Heap} : PySem.W.Looks M h (opaqueClassAbove (.type "ValueError")) none := PySem.W.Looks.of_pure (by kernel_rfl)
structure VInit (K : PySem.W.Frag) : Prop where
  ga : PySem.W.findIn K (.type "type") "__getattribute__" = some (some (.builtin "type.__getattribute__"))
  su : PySem.W.subIn K (.type "type") (.type "type") = some true
  at_ : PySem.W.findCls K (.type "ValueError") (.type "type") "__init__" = some (.val (.builtin "ValueError.__init__"))
section
variable {X : Cx} {p pos apos : Pos} {e : Expr} {es : List Expr} {t : TA} {K : PySem.W.Frag}
theorem k_vinit {pl : Sem Bool} (hK : X.K = K) (V : VInit K) (hg : Gl X "ValueError") (hm : X.mg "ValueError" = none) (hv : bootBuiltins "ValueError" = some (.type "ValueError")) (ha : PA X (e :: es) t)
    (hst : starEach (e :: es) X.env = (false, eval e X.env) :: starEach es X.env := by rfl) (hpl : (backTo pos (starEach es X.env)).any (·.1) = false := by rfl)
    (ht : eval (.Call (.Attribute (.Name "ValueError" p) "__init__" apos) (e :: es) [] pos) X.env = (do
      let ov ← eval (.Name "ValueError" p) X.env
      standAt apos.atName
      let (f, first) ← holding [ov] (getMethod ov "__init__" pl)
      callWith pos f first (backTo pos (starEach (e :: es) X.env)) (backToKw pos (keywordEach [] X.env))) := by rfl) :
    PE X (.Call (.Attribute (.Name "ValueError" p) "__init__" apos) (e :: es) [] pos) (tVinit K t) := by
  subst hK
  intro pins s σ H Q I h
  refine PySem.W.methodCall_KW (pl := pl) (ld_blt I hg hm hv ?_) ht
  have hgm : ∀ {Q' : Value × List Value → Shared → Prop}, Q' (.builtin "ValueError.__init__", []) { s with toks := s.toks + 1 } → wpAny (model X.prog X.w) X.A (getMethod (.type "ValueError") "__init__" pl) Q' X.xe s := fun {Q'} q => by
    unfold getMethod
    refine wpAny_bind ((ve_type.andThen (PySem.W.looks_findIn I.kIn V.ga)).here ?_)
    dsimp only
    rw [if_pos PySem.W.canon_tga]
    refine wpAny_bind (PySem.W.cls_open (hook := none) I.kIn ve_opaque ve_type V.ga (PySem.W.Looks.now) V.su V.at_ (wpAny_pure ?_))
    show wpAny _ _ (handedOut _) _ _ _
    exact PySem.W.handed_on rfl (wpAny_pure q)
  refine hgm ?_
  have hA := ha pos pins _ σ H _ (I.tok (s.toks + 1)) h
  rw [hst] at hA ⊢
  refine Calls.callWith_builtin (by show (false || (backTo pos (starEach es X.env)).any (·.1)) = false; rw [hpl] <;> rfl) (Calls.evalArgs_plain ?_)
  refine thn hA fun us s2 ⟨vs, H2, I2, r2, a, C, y, e1, ea, c, q⟩ => ?_
  subst e1
  obtain ⟨u, v, rfl, ru, rv⟩ := vals2 r2
  cases ru
  obtain ⟨⟨a0, hx⟩, _⟩ := (show ObjOk X.prog X.w H2 s2.heap a (XN a C none) from I2.hok a _ ea)
  refine xbase_init I2.kIn hx c fun h' a1 g1 g2 => ?_
  have J := I2.write (x := a) (e := a) (o := XN a C none) (t' := s2.toks) (by rw [ea]; exact True.intro) (.inl rfl) g2 ⟨_, g1⟩ (XN.ok g1)
  rw [upd_id ea] at J
  exact ⟨.non, H2, J, rfl, q⟩
end
end L2
namespace L2
open PySem PySem.Spec PyProof.Rows
structure Keep (fs zs : List Addr) (h h' : Heap) : Prop where
  keep : ∀ b o, h.get? b = some o → b ∉ zs → b ∉ fs → h'.get? b = some o
  slot : ∀ b o, h.get? b = some o → b ∉ zs → b ∈ fs → ∃ sl, h'.get? b = some { o with slots := sl }
structure Trc (h : Heap) (e : Addr) (C : Value) (dx : Option Addr) (T : Addr) (fl : Value) : Prop where
  ex : ∃ vs, h.get? e = some ⟨C, dx, .fields vs, #[]⟩ ∧ vs[1]? = some (.ref T)
  tb : ∃ ts, h.get? T = some ⟨.type "traceback", none, .fields ts, #[]⟩ ∧ ts[3]? = some fl
  ne : T ≠ e
section
variable {M : Model} {A : Around} {E : Value → Shared → Prop} {s : Shared} {base : Heap} {env : Env} {outer : List Env} {L e : Addr} {C : Value} {dx : Option Addr} {vs : Array Value}
theorem xentry {head : Value} {had : Bool} {Q : Unit → Shared → Prop} (hfr : A.frames = some (env :: outer)) (hl : s.heap.FunFrames base (env :: outer)) (hf : env.frame = some L) (he : s.heap.get? e = some ⟨C, dx, .fields vs, #[]⟩) (hsz : 1 < vs.size)
    (h : ∀ h' T, s.heap.objs.size ≤ T → Trc h' e C dx T (rawInt L) → Keep (frs (env :: outer)) [e] s.heap h' → Q () { s with heap := h' }) :
    wpAny M A (do let a ← frameOf env; let pl ← entryPlaceOf L had; let b ← EntryCells.newEntry head a .none (rawInt L) .none pl; setField (.ref e) 1 b) Q E s := by
  have hene : e ∉ frs (env :: outer) := fun hm => by
    obtain ⟨_, o, ho, hnf⟩ := hl.mem hm
    rw [he] at ho
    cases ho
    exact hnf vs rfl
  refine wpAny_bind (wpAny_frameOf_fun hfr hl hf fun h₁ hs => wpAny_bind (wpAny_entryPlaceOf fun pl hpl => ?_))
  unfold EntryCells.newEntry newFields
  refine wpAny_bind (wpAny_newObj_type ?_ (hpl.sizeOk5 _ _ _ _ _))
  have he1 : h₁.get? e = some ⟨C, dx, .fields vs, #[]⟩ := (hs.2.1 e hene).trans he
  generalize hts : ([head, .ref L, .none, rawInt L, .none] ++ (if pl.isEmpty then List.replicate 6 Value.none else pl)).toArray = ts
  have h3 : ts[3]? = some (rawInt L) := by rw [← hts]; first | (simp; done) | (rcases hpl with rfl | ⟨_, _, _, _, _, _, _, rfl⟩ <;> simp)
  have he2 := Heap.get?_push_of_some (h := h₁) { cls := .type "traceback", dict := none, data := .fields ts } he1
  have hTe : h₁.objs.size ≠ e := Nat.ne_of_gt (Heap.lt_size he1)
  refine wpAny_setField he2 rfl hsz (h _ h₁.objs.size (Nat.le_of_eq hs.1.symm) ⟨⟨vs.setIfInBounds 1 (.ref h₁.objs.size), ?_, by simp [hsz]⟩, ⟨ts, ?_, h3⟩, hTe⟩ ⟨fun b o q hb hn => ?_, fun b o q hb hn => ?_⟩)
  · rw [Heap.get?_update_self _ he2 rfl]
    rfl
  · rw [Heap.get?_update_other _ _ (Ne.symm hTe)]
    exact Heap.get?_push_size h₁ rfl
  · have hbe : b ≠ e := fun z => hb (by simp [z])
    rw [Heap.get?_update_other _ _ (Ne.symm hbe)]
    exact Heap.get?_push_of_some _ ((hs.2.1 b hn).trans q)
  · have hbe : b ≠ e := fun z => hb (by simp [z])
    obtain ⟨sl, z⟩ := hs.2.2 b o q
    exact ⟨sl, by rw [Heap.get?_update_other _ _ (Ne.symm hbe)]; exact Heap.get?_push_of_some _ z⟩
theorem xnote_new {Q : Unit → Shared → Prop} (hfr : A.frames = some (env :: outer)) (hl : s.heap.FunFrames base (env :: outer)) (hf : env.frame = some L) (he : s.heap.get? e = some ⟨C, dx, .fields vs, #[]⟩) (h1 : vs[1]? = some .none)
    (h : ∀ h' T, s.heap.objs.size ≤ T → Trc h' e C dx T (rawInt L) → Keep (frs (env :: outer)) [e] s.heap h' → Q () { s with heap := h' }) : wpAny M A (noteFrame (.ref e) env) Q E s := by
  unfold noteFrame
  simp only [hf]
  refine wpAny_bind (wpAny_field he rfl h1 ?_)
  rw [if_neg (by decide)]
  exact xentry hfr hl hf he (Array.getElem?_eq_some_iff.mp h1).1 h
theorem xnote_on {T : Addr} {Q : Unit → Shared → Prop} (hfr : A.frames = some (env :: outer)) (hl : s.heap.FunFrames base (env :: outer)) (hf : env.frame = some L) (t : Trc s.heap e C dx T .none)
    (h : ∀ h' T', s.heap.objs.size ≤ T' → Trc h' e C dx T' (rawInt L) → Keep (frs (env :: outer)) [e, T] s.heap h' → Q () { s with heap := h' }) : wpAny M A (noteFrame (.ref e) env) Q E s := by
  obtain ⟨⟨vs, he, h1⟩, ⟨ts, hT, h3⟩, hne⟩ := t
  unfold noteFrame
  simp only [hf]
  refine wpAny_bind (wpAny_field he rfl h1 ?_)
  rw [if_pos (show (Value.ref T != Value.none) = true from by simp)]
  refine wpAny_bind (wpAny_field hT rfl h3 ?_)
  rw [if_neg (show ¬ ((Value.none == rawInt L) = true) from by simp [rawInt])]
  refine wpAny_bind (wpAny_setField hT rfl (Array.getElem?_eq_some_iff.mp h3).1 ?_)
  have other : ∀ b, b ≠ T → (s.heap.update T (Obj.mapFields (·.setIfInBounds 3 Value.none))).get? b = s.heap.get? b := fun b hb => Heap.get?_update_other _ _ (Ne.symm hb)
  have szu : (s.heap.update T (Obj.mapFields (·.setIfInBounds 3 Value.none))).objs.size = s.heap.objs.size := Heap.size_after_update ..
  refine xentry (s := { s with heap := s.heap.update T (Obj.mapFields (·.setIfInBounds 3 Value.none)) }) hfr (hl.of_keeps fun b o hb hnf => ?_) hf ((other e (Ne.symm hne)).trans he) (Array.getElem?_eq_some_iff.mp h1).1 fun h' T' hs t' k => ?_
  · have nb : b ≠ T := fun q => by rw [q, hT] at hb; cases hb; exact hnf ts rfl
    exact ⟨o, (other b nb).trans hb, rfl⟩
  · refine h h' T' (by rw [← szu]; exact hs) t' ⟨fun b o q hb hn => ?_, fun b o q hb hn => ?_⟩
    · have nb : b ≠ T := fun z => hb (by simp [z])
      exact k.keep b o ((other b nb).trans q) (fun z => hb (by simp only [List.mem_singleton] at z; simp [z])) hn
    · have nb : b ≠ T := fun z => hb (by simp [z])
      exact k.slot b o ((other b nb).trans q) (fun z => hb (by simp only [List.mem_singleton] at z; simp [z])) hn
theorem xflight {T : Addr} {fl : Value} {Q : Unit → Shared → Prop} (t : Trc s.heap e C dx T fl) (h : ∀ h', Trc h' e C dx T .none → (∀ b o, b ≠ T → s.heap.get? b = some o → h'.get? b = some o) → h'.objs.size = s.heap.objs.size → Q () { s with heap := h' }) :
    wpAny M A (setFlight (.ref e) none) Q E s := by
  obtain ⟨⟨vs, he, h1⟩, ⟨ts, hT, h3⟩, hne⟩ := t
  have h3' : 3 < ts.size := (Array.getElem?_eq_some_iff.mp h3).1
  unfold setFlight
  refine wpAny_bind (wpAny_field he rfl h1 ?_)
  rw [if_pos (show (Value.ref T != Value.none) = true from by simp)]
  refine wpAny_setField hT rfl h3' (h _ ⟨⟨vs, ?_, h1⟩, ⟨ts.setIfInBounds 3 .none, ?_, by simp [h3']⟩, hne⟩ (fun b o hb q => ?_) (Heap.size_after_update ..))
  · rw [Heap.get?_update_other _ _ hne]
    exact he
  · rw [Heap.get?_update_self _ hT rfl]
    rfl
  · rw [Heap.get?_update_other _ _ (Ne.symm hb)]
    exact q
end
end L2
namespace L2
open PySem PySem.Spec PyProof.Rows
def CX1 (P : Program) (w : World) : CXT := fun outer H s E ev s' => ∃ (a C : Addr) (dx : Option Addr) (T : Addr) (H' : Hp), ev = .ref a ∧ s'.os = s.os ∧ AllBare s'.gens ∧ Un (frs outer) [] H H' s.heap s'.heap ∧ HOk P w H' s'.heap ∧
  H' a = some (XO a C dx) ∧ Trc s'.heap a (.ref C) dx T .none ∧ s.heap.objs.size ≤ T ∧ H' T = none ∧ E (.ref C) dx H'
section
variable {X : Cx} {pins : List (Addr × Obj)} {σ : St} {H : Hp} {s : Shared}
theorem hok_keep {a C T : Addr} {dx : Option Addr} {h' : Heap} {fl : Value} {zs : List Addr} (I : Inv X pins σ H s) (ha : H a = some (XO a C dx)) (k : Keep (frs X.stack) zs s.heap h') (hz : ∀ b ∈ zs, b = a ∨ H b = none) (t : Trc h' a (.ref C) dx T fl) : HOk X.prog X.w H h' := fun b u e => by
  by_cases hb : b = a
  · subst hb
    rw [ha] at e
    cases e
    obtain ⟨vs, q, _⟩ := t.ex
    exact XO.ok q
  · have nz : ∀ c o, H c = some o → c ≠ a → c ∉ zs ∧ c ∉ frs X.stack := fun c o q n => ⟨fun z => (hz c z).elim n fun y => (by rw [y] at q; cases q), fun z => (by have y := I.stkFree c z; rw [y] at q; cases q)⟩
    refine (I.hok b u e).stay (fun c v hc r => ?_) (fun _ q => q) fun _ _ q => q
    rcases hc with rfl | hc
    · exact k.keep c v r (nz c _ e hb).1 (nz c _ e hb).2
    · have n : c ≠ a := fun z => by rw [z, ha] at hc; cases hc
      exact k.keep c v r (nz c _ hc n).1 (nz c _ hc n).2
theorem un_out {a C T : Addr} {dx : Option Addr} {h' : Heap} {fl : Value} {zs : List Addr} (I : Inv X pins σ H s) (hex : X.ex = []) (ha : H a = some (XO a C dx)) (k : Keep (frs X.stack) zs s.heap h') (hz : ∀ b ∈ zs, b = a ∨ X.s₀.heap.objs.size ≤ b) (t : Trc h' a (.ref C) dx T fl) :
    Un X.fs [] X.H₀ H X.s₀.heap h' := by
  have B := I.base
  rw [hex] at B
  have low : ∀ b o, X.s₀.heap.get? b = some o → b ≠ X.env.locals := fun b o e => Nat.ne_of_lt (Nat.lt_of_lt_of_le (Heap.lt_size e) I.ok.above)
  have nz : ∀ b o, X.s₀.heap.get? b = some o → b ≠ a → b ∉ zs := fun b o e n z => (hz b z).elim n fun y => absurd (Nat.lt_of_lt_of_le (Heap.lt_size e) y) (Nat.lt_irrefl _)
  have na : ∀ b, H b = none → b ≠ a := fun b n z => by rw [z, ha] at n; cases n
  have nfs : ∀ b o, X.s₀.heap.get? b = some o → b ∉ X.fs → b ∉ frs X.stack := fun b o e n z => (List.mem_cons.mp (I.stkSub b z)).elim (low b o e) n
  refine ⟨fun b o e n hb hx => ?_, fun b o e n hb hx => ?_, B.free, fun b o e hx => ?_, B.tups, B.frzs, B.tbls⟩
  · exact k.keep b o (B.keep b o e n hb hx) (nz b o e (na b (B.free b o e n hx))) (nfs b o e hb)
  · obtain ⟨sl, q⟩ := B.slot b o e n hb hx
    have zz := nz b o e (na b (B.free b o e n hx))
    by_cases hs : b ∈ frs X.stack
    · obtain ⟨sl2, q2⟩ := k.slot b _ q zz hs
      exact ⟨sl2, q2⟩
    · exact ⟨sl, k.keep b _ q zz hs⟩
  · obtain ⟨o', q⟩ := B.there b o e hx
    by_cases hb : b = a
    · subst hb
      obtain ⟨vs, z, _⟩ := t.ex
      exact ⟨_, z⟩
    · have zz := nz b o e hb
      by_cases hs : b ∈ frs X.stack
      · obtain ⟨sl2, q2⟩ := k.slot b _ q zz hs
        exact ⟨_, q2⟩
      · exact ⟨o', k.keep b _ q zz hs⟩
end
structure XOk (X : Cx) (EK : St → XK) : Prop where
  pass : ∀ (pins : List (Addr × Obj)) (σ : St) (H : Hp) (s : Shared) (e : Value) (s' : Shared), Inv X pins σ H s → CX1 X.prog X.w X.stack H s (EK σ) e s' → X.xe e s'
  rais : ∀ (pins : List (Addr × Obj)) (σ : St) (H : Hp) (s : Shared) (a C : Addr) (dx : Option Addr), Inv X pins σ H s → H a = some (XN a C dx) → EK σ (.ref C) dx (upd H a (XO a C dx)) → X.xe (.ref a) s
  calm : X.calm = true
section
variable {P : Program} {w : World} {K : PySem.W.Frag} {mg : Str → Option Value} {base : Heap} {N : List Str} {qual : Str} {scope : Scope} {f : Addr} {cd : Value} {A : Around} {outer : List Env} {s0 : Shared} {H0 : Hp} {E : XK}
theorem xok_fn : XOk (cxOf (CX1 P w) P w K mg base N qual scope f cd A outer s0 H0 E) fun _ => E where
  calm := rfl
  pass := by
    intro pins σ H s ev s' I hx
    obtain ⟨a, C, dx, T, H', rfl, hos, hbr, un, hok, ha, t, hT, hTn, q⟩ := hx
    have J := I.call' (s' := s') (H' := H') (ch := []) hos un hok hbr (fun b z => absurd z (by simp))
    show wpAny _ _ (leaving _ _) _ _ _
    unfold leaving
    refine wpAny_bind (xnote_on (base := base) J.ok.frames J.stack rfl t fun h' T' hs t' k => ?_)
    refine xflight (s := { s' with heap := h' }) t' fun h2 t2 k2 sz2 => ?_
    have hz0 : s0.heap.objs.size ≤ s.heap.objs.size := I.sz
    have J2 := J.sz
    have kk : Keep (frs (envOfC qual scope s0.heap.objs.size f cd :: outer)) [a, T, T'] s'.heap h2 := by
      refine ⟨fun b o e z n => ?_, fun b o e z n => ?_⟩
      · simp only [List.mem_cons, List.not_mem_nil, or_false, not_or] at z
        exact k2 b o z.2.2 (k.keep b o e (by simp [z.1, z.2.1]) n)
      · simp only [List.mem_cons, List.not_mem_nil, or_false, not_or] at z
        obtain ⟨sl, y⟩ := k.slot b o e (by simp [z.1, z.2.1]) n
        exact ⟨sl, k2 b _ z.2.2 y⟩
    have nT' : H' T' = none := J.hok.fresh hs
    refine ⟨a, C, dx, T', H', rfl, J.os, hbr, un_out J rfl ha kk (fun b hb => ?_) t2, hok_keep J ha kk (fun b hb => ?_) t2, ha, t2, Nat.le_trans J2 hs, nT', q⟩
    · simp only [List.mem_cons, List.not_mem_nil, or_false] at hb
      rcases hb with rfl | rfl | rfl
      · exact .inl rfl
      · exact .inr (Nat.le_trans hz0 hT)
      · exact .inr (Nat.le_trans J2 hs)
    · simp only [List.mem_cons, List.not_mem_nil, or_false] at hb
      rcases hb with rfl | rfl | rfl
      · exact .inl rfl
      · exact .inr hTn
      · exact .inr nT'
  rais := by
    intro pins σ H s a C dx I e q
    obtain ⟨⟨a0, hx⟩, _⟩ := (show ObjOk _ _ H s.heap a (XN a C dx) from I.hok a _ e)
    have J : Inv _ pins σ (upd H a (XO a C dx)) s := I.write (x := a) (e := a) (o := XO a C dx) (h' := s.heap) (t' := s.toks) (by rw [e]; exact True.intro) (.inl rfl) (fun _ _ _ q => q) ⟨_, hx⟩ (XO.ok hx)
    show wpAny _ _ (leaving _ _) _ _ _
    unfold leaving
    refine wpAny_bind (xnote_new (base := base) J.ok.frames J.stack rfl hx rfl fun h' T' hs t' k => ?_)
    refine xflight (s := { s with heap := h' }) t' fun h2 t2 k2 sz2 => ?_
    have J2 := J.sz
    have ha : upd H a (XO a C dx) a = some (XO a C dx) := upd_same
    have kk : Keep (frs (envOfC qual scope s0.heap.objs.size f cd :: outer)) [a, T'] s.heap h2 := by
      refine ⟨fun b o e z n => ?_, fun b o e z n => ?_⟩
      · simp only [List.mem_cons, List.not_mem_nil, or_false, not_or] at z
        exact k2 b o z.2 (k.keep b o e (by simp [z.1]) n)
      · simp only [List.mem_cons, List.not_mem_nil, or_false, not_or] at z
        obtain ⟨sl, y⟩ := k.slot b o e (by simp [z.1]) n
        exact ⟨sl, k2 b _ z.2 y⟩
    have nT' : upd H a (XO a C dx) T' = none := J.hok.fresh hs
    refine ⟨a, C, dx, T', _, rfl, J.os, J.bare, un_out J rfl ha kk (fun b hb => ?_) t2, hok_keep J ha kk (fun b hb => ?_) t2, ha, t2, Nat.le_trans J2 hs, nT', q⟩
    · simp only [List.mem_cons, List.not_mem_nil, or_false] at hb
      rcases hb with rfl | rfl
      · exact .inl rfl
      · exact .inr (Nat.le_trans J2 hs)
    · simp only [List.mem_cons, List.not_mem_nil, or_false] at hb
      rcases hb with rfl | rfl
      · exact .inl rfl
      · exact .inr nT'
end
def tRaise (K : PySem.W.Frag) (EK : St → XK) (te : TE) : TS := fun _ σ H => te σ H fun x H1 => ∃ a C dx, x = .ref a ∧ H1 a = some (XN a C dx) ∧ XAt K C ∧ EK σ (.ref C) dx (upd H1 a (XO a C dx))
section
variable {X : Cx} {EK : St → XK} {e : Expr} {te : TE} {pos : Pos} {K : PySem.W.Frag}
theorem xraise {M : Model} {A : Around} {E : Value → Shared → Prop} {env : Env} {s : Shared} {x : Sem Value} {Q : Flow → Shared → Prop} (hh : A.handled = none)
    (h : wpAny M A x (fun v s1 => ∃ a C dx a0, v = .ref a ∧ K.In s1.heap ∧ XAt K C ∧ s1.heap.get? a = some ⟨.ref C, dx, .fields (xfs a0), #[]⟩ ∧ E (.ref a) s1) E s) : wpAny M A (raiseStmt env (some x) none) Q E s := by
  unfold raiseStmt
  refine wpAny_bind (wpAny_mono h (fun v s1 h1 => ?_) fun _ _ z => z)
  obtain ⟨a, C, dx, a0, rfl, kin, c, he, hE⟩ := h1
  obtain ⟨nm, qn, N, bs, bm, hdct, sn, sub, ab, col, dd, k0, k1, k2, k3, k5, hC, hm⟩ := xc_cls kin c.xc
  have hcB : (Value.ref C :: bm).contains (.type "BaseException") = true := by rw [List.contains_cons, xMro_has hm (by simp), Bool.or_true]
  obtain ⟨hp, g, d, tk, os⟩ := s1
  repeat (first | with_reducible refine wpAny_loadPart_at he ?_ | with_reducible refine wpAny_loadPart_at hC ?_ | (with_reducible refine wpAny_isSubtype_exc hC ?_; rw [hcB]) | wp_step)
  exact wpAny_raiseNew_none hh hE
theorem k_raise (hK : X.K = K) (XX : XOk X EK) (he : PE X e te) : PS X (.Raise (some e) none pos) (tRaise K EK te) := by
  subst hK
  intro pins s σ H D I h
  rw [arm_exec_Raise]
  refine wpAny_bind (wpAny_standAt (xraise (K := X.K) (I.ok.hd XX.calm) ?_))
  refine wpAny_bind (thn (he pins s σ H _ I h) fun v s1 ⟨x, H1, I1, rx, a, C, dx, ex, ea, c, q⟩ => wpAny_bind (wpAny_standAt (wpAny_pure ?_)))
  subst ex
  cases rx
  obtain ⟨⟨a0, hx⟩, _⟩ := (show ObjOk _ _ H1 s1.heap a (XN a C dx) from I1.hok a _ ea)
  exact ⟨a, C, dx, a0, rfl, I1.kIn, c, hx, XX.rais pins σ H1 s1 a C dx I1 ea q⟩
end
end L2
namespace L2
open PySem PySem.Spec PyProof.Rows
def tCallS (sp : Sp) (EK : St → XK) (t : TA) : TE := fun σ H Q => t σ H fun vs H1 => sp vs H1 Q (EK σ)
def tMethS (C : Addr) (m : Str) (sp : Sp) (EK : St → XK) (ta : TE) (t : TA) : TE := fun σ H Q => ta σ H fun x H1 => ∃ a dx fs, x = .ref a ∧ H1 a = some (.ins C dx fs) ∧ fs.lookup m = none ∧ t σ H1 fun vs H2 => sp (x :: vs) H2 Q (EK σ)
def tMakeS (C : Addr) (sp : Sp) (EK : St → XK) (t : TA) : TE := fun σ H Q => t σ H fun vs H1 => ∀ x dx, H1 x = none → H1 dx = none → dx ≠ x →
  sp (.ref x :: vs) (upd (upd H1 dx (.own x)) x (.ins C dx [])) (fun v H2 => v = .non ∧ Q (.ref x) H2) (EK σ)
theorem FnOk.quiet {P : Program} {w : World} {K : PySem.W.Frag} {mg : Str → Option Value} {base : Heap} {k : Nat} {f : Addr} {fd : FuncData} {ps : List Str} {sp : Sp} (F : FnOk P w K mg base (CX1 P w) k f fd ps sp) :
    FnOk P w K mg base CX0 k f fd ps (fun vs H Q _ => sp vs H Q E0) := by
  refine ⟨fun vs H Q E h => F.len vs H Q E0 h, fun A outer s H args us vs Q E hr he hb hv hs => codeAny_mono (F.run A outer s H args us vs Q E0 hr he hb hv hs) fun r s' q => ?_⟩
  cases r with
  | ok fl => cases fl <;> exact q
  | error e =>
    obtain ⟨_, _, _, _, _, _, _, _, _, _, _, _, _, _, z⟩ := q
    exact z.elim
structure MethOk (P : Program) (w : World) (K : PySem.W.Frag) (mg : Str → Option Value) (base : Heap) (CX : CXT) (k : Nat) (C : Addr) (m : Str) (ps : List Str) (sp : Sp) : Prop where
  ex : ∃ f fd, FnOk P w K mg base CX k f fd ps sp ∧ Meth K C m f ∧ Binds K fd ps []
  cl : Cls K C
structure MakeOk (P : Program) (w : World) (K : PySem.W.Frag) (mg : Str → Option Value) (base : Heap) (CX : CXT) (k : Nat) (C : Addr) (x : Str) (ps : List Str) (sp : Sp) : Prop where
  ex : ∃ f fd, FnOk P w K mg base CX k f fd ps sp ∧ Mk K C f ∧ Binds K fd ps []
  mg_ : mg x = some (.ref C)
structure XMakeOk (P : Program) (w : World) (K : PySem.W.Frag) (mg : Str → Option Value) (base : Heap) (k : Nat) (C : Addr) (x : Str) (ps : List Str) (sp : Sp) : Prop where
  ex : ∃ f fd, FnOk P w K mg base CX0 k f fd ps sp ∧ XMk K C f ∧ Binds K fd ps []
  mg_ : mg x = some (.ref C)
section
variable {X : Cx} {EK : St → XK} {k : Nat} {f C : Addr} {fd : FuncData} {ps : List Str} {sp : Sp} {x m : Str} {p pos apos : Pos} {e o : Expr} {es : List Expr} {ta : TE} {t : TA}
theorem run_fnS {pins : List (Addr × Obj)} {σ : St} {H : Hp} {s : Shared} {Q : VK} {us : List Value} {vs : List V} (F : FnOk X.prog X.w X.K X.mg X.base (CX1 X.prog X.w) k f fd ps sp) (hr : Room k X.A) (hb : Binds X.K fd ps []) (XX : XOk X EK)
    (I : Inv X pins σ H s) (r : Vals vs us) (h : sp vs H Q (EK σ)) : wpAny (model X.prog X.w) X.A (call (.ref f) us) (EP X pins σ Q) X.xe s := by
  have hl : (us ++ []).length = ps.length := by rw [List.append_nil, ← r.length]; exact F.len _ _ _ _ h
  have b := hb s us I.kIn hl
  rw [List.append_nil] at b
  refine wpAny_call (codeAny_mono (F.run X.A X.stack s H ⟨us, []⟩ us vs Q (EK σ) hr I.env0 b r h) fun r s' hq => ?_)
  cases r with
  | error e => exact XX.pass pins σ H s e s' I hq
  | ok fl =>
    cases fl with
    | ret u => exact I.after hq
    | _ => exact False.elim hq
theorem pe_defS (D : DefOk X.prog X.w X.K X.mg X.base (CX1 X.prog X.w) k x ps sp) (hr : Room k X.A) (XX : XOk X EK) (ha : PA X (e :: es) t) (hg : Gl X x := by rfl) (hdb : (x == ("__debug__" : Str)) = false := by decide)
    (he : starEach (e :: es) X.env = (false, eval e X.env) :: starEach es X.env := by rfl) (hpl : (backTo pos (starEach es X.env)).any (·.1) = false := by rfl) : PE X (.Call (.Name x p) (e :: es) [] pos) (tCallS sp EK t) := by
  obtain ⟨f, fd, F, hm, hk, hb⟩ := D.ex
  intro pins s σ H Q I h
  refine wpAny_Call_Name_kw (ld_glob I hg hm ?_ hdb)
  refine PySem.W.callWith_K (h₀ := X.base) I.ok.mod.kin hk (thn (ha pos pins s σ H _ I h) fun us s1 ⟨vs, H1, I1, r, q⟩ => ⟨I1.kIn, ?_⟩) he hpl
  exact run_fnS F hr hb XX I1 r q
theorem pe_methS {pl : Sem Bool} (D : MethOk X.prog X.w X.K X.mg X.base (CX1 X.prog X.w) k C m ps sp) (hr : Room k X.A) (XX : XOk X EK) (he : PE X o ta) (ha : PA X (e :: es) t)
    (hst : starEach (e :: es) X.env = (false, eval e X.env) :: starEach es X.env := by rfl) (hpl : (backTo pos (starEach es X.env)).any (·.1) = false := by rfl)
    (ht : eval (.Call (.Attribute o m apos) (e :: es) [] pos) X.env = (do
      let ov ← eval o X.env
      standAt apos.atName
      let (f, first) ← holding [ov] (getMethod ov m pl)
      callWith pos f first (backTo pos (starEach (e :: es) X.env)) (backToKw pos (keywordEach [] X.env))) := by rfl) :
    PE X (.Call (.Attribute o m apos) (e :: es) [] pos) (tMethS C m sp EK ta t) := by
  obtain ⟨f, fd, F, hm, hb⟩ := D.ex
  intro pins s σ H Q I h
  refine PySem.W.methodCall_KW (pl := pl) (thn (he pins s σ H _ I h) fun u s1 ⟨x, H1, I1, rx, a, dx, fs, ex, ea, l, q⟩ => ?_) ht
  subst ex
  obtain rfl : u = Value.ref a := rx
  refine getmeth_ok I1 ea D.cl hm l ?_
  refine PySem.W.callWith_K (first := [.ref a]) (h₀ := X.base) I.ok.mod.kin hm.kp (thn (ha pos pins s1 σ H1 _ I1 q) fun us s2 ⟨vs, H2, I2, r, q2⟩ => ⟨I2.kIn, ?_⟩) hst hpl
  exact run_fnS (us := .ref a :: us) (vs := .ref a :: vs) F hr hb XX I2 (.cons rfl r) q2
theorem run_makeS {pins : List (Addr × Obj)} {σ : St} {H : Hp} {s : Shared} {Q : VK} {us : List Value} {vs : List V} (M : Mk X.K C f) (F : FnOk X.prog X.w X.K X.mg X.base (CX1 X.prog X.w) k f fd ps sp) (hr : Room (k + 1) X.A) (hb : Binds X.K fd ps []) (XX : XOk X EK)
    (I : Inv X pins σ H s) (r : Vals vs us) (h : ∀ x dx, H x = none → H dx = none → dx ≠ x → sp (.ref x :: vs) (upd (upd H dx (.own x)) x (.ins C dx [])) (fun v H2 => v = .non ∧ Q (.ref x) H2) (EK σ)) :
    wpAny (model X.prog X.w) X.A (call (.ref C) us) (EP X pins σ Q) X.xe s := by
  have hq := h (s.heap.objs.size + 1) s.heap.objs.size (I.hok.fresh (Nat.le_succ _)) (I.hok.fresh (Nat.le_refl _)) (Nat.ne_of_lt (Nat.lt_succ_self _))
  have I2 := Inv.made (C := C) I
  have r2 : Vals (V.ref (s.heap.objs.size + 1) :: vs) (Value.ref (s.heap.objs.size + 1) :: us) := .cons rfl r
  have hl : (Value.ref (s.heap.objs.size + 1) :: us ++ []).length = ps.length := by
    have q := r2.length
    rw [F.len _ _ _ _ hq] at q
    rw [List.append_nil]
    exact q.symm
  have b := hb _ (Value.ref (s.heap.objs.size + 1) :: us) I2.kIn hl
  rw [List.append_nil] at b
  refine wpAny_call (make_map (f := f) I.kIn M.makes M.init (beq_iff_eq.mp M.fn) (codeAny_mono (F.run _ X.stack _ _ ⟨Value.ref (s.heap.objs.size + 1) :: us, []⟩ (Value.ref (s.heap.objs.size + 1) :: us) _ _ (EK σ) (hr.make C us [])
    (I2.env0.make C us []) b r2 hq) fun r s' hq' => ?_))
  cases r with
  | error e => exact XX.pass pins σ _ _ e s' I2 hq'
  | ok fl =>
    cases fl with
    | ret u =>
      obtain ⟨v, H', I3, rv, ev, q3⟩ := I2.after hq'
      subst ev
      exact ⟨rv, ⟨V.ref (s.heap.objs.size + 1), H', I3, rfl, q3⟩⟩
    | _ => exact False.elim hq'
theorem pe_makeS (D : MakeOk X.prog X.w X.K X.mg X.base (CX1 X.prog X.w) k C x ps sp) (hr : Room (k + 1) X.A) (XX : XOk X EK) (ha : PA X (e :: es) t) (hg : Gl X x := by rfl) (hdb : (x == ("__debug__" : Str)) = false := by decide)
    (he : starEach (e :: es) X.env = (false, eval e X.env) :: starEach es X.env := by rfl) (hpl : (backTo pos (starEach es X.env)).any (·.1) = false := by rfl) : PE X (.Call (.Name x p) (e :: es) [] pos) (tMakeS C sp EK t) := by
  obtain ⟨f, fd, F, M, hb⟩ := D.ex
  intro pins s σ H Q I h
  refine wpAny_Call_Name_kw (ld_glob I hg D.mg_ ?_ hdb)
  refine PySem.W.callWith_K (h₀ := X.base) I.ok.mod.kin M.kp (thn (ha pos pins s σ H _ I h) fun us s1 ⟨vs, H1, I1, r, q⟩ => ⟨I1.kIn, ?_⟩) he hpl
  exact run_makeS M F hr hb XX I1 r q
theorem pe_xm (D : XMakeOk X.prog X.w X.K X.mg X.base k C x ps sp) (hr : Room (k + 1) X.A) (ha : PA X (e :: es) t) (hg : Gl X x := by rfl) (hdb : (x == ("__debug__" : Str)) = false := by decide)
    (he : starEach (e :: es) X.env = (false, eval e X.env) :: starEach es X.env := by rfl) (hpl : (backTo pos (starEach es X.env)).any (·.1) = false := by rfl) : PE X (.Call (.Name x p) (e :: es) [] pos) (tXMake C sp E0 t) := by
  obtain ⟨f, fd, F, M, hb⟩ := D.ex
  exact pe_xmake M F hr hg D.mg_ hb pass0 ha hdb he hpl
theorem pe_methQ {pl : Sem Bool} (D : MethOk X.prog X.w X.K X.mg X.base CX0 k C m ps sp) (hr : Room k X.A) (he : PE X o ta) (ha : PA X (e :: es) t)
    (hst : starEach (e :: es) X.env = (false, eval e X.env) :: starEach es X.env := by rfl) (hpl : (backTo pos (starEach es X.env)).any (·.1) = false := by rfl)
    (ht : eval (.Call (.Attribute o m apos) (e :: es) [] pos) X.env = (do
      let ov ← eval o X.env
      standAt apos.atName
      let (f, first) ← holding [ov] (getMethod ov m pl)
      callWith pos f first (backTo pos (starEach (e :: es) X.env)) (backToKw pos (keywordEach [] X.env))) := by rfl) :
    PE X (.Call (.Attribute o m apos) (e :: es) [] pos) (tMeth C m sp [] E0 ta t) := by
  obtain ⟨f, fd, F, hm, hb⟩ := D.ex
  exact pe_meth (pl := pl) he D.cl hm F hr hb .nil pass0 ha hst hpl ht
theorem pe_meth0Q {pl : Sem Bool} (D : MethOk X.prog X.w X.K X.mg X.base CX0 k C m ps sp) (hr : Room k X.A) (he : PE X o ta)
    (ht : eval (.Call (.Attribute o m apos) [] [] pos) X.env = (do
      let ov ← eval o X.env
      standAt apos.atName
      let (f, first) ← holding [ov] (getMethod ov m pl)
      callWith pos f first (backTo pos (starEach [] X.env)) (backToKw pos (keywordEach [] X.env))) := by rfl) :
    PE X (.Call (.Attribute o m apos) [] [] pos) (tMeth C m sp [] E0 ta tNil) := by
  obtain ⟨f, fd, F, hm, hb⟩ := D.ex
  exact pe_meth0 (pl := pl) he D.cl hm F hr hb .nil pass0 ht
end
section
variable {P : Program} {w : World} {K : PySem.W.Frag} {mg : Str → Option Value} {base : Heap}
theorem Fun.ok1 {x qual : Str} {st : Stmt} {f : Addr} {fd : FuncData} {N ps : List Str} {k : Nat} {sp : Sp} (F : Fun K x qual st f fd) (S : FnScope N ps (defScope st)) (len : ∀ vs H Q E, sp vs H Q E → vs.length = ps.length)
    (hbody : ∀ (cdv : Value) (A : Around) (outer : List Env) (s : Shared) (H : Hp) (vs : List V) (Q : VK) (E : XK), Room k (A.deeper (envOfC qual (defScope st) s.heap.objs.size f cdv)) → sp vs H Q E →
      ∃ t, PSs (cxOf (CX1 P w) P w K mg base N qual (defScope st) f cdv A outer s H E) (defBody st) t ∧ t { nx := fun _ H' => Q .non H', rt := Q } (start N vs) H) : FnOk P w K mg base (CX1 P w) (k + 1) f fd ps sp := by
  obtain ⟨oc, od, kV, doc, pm, an, cdv, ct, osl, rfl, lk, hcd⟩ := F.ex
  exact fn_of lk hcd S len fun A outer s H vs Q E hr hsp => hbody cdv A outer s H vs Q E hr hsp
end
end L2
namespace L2
open PySem PySem.Spec PyProof.Rows
abbrev Cx.tried (X : Cx) (pn : List (Addr × Obj)) (E : Value → Shared → Prop) : Cx := { X with pn := pn, xe := E }
abbrev Cx.hand (X : Cx) (a : Addr) : Cx := { X with A := X.A.mark (some (.ref a)), calm := false, xe := fun _ _ => False }
section
variable {X : Cx} {pins pins' : List (Addr × Obj)} {σ : St} {H : Hp} {s : Shared} {E : Value → Shared → Prop} {a : Addr}
theorem Inv.tried (I : Inv X pins σ H s) (E : Value → Shared → Prop) : Inv (X.tried (X.pn ++ pins) E) [] σ H s :=
  ⟨⟨I.ok.mod, I.ok.kind, I.ok.glob, I.ok.blt, I.ok.above, I.ok.inj, I.ok.has, I.ok.cab, I.ok.hd, I.ok.frames, I.ok.stk, I.ok.exf, I.ok.bs, I.ok.bsz, I.ok.noex, I.ok.exfs, I.ok.funs, I.ok.frf⟩, I.os, I.bare, I.base, I.loc, I.cell, I.free, I.freeC,
    fun p hp => I.pin p (by have hp : p ∈ (X.pn ++ pins) ++ [] := hp; rw [List.append_nil] at hp; exact hp), I.hok, I.len⟩
theorem Inv.untried (I : Inv (X.tried (X.pn ++ pins) E) pins' σ H s) : Inv X pins σ H s :=
  ⟨⟨I.ok.mod, I.ok.kind, I.ok.glob, I.ok.blt, I.ok.above, I.ok.inj, I.ok.has, I.ok.cab, I.ok.hd, I.ok.frames, I.ok.stk, I.ok.exf, I.ok.bs, I.ok.bsz, I.ok.noex, I.ok.exfs, I.ok.funs, I.ok.frf⟩, I.os, I.bare, I.base, I.loc, I.cell, I.free, I.freeC,
    fun p hp => I.pin p (List.mem_append_left _ hp), I.hok, I.len⟩
theorem Inv.hand (I : Inv X pins σ H s) (a : Addr) : Inv (X.hand a) pins σ H s :=
  ⟨⟨I.ok.mod, I.ok.kind, I.ok.glob, I.ok.blt, I.ok.above, I.ok.inj, I.ok.has, I.ok.cab, (fun h => nomatch h), I.ok.frames, I.ok.stk, I.ok.exf, I.ok.bs, I.ok.bsz, I.ok.noex, I.ok.exfs, I.ok.funs, I.ok.frf⟩, I.os, I.bare, I.base, I.loc, I.cell, I.free, I.freeC, I.pin, I.hok, I.len⟩
theorem Inv.unhand (hc : X.calm = true → X.A.handled = none) (I : Inv (X.hand a) pins σ H s) : Inv X pins σ H s :=
  ⟨⟨I.ok.mod, I.ok.kind, I.ok.glob, I.ok.blt, I.ok.above, I.ok.inj, I.ok.has, I.ok.cab, hc, I.ok.frames, I.ok.stk, I.ok.exf, I.ok.bs, I.ok.bsz, I.ok.noex, I.ok.exfs, I.ok.funs, I.ok.frf⟩, I.os, I.bare, I.base, I.loc, I.cell, I.free, I.freeC, I.pin, I.hok, I.len⟩
structure Loose (X : Cx) (pins : List (Addr × Obj)) (H : Hp) (T : Addr) : Prop where
  hn : H T = none
  lo : X.s₀.heap.objs.size ≤ T
  nl : T ≠ X.env.locals
  nf : T ∉ X.fs
  nc : ∀ x c, X.env.cells.lookup x = some c → c ≠ T
  np : ∀ p ∈ X.pn ++ pins, p.1 ≠ T
theorem Inv.loose (I : Inv X pins σ H s) {T : Addr} (hT : s.heap.objs.size ≤ T) {H' : Hp} (hn : H' T = none) : Loose X pins H' T where
  hn := hn
  lo := Nat.le_trans I.sz hT
  nl := Nat.ne_of_gt (Nat.lt_of_lt_of_le I.lt hT)
  nf := I.nofs hT
  nc := fun x c e => by
    obtain ⟨v, o, ho, _⟩ := I.cell x c e
    exact Nat.ne_of_lt (Nat.lt_of_lt_of_le (Heap.lt_size ho) hT)
  np := fun p hp => Nat.ne_of_lt (Nat.lt_of_lt_of_le (Heap.lt_size (I.pin p hp).1) hT)
theorem Inv.noted {C T : Addr} {dx : Option Addr} {fl : Value} {zs : List Addr} {h' : Heap} (I : Inv X pins σ H s) (ha : H a = some (XO a C dx)) (k : Keep (frs X.stack) zs s.heap h') (hz : ∀ b ∈ zs, b = a ∨ Loose X pins H b) (t : Trc h' a (.ref C) dx T fl) :
    Inv X pins σ H { s with heap := h' } := by
  have hh := hok_keep I ha k (fun b hb => (hz b hb).imp (fun e => e) fun l => l.hn) t
  have nz : ∀ b, H b = none → b ∉ zs.filter (fun b => decide (b ≠ a)) → b ∉ zs := fun b n z y => z (List.mem_filter.mpr ⟨y, decide_eq_true fun e => by rw [e, ha] at n; cases n⟩)
  refine I.call (g' := s.gens) (t' := s.toks) (d' := s.drawn) (ch := zs.filter fun b => decide (b ≠ a)) ⟨fun b o e n hb hx => k.keep b o e (nz b n hx) hb, fun b o e n hb hx => k.slot b o e (nz b n hx) hb, fun _ _ _ n _ => n, fun b o e hx => ?_, fun _ _ e => e, fun _ _ _ e => e,
    fun b ps e => ⟨#[], by rw [e]; simp⟩⟩ hh I.bare fun b hb => ?_
  · by_cases hba : b = a
    · subst hba
      obtain ⟨vs, q, _⟩ := t.ex
      exact ⟨_, q⟩
    · have z : b ∉ zs := fun y => hx (List.mem_filter.mpr ⟨y, decide_eq_true hba⟩)
      by_cases hs : b ∈ frs X.stack
      · obtain ⟨sl, q⟩ := k.slot b o e z hs
        exact ⟨_, q⟩
      · exact ⟨o, k.keep b o e z hs⟩
  · obtain ⟨y, q⟩ := List.mem_filter.mp hb
    rcases hz b y with e | l
    · exact absurd e (of_decide_eq_true q)
    · exact ⟨.inr l.lo, l.nl, l.nc, l.np⟩
theorem unbind_ok {M : Model} {A : Around} {i : Nat} {x : Str} {v : V} {Q : Unit → Shared → Prop} (I : Inv X pins σ H s) (hN : X.N.Nodup) (hi : X.N[i]? = some x) (hx : X.env.scope.names.lookup x = some .local) (hv : σ[i]? = some (some v))
    (h : ∀ s', Inv X pins (σ.set i none) H s' → Q () s') : wpAny M A (unbindName X.env x) Q E s := by
  obtain ⟨m, hn, hl⟩ := id I.loc
  obtain ⟨u, ru, lk⟩ := hl i x v hi hv (.inl hx)
  have hm : m x = some u := by
    rcases lk with ⟨_, e⟩ | ⟨k, _⟩
    · exact e
    · have k' : X.env.scope.names.lookup x = some .cell ∨ X.env.scope.names.lookup x = some .free := k
      rw [hx] at k'
      rcases k' with z | z <;> cases z
  have hcls : (X.env.scope.kind == .class || (X.env.scope.kind == .module && X.env.locals != X.env.globals)) = false := by rw [I.ok.kind]; rfl
  refine wpAny_unbindName_local hx hn hm hcls fun h' u' hn' hs => ?_
  have lowL : ∀ b o, X.s₀.heap.get? b = some o → b ≠ X.env.locals := fun b o e => Nat.ne_of_lt (Nat.lt_of_lt_of_le (Heap.lt_size e) I.ok.above)
  refine h _ ⟨I.ok, I.os, I.bare, ⟨fun b o e n hb hx => ?_, fun b o e n hb hx => ?_, I.base.free, fun b o e hx => ?_, I.base.tups, I.base.frzs, I.base.tbls⟩, ⟨_, hn', fun j y v' e1 e2 e3 => ?_⟩, fun y c e => ?_, I.free, I.freeC, fun p hp => ?_, fun b ob e => ?_, by simpa using I.len⟩
  · exact (hs.2 b (lowL b o e)).trans (I.base.keep b o e n hb hx)
  · obtain ⟨sl, e1⟩ := I.base.slot b o e n hb hx
    exact ⟨sl, (hs.2 b (lowL b o e)).trans e1⟩
  · obtain ⟨o', e1⟩ := I.base.there b o e hx
    exact ⟨o', (hs.2 b (lowL b o e)).trans e1⟩
  · by_cases hj : j = i
    · subst hj
      have hlt : j < σ.length := by rw [I.len]; exact (List.getElem?_eq_some_iff.mp hi).1
      rw [List.getElem?_set_self hlt] at e2
      cases e2
    · rw [List.getElem?_set_ne (Ne.symm hj)] at e2
      obtain ⟨w', r', q⟩ := hl j y v' e1 e2 e3
      refine ⟨w', r', ?_⟩
      rcases q with ⟨k, e⟩ | ⟨k, c, e, z⟩
      · have ny : y ≠ x := fun e => hj (nodup_ix hN e1 (e ▸ hi))
        exact .inl ⟨k, by simp [ny, e]⟩
      · exact .inr ⟨k, c, e, z.sameBut hs (I.cne y c e)⟩
  · obtain ⟨w', z⟩ := I.cell y c e
    exact ⟨w', z.sameBut hs (I.cne y c e)⟩
  · obtain ⟨e, n, ne, nf, d⟩ := I.pin p hp
    exact ⟨(hs.2 p.1 ne).trans e, n, ne, nf, d⟩
  · refine (I.hok b ob e).stay (fun c w' hc q => (hs.2 c ?_).trans q) (fun _ q => q) fun _ _ q => q
    rintro rfl
    rcases hc with rfl | hc
    · rw [I.free] at e; cases e
    · rw [I.free] at hc; cases hc
end
end L2
namespace L2
open PySem PySem.Spec PyProof.Rows
structure Held (X : Cx) (pins : List (Addr × Obj)) (H : Hp) (h : Heap) (a C : Addr) (dx : Option Addr) : Prop where
  at_ : H a = some (XO a C dx)
  tr : ∃ T, Trc h a (.ref C) dx T .none ∧ Loose X pins H T
def PH (X : Cx) (a C : Addr) (dx : Option Addr) (hs : List ExceptHandler) (th : TS) : Prop :=
  ∀ (pins : List (Addr × Obj)) (s : Shared) (σ : St) (H : Hp) (D : Ends), Inv X pins σ H s → Held X pins H s.heap a C dx → th D σ H → wpAny (model X.prog X.w) X.A (handleBy (.ref a) X.env hs) (SP X pins D) X.xe s
def thNil : TS := fun _ _ _ => False
def thAs (K : PySem.W.Frag) (a C D : Addr) (i : Nat) (tb rest : TS) : TS := fun Z σ H => ∃ b, PySem.W.mroIn K C (.ref D) = some b ∧ XAt K D ∧ XAt K C ∧
  if b = true then tb { nx := fun σ' H' => Z.nx (σ'.set i none) H', rt := Z.rt, bk := fun σ' H' => Z.bk (σ'.set i none) H', ct := fun σ' H' => Z.ct (σ'.set i none) H' } (σ.set i (some (.ref a))) H else rest Z σ H
theorem xmatch {M : Model} {A : Around} {E : Value → Shared → Prop} {s : Shared} {K : PySem.W.Frag} {a C D : Addr} {o : Obj} {b : Bool} {Q : Bool → Shared → Prop} (X : K.In s.heap) (ho : s.heap.get? a = some o) (hc : o.cls = .ref C) (d : XAt K D) (hb : PySem.W.mroIn K C (.ref D) = some b) (q : Q b s) :
    wpAny M A (excMatches (.ref a) (.ref D)) Q E s := by
  obtain ⟨nm, qn, N, bs, bm, hdct, sn, sub, ab, col, dd, k0, k1, k2, k3, k5, hD, hm⟩ := xc_cls X d.xc
  have hcB : (Value.ref D :: bm).contains (.type "BaseException") = true := by rw [List.contains_cons, xMro_has hm (by simp), Bool.or_true]
  have f := tc_notTuple
  have L := PySem.W.looks_mroIn (M := M) X hb
  obtain ⟨hp, g, dr, tk, os⟩ := s
  unfold excMatches
  repeat (first | with_reducible refine wpAny_loadPart_at hD ?_ | (with_reducible refine wpAny_loadPart_at ho ?_; rw [hc]) | (with_reducible refine wpAny_isSubtype_exc hD ?_; rw [hcB]) | with_reducible refine L.at ?_ | wp_step)
  cases b <;> (wp_walk; exact q)
section
variable {X : Cx} {a C D : Addr} {dx : Option Addr} {c n : Str} {cp pos : Pos} {b0 : Stmt} {body : List Stmt} {rest : List ExceptHandler} {tb tr : TS} {i : Nat} {K : PySem.W.Frag}
theorem ph_nil : PH X a C dx [] thNil := fun _ _ _ _ _ _ _ h => h.elim
theorem suite_as {prog : Program} {w : World} {A : Around} {R : Result → Shared → Prop} {s : Shared} {env : Env} {e : Value}
    (h : wpAny (model prog w) A (setFlight e none) (fun _ s1 => wpAny (model prog w) A (bindName env n e) (fun _ s2 => wpAny (model prog w) A (execs (b0 :: body) env) (fun f s3 => R (.ok f) s3) (fun _ _ => False) s2) (fun _ _ => False) s1) (fun _ _ => False) s) :
    codeAny (model prog w) A (.handlers e [.ExceptHandler none (some n) (b0 :: body) pos] env) R s := by
  refine codeAny_of_tree ?_
  show wpAny _ A (do return Fin.done (← (handleWith e env [.ExceptHandler none (some n) (b0 :: body) pos]).onRaise (fun x => do noteFrame x env; theTreesLotGoes x))) _ _ s
  refine wpAny_bind (wpAny_noted ?_)
  unfold handleWith
  refine wpAny_bind (wpAny_standAt (wpAny_bind (wpAny_mono h (fun _ s1 h1 => wpAny_bind (wpAny_mono h1 (fun _ s2 h2 => wpAny_bind (wpAny_attempt (wpAny_mono h2 (fun f s3 h3 => wpAny_pure (wpAny_pure h3)) fun _ _ z => z.elim))) fun _ _ z => z.elim)) fun _ _ z => z.elim)))
theorem ph_as (hK : X.K = K) (hN : X.N.Nodup) (hi : X.N[i]? = some n) (hx : X.env.scope.names.lookup n = some .local) (hg : Gl X c) (hm : X.mg c = some (.ref D)) (hb : PSs (X.hand a) (b0 :: body) tb) (hr : PH X a C dx rest tr)
    (hdb : (c == ("__debug__" : Str)) = false := by decide) : PH X a C dx (.ExceptHandler (some (.Name c cp)) (some n) (b0 :: body) pos :: rest) (thAs K a C D i tb tr) := by
  subst hK
  intro pins s σ H Z I hl h
  obtain ⟨b, hb1, xd, xc, q⟩ := h
  obtain ⟨vs, he⟩ := (show IsX H a C dx from .inr hl.at_).get I.hok
  refine wpAny_handleBy_cons (codeAny_handlers_test ?_) (by intro q; cases q)
  have Ih := I.hand a
  refine ld_glob (X := X.hand a) Ih hg hm (xmatch I.kIn he rfl xd hb1 ?_) hdb
  cases b with
  | false => exact hr pins s σ H Z I hl q
  | true =>
    obtain ⟨T, t, lo⟩ := hl.tr
    refine suite_as (xflight t fun h1 t1 k1 sz1 => ?_)
    have kk : Keep (frs X.stack) [T] s.heap h1 := ⟨fun b o e z _ => k1 b o (by simpa using z) e, fun b o e z _ => ⟨o.slots, k1 b o (by simpa using z) e⟩⟩
    have I1 := I.noted hl.at_ kk (fun b hb => .inr (by rw [List.mem_singleton.mp hb]; exact lo)) t1
    have I2 := I1.hand a
    refine wpAny_bindName (store_ok (X := X.hand a) I2 hN hi (.inl hx) (v := .ref a) rfl (fun s2 I3 => ?_) (.inr hx))
    have q' : tb { nx := fun σ' H' => Z.nx (σ'.set i none) H', rt := Z.rt, bk := fun σ' H' => Z.bk (σ'.set i none) H', ct := fun σ' H' => Z.ct (σ'.set i none) H' } (σ.set i (some (.ref a))) H := q
    refine thn (hb pins s2 _ H _ I3 q') fun f s3 hf => ?_
    have fin : ∀ {σ' : St} {H' : Hp} {Q : Unit → Shared → Prop}, Inv (X.hand a) pins σ' H' s3 → (∀ s4, Inv X pins (σ'.set i none) H' s4 → Q () s4) → wpAny (model X.prog X.w) X.A (do bindName X.env n .none; unbindBehindTheSuite X.env n pos) Q X.xe s3 := fun {σ' H' Q} J k => by
      have J' := Inv.unhand I.ok.hd J
      have hlt : i < σ'.length := by rw [J'.len]; exact (List.getElem?_eq_some_iff.mp hi).1
      refine wpAny_bind (wpAny_bindName (store_ok J' hN hi (.inl hx) (v := .non) rfl (fun s4 J4 => ?_) (.inr hx)))
      refine wpAny_onRaise (unbind_ok J4 hN hi hx (v := .non) (by rw [List.getElem?_set_self hlt]) fun s5 J5 => k s5 ?_)
      rw [List.set_set] at J5
      exact J5
    cases f with
    | next => obtain ⟨σ', H', J, z⟩ := hf; exact fin J fun s4 J4 => ⟨_, H', J4, z⟩
    | brk => obtain ⟨σ', H', J, z⟩ := hf; exact fin J fun s4 J4 => ⟨_, H', J4, z⟩
    | cont => obtain ⟨σ', H', J, z⟩ := hf; exact fin J fun s4 J4 => ⟨_, H', J4, z⟩
    | ret u => obtain ⟨v, σ', H', J, r, z⟩ := hf; exact fin J fun s4 J4 => ⟨v, _, H', J4, r, z⟩
end
end L2
namespace L2
open PySem PySem.Spec PyProof.Rows
def tTry (X : Cx) (body : List Stmt) (hs : List ExceptHandler) (te : TS) : TS := fun D σ H => ∃ (EK : St → XK) (tb : TS), (∀ pn xe, XOk (X.tried pn xe) EK → PSs (X.tried pn xe) body tb) ∧
  tb { nx := te D, rt := D.rt, bk := D.bk, ct := D.ct } σ H ∧ ∀ (a C : Addr) (dx : Option Addr) (σ' : St) (H' : Hp), EK σ' (.ref C) dx H' → H' a = some (XO a C dx) → ∃ th, PH X a C dx hs th ∧ th D σ' H'
section
variable {X : Cx} {body orelse : List Stmt} {h0 : ExceptHandler} {hs : List ExceptHandler} {pos : Pos} {te : TS}
theorem ps_try (hc : X.calm = true) (hst : X.stack = X.env :: X.outer) (hfr : X.env.frame = some X.env.locals) (ho : PSs X orelse te) : PS X (.Try body (h0 :: hs) orelse [] pos) (tTry X body (h0 :: hs) te) := by
  intro pins s σ H D I h
  obtain ⟨EK, tb, hb, q, hh⟩ := h
  have hfs : X.A.frames = some (X.env :: X.outer) := by rw [← hst]; exact I.ok.frames
  let xe' : Value → Shared → Prop := fun e s1 => ∃ (a C : Addr) (dx : Option Addr) (σ' : St) (H' : Hp), e = .ref a ∧ Inv X pins σ' H' s1 ∧ H' a = some (XO a C dx) ∧ EK σ' (.ref C) dx H' ∧
    ((∃ T, Trc s1.heap a (.ref C) dx T .none ∧ Loose X pins H' T) ∨ ∃ a0, s1.heap.get? a = some ⟨.ref C, dx, .fields (xfs a0), #[]⟩)
  have XX : XOk (X.tried (X.pn ++ pins) xe') EK := by
    refine ⟨fun pins' σ' H1 s1 e s2 J hx => ?_, fun pins' σ' H1 s1 a C dx J e z => ?_, hc⟩
    · obtain ⟨a, C, dx, T, H', rfl, hos, hbr, un, hok, ha, t, hT, hTn, z⟩ := hx
      have J1 := J.call' (s' := s2) (H' := H') (ch := []) hos un hok hbr (fun b z => absurd z (by simp))
      have J0 := Inv.untried J
      exact ⟨a, C, dx, σ', H', rfl, Inv.untried J1, ha, z, .inl ⟨T, t, J0.loose hT hTn⟩⟩
    · have J0 := Inv.untried J
      obtain ⟨⟨a0, hx⟩, _⟩ := (show ObjOk _ _ H1 s1.heap a (XN a C dx) from J0.hok a _ e)
      have J1 : Inv X pins σ' (upd H1 a (XO a C dx)) s1 := J0.write (x := a) (e := a) (o := XO a C dx) (h' := s1.heap) (t' := s1.toks) (by rw [e]; exact True.intro) (.inl rfl) (fun _ _ _ q => q) ⟨_, hx⟩ (XO.ok hx)
      exact ⟨a, C, dx, σ', _, rfl, J1, upd_same, z, .inr ⟨a0, hx⟩⟩
  have B := hb (X.pn ++ pins) xe' XX [] s σ H _ (I.tried xe') q
  refine wpAny_Try_except (wpAny_mono B (fun f s1 hf => ?_) fun e s1 he => ?_)
  · cases f with
    | next => obtain ⟨σ', H', J, z⟩ := hf; exact ho pins s1 σ' H' D (Inv.untried J) z
    | brk => obtain ⟨σ', H', J, z⟩ := hf; exact ⟨σ', H', Inv.untried J, z⟩
    | cont => obtain ⟨σ', H', J, z⟩ := hf; exact ⟨σ', H', Inv.untried J, z⟩
    | ret u => obtain ⟨v, σ', H', J, r, z⟩ := hf; exact ⟨v, σ', H', Inv.untried J, r, z⟩
  · obtain ⟨a, C, dx, σ', H', rfl, J, ha, z, tt⟩ := he
    obtain ⟨th, hp, hq⟩ := hh a C dx σ' H' z ha
    have stk : s1.heap.FunFrames X.base (X.env :: X.outer) := by rw [← hst]; exact J.stack
    have go : ∀ (h' : Heap) (T' : Addr) (zs : List Addr), s1.heap.objs.size ≤ T' → Trc h' a (.ref C) dx T' (rawInt X.env.locals) → Keep (frs (X.env :: X.outer)) zs s1.heap h' → (∀ b ∈ zs, b = a ∨ Loose X pins H' b) →
        wpAny (model X.prog X.w) X.A (setFlight (.ref a) none) (fun _ s3 => wpAny (model X.prog X.w) X.A (handleBy (.ref a) X.env (h0 :: hs)) (SP X pins D) X.xe s3) X.xe { s1 with heap := h' } := fun h' T' zs hs' t' k hz => by
      have lo := J.loose hs' (J.hok.fresh hs')
      have J1 := J.noted ha (by rw [hst]; exact k) hz t'
      refine xflight (s := { s1 with heap := h' }) t' fun h2 t2 k2 sz2 => ?_
      have kk : Keep (frs X.stack) [T'] h' h2 := ⟨fun b o e z _ => k2 b o (by simpa using z) e, fun b o e z _ => ⟨o.slots, k2 b o (by simpa using z) e⟩⟩
      have J2 := J1.noted ha kk (fun b hb => .inr (by rw [List.mem_singleton.mp hb]; exact lo)) t2
      exact hp pins _ σ' H' D J2 ⟨ha, T', t2, lo⟩ hq
    rcases tt with ⟨T, t, lo⟩ | ⟨a0, hx⟩
    · refine xnote_on (base := X.base) hfs stk hfr t fun h' T' hs' t' k => go h' T' _ hs' t' k fun b hb => ?_
      simp only [List.mem_cons, List.not_mem_nil, or_false] at hb
      rcases hb with rfl | rfl
      · exact .inl rfl
      · exact .inr lo
    · refine xnote_new (base := X.base) hfs stk hfr hx rfl fun h' T' hs' t' k => go h' T' _ hs' t' k fun b hb => ?_
      exact .inl (List.mem_singleton.mp hb)
end
end L2
namespace L2
open PySem PySem.Spec PyProof.Rows
def TyX (K : PySem.W.Frag) (H : Hp) (x : V) (t : Value) : Prop := TyOf K H x t ∨ ∃ a C dx, x = .ref a ∧ t = .ref C ∧ IsX H a C dx ∧ XAt K C ∧ ∀ d, dx = some d → ∃ fs, H d = some (.xd fs)
theorem TyX.kit {X : Cx} {pins : List (Addr × Obj)} {σ : St} {H : Hp} {s : Shared} {x : V} {u t : Value} (I : Inv X pins σ H s) (rx : RelV x u) (ty : TyX X.K H x t) : ∃ P : Heap → Prop, PySem.W.KitX X.K u t P ∧ P s.heap ∧ u ≠ .builtin "__main__.__loader__#opaque" := by
  rcases ty with ty | ⟨a, C, dx, rfl, rfl, hx, c, hd⟩
  · exact ty.kit I rx
  · cases rx
    obtain ⟨vs, he⟩ := hx.get I.hok
    cases dx with
    | none => exact ⟨_, kitx_exc (od := none) c, ⟨he, rfl, rfl, True.intro⟩, fun z => nomatch z⟩
    | some d =>
      obtain ⟨fs, hf⟩ := hd d rfl
      obtain ⟨od, mA, h1, _⟩ := xd_get I hf
      exact ⟨_, kitx_exc (od := some od) c, ⟨he, rfl, rfl, h1⟩, fun z => nomatch z⟩
def rIsiU (K : PySem.W.Frag) : List V → Hp → VK → Prop := fun xs H Q => ∃ x y t c b, xs = [x, y] ∧ TyX K H x t ∧ clsVal y = some c ∧ PySem.W.kitOne K t c = some b ∧ Q (.bl b) H
def rIsiTU (K : PySem.W.Frag) : List V → Hp → VK → Prop := fun xs H Q => ∃ x p ys t cs b, xs = [x, .ref p] ∧ TyX K H x t ∧ H p = some (.tup ys) ∧ ys.map clsVal = cs.map some ∧ PySem.W.kitAny K t cs = some b ∧ Q (.bl b) H
section
variable {X : Cx} {K : PySem.W.Frag}
theorem k_isiU (hK : X.K = K) : CallR X (.builtin "isinstance") (rIsiU K) := by
  subst hK
  intro pins s σ H xs us Q I r h
  obtain ⟨x, y, t, c, b, rfl, ty, hy, hb, q⟩ := h
  obtain ⟨u, v, rfl, ru, rv⟩ := vals2 r
  have e := clsVal_rel hy rv
  subst e
  obtain ⟨P, Z, p, ne⟩ := ty.kit I ru
  exact PySem.W.kia_one Z I.kIn p hb ne fun tk => ⟨.bl b, H, I.tok tk, rfl, q⟩
theorem k_isiTU (hK : X.K = K) : CallR X (.builtin "isinstance") (rIsiTU K) := by
  subst hK
  intro pins s σ H xs us Q I r h
  obtain ⟨x, p, ys, t, cs, b, rfl, ty, hp, hy, hb, q⟩ := h
  obtain ⟨u, v, rfl, ru, rv⟩ := vals2 r
  cases rv
  obtain ⟨P, Z, pz, ne⟩ := ty.kit I ru
  obtain ⟨_, its, rv, o, ho, hc, n, hd⟩ := (show ObjOk X.prog X.w H s.heap p (.tup ys) from I.hok p _ hp)
  have e := clsVals_rel hy rv
  subst e
  obtain ⟨c, dd, dt, sl⟩ := o
  have hc' : c = .type "tuple" := hc
  have hd' : dt = .seq its.toArray n := hd
  subst hc' hd'
  exact PySem.W.kia_tup Z I.kIn pz ho hb ne fun tk => ⟨.bl b, H, I.tok tk, rfl, q⟩
end
mutual
inductive EqD (K : PySem.W.Frag) (H : Hp) : Nat → V → V → Bool → Prop
  | flat {n : Nat} {x y : V} (fx : flatV x = true) (fy : flatV y = true) : EqD K H n x y (eqV x y)
  | self {n : Nat} {a : Addr} : EqD K H n (.ref a) (.ref a) true
  | deep {n : Nat} {a b : Addr} {k : Bool} (h : EqT K H n a b k) (ne : a ≠ b) : EqD K H n (.ref a) (.ref b) k
inductive EqT (K : PySem.W.Frag) (H : Hp) : Nat → Addr → Addr → Bool → Prop
  | lst {n : Nat} {a b : Addr} {xs ys : List V} {e : Nat → Bool} (ha : SqL K H a xs) (hb : SqL K H b ys) (hl : xs.length = ys.length) (he : ∀ j x y, xs[j]? = some x → ys[j]? = some y → EqD K H n x y (e j)) : EqT K H (n + 1) a b ((List.range xs.length).all e)
  | lstL {n : Nat} {a b : Addr} {xs ys : List V} (ha : SqL K H a xs) (hb : SqL K H b ys) (hl : xs.length ≠ ys.length) : EqT K H (n + 1) a b false
  | tup {n : Nat} {a b : Addr} {xs ys : List V} {e : Nat → Bool} (ha : SqT K H a xs) (hb : SqT K H b ys) (he : ∀ j x y, xs[j]? = some x → ys[j]? = some y → EqD K H n x y (e j)) : EqT K H (n + 1) a b ((List.range (min xs.length ys.length)).all e && xs.length == ys.length)
  | lt {n : Nat} {a b : Addr} {xs ys : List V} (ha : SqL K H a xs) (hb : SqT K H b ys) : EqT K H (n + 1) a b false
  | tl {n : Nat} {a b : Addr} {xs ys : List V} (ha : SqT K H a xs) (hb : SqL K H b ys) : EqT K H (n + 1) a b false
end
theorem vals_getU : ∀ {xs : List V} {us : List Value} {j : Nat} {u : Value}, Vals xs us → us[j]? = some u → ∃ x, xs[j]? = some x ∧ RelV x u
  | _, _, _, _, .nil, e => by simp at e
  | _, _, 0, _, .cons r _, e => by simp at e; subst e; exact ⟨_, rfl, r⟩
  | _, _, j + 1, u, .cons _ t, e => by
    obtain ⟨x, h1, h2⟩ := vals_getU (j := j) (u := u) t (by simpa using e)
    exact ⟨x, by simpa using h1, h2⟩
section
variable {X : Cx} {pins : List (Addr × Obj)} {σ : St} {H : Hp} {s : Shared}
theorem eq_both (I : Inv X pins σ H s) : ∀ n, (∀ (A : Around) (x y : V) (k : Bool) (u v : Value), EqD X.K H n x y k → RelV x u → RelV y v → A.units + n < cLine → SeqAt.EqAt A s u v k) ∧ (∀ (A : Around) (a b : Addr) (k : Bool), EqT X.K H n a b k → A.units + n < cLine → SeqAt.RcAt A s (.ref a) (.ref b) k) := by
  intro n
  induction n with
  | zero =>
    have t0 : ∀ (A : Around) (a b : Addr) (k : Bool), EqT X.K H 0 a b k → A.units + 0 < cLine → SeqAt.RcAt A s (.ref a) (.ref b) k := fun A a b k h => by cases h
    refine ⟨fun A x y k u v h rx ry hu => ?_, t0⟩
    cases h with
    | flat fx fy => exact eqAt_V rx ry fx fy
    | self => cases rx; cases ry; exact SeqAt.EqAt.same _
    | deep h ne => cases h
  | succ n ih =>
    have t1 : ∀ (A : Around) (a b : Addr) (k : Bool), EqT X.K H (n + 1) a b k → A.units + (n + 1) < cLine → SeqAt.RcAt A s (.ref a) (.ref b) k := fun A a b k h hu => by
      have hu0 : A.units < cLine := by omega
      have hu1 : A.in1.units + n < cLine := by show A.units + 1 + n < cLine; omega
      cases h with
      | @lst _ _ _ xs ys e ha hb hl he =>
        obtain ⟨its, r, pl, hz⟩ := I.list ha
        obtain ⟨its2, r2, pl2, hz2⟩ := I.list hb
        have e1 : xs.length = its.toArray.size := by rw [List.size_toArray]; exact r.length
        have e2 : ys.length = its2.toArray.size := by rw [List.size_toArray]; exact r2.length
        rw [e1]
        refine SeqAt.RcAt.lists pl.isList pl2.isList (by rw [← e1, ← e2, hl]) hu0 fun j h1 h2 => ?_
        have g1 : its[j]? = some its.toArray[j] := by simp
        have g2 : its2[j]? = some its2.toArray[j] := by simp
        obtain ⟨x, hx, rx⟩ := vals_getU r g1
        obtain ⟨y, hy, ry⟩ := vals_getU r2 g2
        exact ih.1 A.in1 x y (e j) _ _ (he j x y hx hy) rx ry hu1
      | @lstL _ _ _ xs ys ha hb hl =>
        obtain ⟨its, r, pl, hz⟩ := I.list ha
        obtain ⟨its2, r2, pl2, hz2⟩ := I.list hb
        refine SeqAt.RcAt.lists_lengths pl.isList pl2.isList ?_ hu0
        rw [List.size_toArray, List.size_toArray, ← r.length, ← r2.length]
        simp [hl]
      | @tup _ _ _ xs ys e ha hb he =>
        obtain ⟨its, r, pl, hz⟩ := I.tuple ha
        obtain ⟨its2, r2, pl2, hz2⟩ := I.tuple hb
        have e1 : xs.length = its.toArray.size := by rw [List.size_toArray]; exact r.length
        have e2 : ys.length = its2.toArray.size := by rw [List.size_toArray]; exact r2.length
        rw [e1, e2]
        refine SeqAt.RcAt.tuples pl pl2 hu0 fun j h1 h2 => ?_
        have g1 : its[j]? = some its.toArray[j] := by simp
        have g2 : its2[j]? = some its2.toArray[j] := by simp
        obtain ⟨x, hx, rx⟩ := vals_getU r g1
        obtain ⟨y, hy, ry⟩ := vals_getU r2 g2
        exact ih.1 A.in1 x y (e j) _ _ (he j x y hx hy) rx ry hu1
      | lt ha hb =>
        obtain ⟨its, r, pl, hz⟩ := I.list ha
        obtain ⟨its2, r2, pl2, hz2⟩ := I.tuple hb
        exact SeqAt.RcAt.list_tuple pl.isList pl2 hu0
      | tl ha hb =>
        obtain ⟨its, r, pl, hz⟩ := I.tuple ha
        obtain ⟨its2, r2, pl2, hz2⟩ := I.list hb
        exact SeqAt.RcAt.tuple_list pl pl2.isList hu0
    refine ⟨fun A x y k u v h rx ry hu => ?_, t1⟩
    cases h with
    | flat fx fy => exact eqAt_V rx ry fx fy
    | self => cases rx; cases ry; exact SeqAt.EqAt.same _
    | deep h ne => cases rx; cases ry; exact SeqAt.EqAt.of_refs ne (t1 A _ _ k h hu)
theorem ne_refs (I : Inv X pins σ H s) {n : Nat} {A : Around} {a b : Addr} {k : Bool} (h : EqT X.K H n a b k) (hu : A.units + n < cLine) : SeqAt.RcNeAt A s (.ref a) (.ref b) (!k) := by
  cases n with
  | zero => cases h
  | succ n =>
    have ih := eq_both I n
    have hu0 : A.units < cLine := by omega
    have hu1 : A.in1.units + n < cLine := by show A.units + 1 + n < cLine; omega
    cases h with
    | @lst _ _ _ xs ys e ha hb hl he =>
      obtain ⟨its, r, pl, hz⟩ := I.list ha
      obtain ⟨its2, r2, pl2, hz2⟩ := I.list hb
      have e1 : xs.length = its.toArray.size := by rw [List.size_toArray]; exact r.length
      have e2 : ys.length = its2.toArray.size := by rw [List.size_toArray]; exact r2.length
      rw [e1]
      refine SeqAt.RcNeAt.lists pl.isList pl2.isList (by rw [← e1, ← e2, hl]) hu0 fun j h1 h2 => ?_
      obtain ⟨x, hx, rx⟩ := vals_getU r (show its[j]? = some its.toArray[j] by simp)
      obtain ⟨y, hy, ry⟩ := vals_getU r2 (show its2[j]? = some its2.toArray[j] by simp)
      exact ih.1 A.in1 x y (e j) _ _ (he j x y hx hy) rx ry hu1
    | @lstL _ _ _ xs ys ha hb hl =>
      obtain ⟨its, r, pl, hz⟩ := I.list ha
      obtain ⟨its2, r2, pl2, hz2⟩ := I.list hb
      refine SeqAt.RcNeAt.lists_lengths pl.isList pl2.isList ?_ hu0
      rw [List.size_toArray, List.size_toArray, ← r.length, ← r2.length]
      simp [hl]
    | @tup _ _ _ xs ys e ha hb he =>
      obtain ⟨its, r, pl, hz⟩ := I.tuple ha
      obtain ⟨its2, r2, pl2, hz2⟩ := I.tuple hb
      have e1 : xs.length = its.toArray.size := by rw [List.size_toArray]; exact r.length
      have e2 : ys.length = its2.toArray.size := by rw [List.size_toArray]; exact r2.length
      rw [e1, e2]
      refine SeqAt.RcNeAt.tuples pl pl2 hu0 fun j h1 h2 => ?_
      obtain ⟨x, hx, rx⟩ := vals_getU r (show its[j]? = some its.toArray[j] by simp)
      obtain ⟨y, hy, ry⟩ := vals_getU r2 (show its2[j]? = some its2.toArray[j] by simp)
      exact ih.1 A.in1 x y (e j) _ _ (he j x y hx hy) rx ry hu1
    | lt ha hb =>
      obtain ⟨its, r, pl, hz⟩ := I.list ha
      obtain ⟨its2, r2, pl2, hz2⟩ := I.tuple hb
      exact SeqAt.RcNeAt.list_tuple pl.isList pl2 hu0
    | tl ha hb =>
      obtain ⟨its, r, pl, hz⟩ := I.tuple ha
      obtain ⟨its2, r2, pl2, hz2⟩ := I.list hb
      exact SeqAt.RcNeAt.tuple_list pl pl2.isList hu0
theorem rcAt_V {A : Around} {x y : V} {u v : Value} (rx : RelV x u) (ry : RelV y v) (fx : flatV x = true) (fy : flatV y = true) : SeqAt.RcAt A s u v (eqV x y) ∧ SeqAt.RcNeAt A s u v (!eqV x y) := by
  cases x with
  | non =>
    cases rx
    cases y with
    | non => cases ry; exact ⟨SeqAt.RcAt.none_none, SeqAt.RcNeAt.none_none⟩
    | bl b => cases ry; exact ⟨SeqAt.RcAt.none_bool b, SeqAt.RcNeAt.none_bool b⟩
    | int b => obtain ⟨t, rfl⟩ := ry; exact ⟨SeqAt.RcAt.none_int b t, SeqAt.RcNeAt.none_int b t⟩
    | str b => obtain ⟨t, rfl⟩ := ry; exact ⟨SeqAt.RcAt.none_str b t, SeqAt.RcNeAt.none_str b t⟩
    | _ => cases fy
  | bl a =>
    cases rx
    cases y with
    | non => cases ry; exact ⟨SeqAt.RcAt.bool_none a, SeqAt.RcNeAt.bool_none a⟩
    | bl b => cases ry; exact ⟨SeqAt.RcAt.bool_bool a b, SeqAt.RcNeAt.bool_bool a b⟩
    | int b => obtain ⟨t, rfl⟩ := ry; exact ⟨SeqAt.RcAt.bool_int a b t, SeqAt.RcNeAt.bool_int a b t⟩
    | str b => obtain ⟨t, rfl⟩ := ry; exact ⟨SeqAt.RcAt.bool_str a b t, SeqAt.RcNeAt.bool_str a b t⟩
    | _ => cases fy
  | int a =>
    obtain ⟨t', rfl⟩ := rx
    cases y with
    | non => cases ry; exact ⟨SeqAt.RcAt.int_none a t', SeqAt.RcNeAt.int_none a t'⟩
    | bl b => cases ry; exact ⟨SeqAt.RcAt.int_bool a t' b, SeqAt.RcNeAt.int_bool a t' b⟩
    | int b => obtain ⟨t, rfl⟩ := ry; exact ⟨SeqAt.RcAt.int_int a t' b t, SeqAt.RcNeAt.int_int a t' b t⟩
    | str b => obtain ⟨t, rfl⟩ := ry; exact ⟨SeqAt.RcAt.int_str a t' b t, SeqAt.RcNeAt.int_str a t' b t⟩
    | _ => cases fy
  | str a =>
    obtain ⟨t', rfl⟩ := rx
    cases y with
    | non => cases ry; exact ⟨SeqAt.RcAt.str_none a t', SeqAt.RcNeAt.str_none a t'⟩
    | bl b => cases ry; exact ⟨SeqAt.RcAt.str_bool a t' b, SeqAt.RcNeAt.str_bool a t' b⟩
    | int b => obtain ⟨t, rfl⟩ := ry; exact ⟨SeqAt.RcAt.str_int a t' b t, SeqAt.RcNeAt.str_int a t' b t⟩
    | str b => obtain ⟨t, rfl⟩ := ry; exact ⟨SeqAt.RcAt.str_str a t' b t, SeqAt.RcNeAt.str_str a t' b t⟩
    | _ => cases fy
  | _ => cases fx
end
def rEqU (K : PySem.W.Frag) (neg : Bool) : R2 := fun x y H Q => (flatV x = true ∧ flatV y = true ∧ Q (.bl (if neg then !eqV x y else eqV x y)) H) ∨
  (∃ a b k n, x = .ref a ∧ y = .ref b ∧ n ≤ 60 ∧ EqT K H n a b k ∧ Q (.bl (if neg then !k else k)) H) ∨
  (∃ a kvs, x = .ref a ∧ y = .ref a ∧ H a = some (.dK kvs) ∧ Q (.bl (!neg)) H)
theorem valueAt_mem {κ : Type} [DecidableEq κ] : ∀ {kb : List (κ × Value)} {k : κ} {v : Value}, (kb.map (·.1)).Nodup → (k, v) ∈ kb → valueAt kb k = some v
  | [], _, _, _, h => by cases h
  | (k', v') :: r, k, v, hn, h => by
    obtain ⟨h1, h2⟩ := List.nodup_cons.mp (show (k' :: r.map (·.1)).Nodup from hn)
    unfold valueAt
    rw [List.find?_cons]
    by_cases e : k' = k
    · subst e
      simp only [decide_true]
      rcases List.mem_cons.mp h with z | z
      · cases z; rfl
      · exact absurd (List.mem_map.mpr ⟨(k', v), z, rfl⟩) h1
    · simp only [e, decide_false]
      rcases List.mem_cons.mp h with z | z
      · cases z; exact absurd rfl e
      · exact valueAt_mem h2 z
theorem keq_all {A : Around} {s : Shared} {κ : Type} [DecidableEq κ] (kb : List (κ × Value)) (hn : (kb.map (·.1)).Nodup) : ∀ ka : List (κ × Value), (∀ p ∈ ka, p ∈ kb) → PySem.W.KeqHits A s kb ka true
  | [], _ => .nil
  | (k, v) :: r, h => by
    have hv : valueAt kb k = some v := valueAt_mem hn (h (k, v) List.mem_cons_self)
    exact .hit (e := true) (b := true) hv (SeqAt.EqAt.same v) (keq_all kb hn r fun p hp => h p (List.mem_cons_of_mem _ hp))
section
variable {X : Cx} {K : PySem.W.Frag}
theorem k_eqU (hK : X.K = K) (hu : X.A.units + 100 < cLine) : OpR X (compareOp .Eq) (rEqU K false) := by
  subst hK
  intro pins s σ H x y u v Q I rx ry h
  rcases h with ⟨fx, fy, q⟩ | ⟨a, b, k, n, rfl, rfl, hn, e, q⟩ | ⟨a, kvs, rfl, rfl, ea, q⟩
  · exact (rcAt_V rx ry fx fy).1 _ _ _ _ ⟨.bl _, H, I, rfl, q⟩
  · cases rx; cases ry
    exact (eq_both I n).2 X.A a b k e (by omega) _ _ _ _ ⟨.bl _, H, I, rfl, q⟩
  · cases rx; cases ry
    obtain ⟨_, hs, vs, r, d⟩ := (show ObjOk X.prog X.w H s.heap a (.dK kvs) from I.hok a _ ea)
    obtain ⟨_, _, _, _, _, _, _, _, nd⟩ := id d
    refine PySem.W.keq_eq hs hs d d (by omega) (fun _ => keq_all vs nd vs fun _ h => h) ?_
    rw [beq_self_eq_true]
    exact ⟨.bl true, H, I, rfl, q⟩
theorem k_neU (hK : X.K = K) (hu : X.A.units + 100 < cLine) : OpR X (compareOp .NotEq) (rEqU K true) := by
  subst hK
  intro pins s σ H x y u v Q I rx ry h
  rcases h with ⟨fx, fy, q⟩ | ⟨a, b, k, n, rfl, rfl, hn, e, q⟩ | ⟨a, kvs, rfl, rfl, ea, q⟩
  · exact (rcAt_V rx ry fx fy).2 _ _ _ _ ⟨.bl _, H, I, rfl, q⟩
  · cases rx; cases ry
    exact ne_refs I e (by omega) _ _ _ _ ⟨.bl _, H, I, rfl, q⟩
  · cases rx; cases ry
    obtain ⟨_, hs, vs, r, d⟩ := (show ObjOk X.prog X.w H s.heap a (.dK kvs) from I.hok a _ ea)
    obtain ⟨_, _, _, _, _, _, _, _, nd⟩ := id d
    refine PySem.W.keq_ne hs hs d d (by omega) (fun _ => keq_all vs nd vs fun _ h => h) ?_
    rw [beq_self_eq_true]
    exact ⟨.bl false, H, I, rfl, q⟩
end
end L2
namespace L2
open PySem PySem.Spec PyProof.Rows
section
variable {X : Cx} {K : PySem.W.Frag}
def rIxU (K : PySem.W.Frag) : R2 := fun x y H Q => rIx K x y H Q ∨ ∃ a v, x = .ref a ∧ DGet H a y (some v) ∧ Q v H
theorem k_ixU (hK : X.K = K) (hu : X.A.units + 100 < cLine) : IxR X (rIxU K) := by
  subst hK
  refine IxR.or ix_seq ?_
  intro value slice pins s σ H x y v u Q I rx ry h hs
  obtain ⟨a, z, rfl, g, q⟩ := h
  cases rx
  exact tail_any (dict_typeIs I g) PySem.F.slot_dict_getitem.lookup (d_getItem (by omega) I g ry fun w' s3 I3 rw' => ⟨z, H, I3, rw', q⟩) hs
def rSetU : TSet := fun o i v H Q => rSetL o i v H Q ∨ ∃ a H', o = .ref a ∧ DPut H a i v H' ∧ Q H'
theorem k_setU (hu : X.A.units + 100 < cLine) : PSet X rSetU := by
  intro pins s σ H o i v ov iv u Q I ro ri rv h
  rcases h with h | ⟨a, H', rfl, g, q⟩
  · exact set_list pins s σ H o i v ov iv u Q I ro ri rv h
  · cases ro
    exact d_setItem (by omega) I g ri rv fun s' I' => ⟨H', I', q⟩
def rInU (K : PySem.W.Frag) (neg : Bool) : R2 := fun x y H Q => rIn K neg x y H Q ∨ (∃ a o, y = .ref a ∧ DGet H a x o ∧ Q (.bl (if neg then !o.isSome else o.isSome)) H) ∨
  (∃ p xs e n, y = .ref p ∧ SqL K H p xs ∧ n ≤ 60 ∧ (∀ z ∈ xs, EqD K H n z x (e z)) ∧ Q (.bl (if neg then !xs.any e else xs.any e)) H)
theorem in_gen {pins : List (Addr × Obj)} {σ : St} {H : Hp} {s : Shared} {xs : List V} {its : List Value} {x : V} {u : Value} {e : V → Bool} {n : Nat} {A : Around} (I : Inv X pins σ H s) (r : Vals xs its) (rx : RelV x u) (hu : A.units + n < cLine) (he : ∀ z ∈ xs, EqD X.K H n z x (e z)) :
    ∃ e' : Value → Bool, (∀ w, w ∈ its.toArray → SeqAt.EqAt A s w u (e' w)) ∧ its.toArray.any e' = xs.any e := by
  classical
  refine ⟨fun w => decide (∃ z ∈ xs, RelV z w ∧ e z = true), fun w hw => ?_, ?_⟩
  · have hw' : w ∈ its := by simpa using hw
    obtain ⟨j, hj⟩ := List.mem_iff_getElem?.mp hw'
    obtain ⟨z, hz, rz⟩ := vals_getU r hj
    have hm := List.mem_of_getElem? hz
    have eq : decide (∃ z ∈ xs, RelV z w ∧ e z = true) = e z := by
      cases q : e z with
      | true => exact decide_eq_true ⟨z, hm, rz, q⟩
      | false =>
        refine decide_eq_false fun ⟨z', _, rz', q'⟩ => ?_
        rw [RelV.inj rz' rz, q] at q'
        cases q'
    show SeqAt.EqAt A s w u (decide (∃ z ∈ xs, RelV z w ∧ e z = true))
    rw [eq]
    exact (eq_both I n).1 A z x (e z) w u (he z hm) rz rx hu
  · rw [Bool.eq_iff_iff, List.any_eq_true]
    constructor
    · intro h
      have h' : its.any (fun w => decide (∃ z ∈ xs, RelV z w ∧ e z = true)) = true := by simpa using h
      obtain ⟨w, _, q⟩ := List.any_eq_true.mp h'
      obtain ⟨z, hz, _, ez⟩ := of_decide_eq_true q
      exact ⟨z, hz, ez⟩
    · rintro ⟨z, hz, ez⟩
      obtain ⟨j, hj⟩ := List.mem_iff_getElem?.mp hz
      obtain ⟨w, hw, rz⟩ := r.get hj
      have : its.any (fun w => decide (∃ z ∈ xs, RelV z w ∧ e z = true)) = true := List.any_eq_true.mpr ⟨w, List.mem_of_getElem? hw, decide_eq_true ⟨z, hz, rz, ez⟩⟩
      simpa using this
theorem k_inU (hK : X.K = K) (hu : X.A.units + 100 < cLine) : OpR X (compareOp .In) (rInU K false) := by
  subst hK
  intro pins s σ H x y u v Q I rx ry h
  rcases h with h | ⟨a, o, rfl, g, q⟩ | ⟨p, xs, e, n, rfl, hl, hn, he, q⟩
  · exact op_in_seq pins s σ H x y u v Q I rx ry h
  · cases ry
    exact d_in (by omega) I g rx fun s' I' => ⟨.bl _, H, I', rfl, q⟩
  · cases ry
    obtain ⟨its, r, pl, hz⟩ := I.list hl
    obtain ⟨e', h1, h2⟩ := in_gen (A := X.A.in1) I r rx (by show X.A.units + 1 + n < cLine; omega) he
    exact SeqAt.in_listAt e' pl.isList h1 (by rw [h2]; exact ⟨.bl _, H, I, rfl, q⟩)
theorem k_notinU (hK : X.K = K) (hu : X.A.units + 100 < cLine) : OpR X (compareOp .NotIn) (rInU K true) := by
  subst hK
  intro pins s σ H x y u v Q I rx ry h
  rcases h with h | ⟨a, o, rfl, g, q⟩ | ⟨p, xs, e, n, rfl, hl, hn, he, q⟩
  · exact op_notIn_seq pins s σ H x y u v Q I rx ry h
  · cases ry
    exact d_notIn (by omega) I g rx fun s' I' => ⟨.bl _, H, I', rfl, q⟩
  · cases ry
    obtain ⟨its, r, pl, hz⟩ := I.list hl
    obtain ⟨e', h1, h2⟩ := in_gen (A := X.A.in1) I r rx (by show X.A.units + 1 + n < cLine; omega) he
    exact SeqAt.notIn_listAt e' pl.isList h1 (by rw [h2]; exact ⟨.bl _, H, I, rfl, q⟩)
def rListU (K : PySem.W.Frag) : List V → Hp → VK → Prop := fun xs H Q => (∃ p ys, xs = [.ref p] ∧ (SqL K H p ys ∨ SqT K H p ys) ∧ ∀ l, H l = none → Q (.ref l) (upd H l (.lst ys))) ∨
  (∃ p kvs, xs = [.ref p] ∧ H p = some (.dK kvs) ∧ ∀ l, H l = none → Q (.ref l) (upd H l (.lst (kvs.map fun kv => kV kv.1)))) ∨
  (∃ x, xs = [.str x] ∧ x.length ≤ 1000 ∧ ∀ l, H l = none → Q (.ref l) (upd H l (.lst (x.cps.toList.map fun c => .str ⟨#[c]⟩))))
theorem paired_get {α β : Type} {F : α → β → Prop} : ∀ {l : List α} {m : List β} {j : Nat} {a : α}, Paired F l m → l[j]? = some a → ∃ b, m[j]? = some b ∧ F a b
  | _, _, _, _, .nil, e => by simp at e
  | _, _, 0, _, .cons r _, e => by simp at e; subst e; exact ⟨_, rfl, r⟩
  | _, _, j + 1, a, .cons _ t, e => by
    obtain ⟨b, h1, h2⟩ := paired_get (j := j) (a := a) t (by simpa using e)
    exact ⟨b, by simpa using h1, h2⟩
theorem vals_items : ∀ {ys : List V} {us : List Value}, ys.length = us.length → (∀ (j : Nat) y u, ys[j]? = some y → us[j]? = some u → RelV y u) → Vals ys us
  | [], [], _, _ => .nil
  | [], _ :: _, h, _ => by cases h
  | _ :: _, [], h, _ => by cases h
  | y :: ys, u :: us, h, q => .cons (q 0 y u rfl rfl) (vals_items (Nat.succ.inj h) fun j y' u' h1 h2 => q (j + 1) y' u' (by simpa using h1) (by simpa using h2))
theorem k_listU (hK : X.K = K) (hc : X.calm = true) : CallR X (.type "list") (rListU K) := by
  subst hK
  intro pins s σ H xs us Q I r h
  rcases h with h | ⟨p, kvs, rfl, ea, q⟩ | ⟨x, rfl, hx, q⟩
  · exact call_list_of pins s σ H xs us Q I r h
  · obtain ⟨u, rfl, ru⟩ := vals1 r
    cases ru
    obtain ⟨hz, hs, vs, rv, d⟩ := (show ObjOk X.prog X.w H s.heap p (.dK kvs) from I.hok p _ ea)
    obtain ⟨ep, hat⟩ := d.dictAt
    have hl : kvs.length = vs.length := rv.length
    refine PySem.W.kdl_call (PySem.W.kdl_dict (knd := mixKind X.prog X.w) (kvs := vs) (ep := ep) hs) (I.ok.hd hc) hat (by rw [← hl]; exact hz) fun h' tk acc' c' kp e it => ?_
    obtain ⟨i1, i2⟩ := it
    have hv : Vals (kvs.map fun kv => kV kv.1) acc'.toList := by
      refine vals_items (by rw [List.length_map, hl, ← i1]; simp) fun j y u h1 h2 => ?_
      obtain ⟨k, x, h3, h4⟩ := i2 j u (by simpa using h2)
      rw [List.getElem?_map] at h1
      cases q1 : kvs[j]? with
      | none => rw [q1] at h1; cases h1
      | some kv =>
        rw [q1] at h1
        cases h1
        obtain ⟨q2, h5, h6, h7⟩ := paired_get rv q1
        rw [h3] at h5
        cases h5
        have e1 : kv.1 = k := h6
        show RelV (kV kv.1) u
        rw [e1]
        rcases keyIs_shape (show keyIs k u = true from h4) with ⟨i, t, rfl, rfl⟩ | ⟨z, t, rfl, rfl⟩
        · exact ⟨t, rfl⟩
        · exact ⟨t, rfl⟩
    refine ⟨.ref s.heap.objs.size, _, I.laid (t' := tk) kp (Nat.le_refl _) (show ObjOk X.prog X.w _ h' _ (.lst (kvs.map fun kv => kV kv.1)) from ⟨by rw [List.length_map]; exact hz, acc'.toList, c', hv, by simpa using e⟩), rfl, q _ (I.hok.fresh (Nat.le_refl _))⟩
  · obtain ⟨u, rfl, t, rfl⟩ := vals1 r
    have hsz : x.cps.size ≤ sizeLine := Nat.le_of_lt (small1000 hx)
    refine call_list_str (I.ok.hd hc) x t (fun h' tk acc' c' kp e it => ?_) hsz
    obtain ⟨i1, i2⟩ := it
    have hv : Vals (x.cps.toList.map fun c => V.str ⟨#[c]⟩) acc'.toList := by
      refine vals_items (by rw [List.length_map]; simp [i1]) fun j y u h1 h2 => ?_
      obtain ⟨c, t', h3, rfl⟩ := i2 j u (by simpa using h2)
      rw [List.getElem?_map] at h1
      have h3' : x.cps.toList[j]? = some c := by simpa using h3
      rw [h3'] at h1
      cases h1
      exact ⟨t', rfl⟩
    refine ⟨.ref s.heap.objs.size, _, I.laid (t' := tk) kp (Nat.le_refl _) (show ObjOk X.prog X.w _ h' _ (.lst (x.cps.toList.map fun c => V.str ⟨#[c]⟩)) from ⟨by rw [List.length_map]; simpa using hsz, acc'.toList, c', hv, by simpa using e⟩), rfl, q _ (I.hok.fresh (Nat.le_refl _))⟩
end
structure CMethOk (P : Program) (w : World) (K : PySem.W.Frag) (mg : Str → Option Value) (base : Heap) (CX : CXT) (k : Nat) (C : Addr) (x m : Str) (ps : List Str) (sp : Sp) : Prop where
  ex : ∃ f fd, FnOk P w K mg base CX k f fd ps sp ∧ CMeth K C m f ∧ Binds K fd ps []
  mg_ : mg x = some (.ref C)
section
variable {X : Cx} {k : Nat} {C : Addr} {ps : List Str} {sp : Sp} {x m : Str} {p pos apos : Pos} {e : Expr} {es : List Expr} {t : TA}
theorem pe_clsmQ {pl : Sem Bool} (D : CMethOk X.prog X.w X.K X.mg X.base CX0 k C x m ps sp) (hr : Room k X.A) (ha : PA X (e :: es) t) (hg : Gl X x := by rfl) (hdb : (x == ("__debug__" : Str)) = false := by decide)
    (hst : starEach (e :: es) X.env = (false, eval e X.env) :: starEach es X.env := by rfl) (hpl : (backTo pos (starEach es X.env)).any (·.1) = false := by rfl)
    (ht : eval (.Call (.Attribute (.Name x p) m apos) (e :: es) [] pos) X.env = (do
      let ov ← eval (.Name x p) X.env
      standAt apos.atName
      let (f, first) ← holding [ov] (getMethod ov m pl)
      callWith pos f first (backTo pos (starEach (e :: es) X.env)) (backToKw pos (keywordEach [] X.env))) := by rfl) :
    PE X (.Call (.Attribute (.Name x p) m apos) (e :: es) [] pos) (tCall sp [] E0 t) := by
  obtain ⟨f, fd, F, M, hb⟩ := D.ex
  exact pe_clsm (pl := pl) M F hr hg D.mg_ hb pass0 ha hdb hst hpl ht
end
end L2
namespace L2
open PySem PySem.Spec PyProof.Rows
theorem own_eq_same {prog : Program} {w : World} {A : Around} {E : Value → Shared → Prop} {s : Shared} {K : PySem.W.Frag} {x C : Addr} {ox : Obj} {od : Option Obj} {Q : Value → Shared → Prop} (hu : A.units < cLine) (X : K.In s.heap) (I : PySem.W.InstAt s.heap x ox C od)
    (hs : PySem.W.findIn K (.ref C) "__eq__" = some (some (.builtin "object.__eq__"))) (ho : PySem.W.mroIn K C (.type "object") = some true) (h : Q (.bool true) s) : wpAny (model prog w) A (richCompare .Eq (.ref x) (.ref x)) Q E s := by
  have call1 : ∀ {A' : Around} {Q' : Value → Shared → Prop}, Q' (.bool true) s → wpAny (model prog w) A' (call (.builtin "object.__eq__") [.ref x, .ref x]) Q' E s := fun {A' Q'} q => by
    refine wpAny_call (codeAny_call_builtin PySem.F.slot_object_eq.plain PySem.F.entry_object_eq (@PySem.W.check_slot (model prog w) _ _ s "object.__eq__" "object" "__eq__" (.ref x) [.ref x] [] _ (by decide +kernel) (by decide +kernel) (I.type.andThen (PySem.W.looks_mroIn X ho)) (PySem.F.args_object_eq_2 _ _) ?_))
    refine wpAny_bind (wpAny_pure (wpAny_bind (wpAny_isSame_ref_self ?_)))
    exact wpAny_pure q
  have one : wpAny (model prog w) A (tryCompare (.ref x) "__eq__" (.ref x)) (fun r s' => ∃ v, r = some v ∧ Q v s') E s := by
    unfold tryCompare
    refine wpAny_bind ?_
    simp only [callSpecialIfBound?, bindSpecialIfBound?]
    refine wpAny_holding (wpAny_bind (wpAny_bind (wpAny_bind (I.type.here ((PySem.W.looks_findIn X hs).here ?_)))))
    refine wpAny_bind (wpAny_askSetting (wpAny_ite ?_))
    have b := PySem.F.slot_object_eq.bind (.ref x)
    have fin : wpAny (model prog w) A (call (.builtin "object.__eq__") ([.ref x] ++ [.ref x]) >>= fun v => pure (some v)) (fun r s' => wpAny (model prog w) A (match r with | some .notImplemented | none => pure none | some v => pure (some v)) (fun r s' => ∃ v, r = some v ∧ Q v s') E s') E s :=
      wpAny_bind (call1 (wpAny_pure (wpAny_pure ⟨_, rfl, h⟩)))
    split
    · exact wpAny_bind (wpAny_of_eq b (wpAny_pure fin))
    · exact wpAny_tryCatch (wpAny_bind (wpAny_of_eq b (wpAny_pure fin)))
  unfold richCompare
  simp only [oneThing_ref]
  refine wpAny_holding (wpAny_bind (wpAny_cRoomFor hu ?_))
  refine wpAny_bind (I.type.here (wpAny_bind (I.type.here ?_)))
  rw [if_neg (by simp)]
  refine wpAny_bind (wpAny_pure ?_)
  simp only [Bool.false_eq_true, if_false]
  refine wpAny_bind (wpAny_mono one (fun r s' z => ?_) fun _ _ e => e)
  obtain ⟨v, rfl, hq⟩ := z
  exact wpAny_pure hq
structure OEq (K : PySem.W.Frag) (C : Addr) : Prop where
  eq : PySem.W.findIn K (.ref C) "__eq__" = some (some (.builtin "object.__eq__"))
  ob : PySem.W.mroIn K C (.type "object") = some true
def rEqW (K : PySem.W.Frag) : R2 := fun x y H Q => rEqU K false x y H Q ∨ ∃ a C dx fs, x = .ref a ∧ y = .ref a ∧ H a = some (.ins C dx fs) ∧ OEq K C ∧ Q (.bl true) H
theorem k_eqW {X : Cx} {K : PySem.W.Frag} (hK : X.K = K) (hu : X.A.units + 100 < cLine) : OpR X (compareOp .Eq) (rEqW K) := by
  subst hK
  intro pins s σ H x y u v Q I rx ry h
  rcases h with h | ⟨a, C, dx, fs, rfl, rfl, ea, oe, q⟩
  · exact k_eqU rfl hu pins s σ H x y u v Q I rx ry h
  · cases rx; cases ry
    obtain ⟨mA, O, _⟩ := ins_get I.hok ea
    obtain ⟨od, J, _⟩ := O.look
    exact own_eq_same (by omega) I.kIn J oe.eq oe.ob ⟨.bl true, H, I, rfl, q⟩
end L2
namespace L2
open PySem PySem.Spec PyProof.Rows
theorem mtR_append {X : Cx} : MtR X "list.append" rAppend := mt_append
theorem mtR_extend {X : Cx} : MtR X "list.extend" rExtend := mt_extend
theorem boot_ValueError : bootBuiltins "ValueError" = some (.type "ValueError") := by decide +kernel
section
variable {D : Ends} {σ : St} {H : Hp} {Q : VK} {t u : TS} {te ta tb tc : TE} {tas : TA} {K : PySem.W.Frag} {sp : Sp} {E : XK} {EK : St → XK} {C : Addr} {f m : Str}
theorem vFldU (h : ta σ H fun x H1 => (∃ a C dx fs v, x = .ref a ∧ H1 a = some (.ins C dx fs) ∧ Cls K C ∧ NoAttr K C f ∧ fs.lookup f = some v ∧ Q v H1) ∨
  (∃ a C dx fs v, x = .ref a ∧ IsX H1 a C (some dx) ∧ XAt K C ∧ NoAttr K C f ∧ H1 dx = some (.xd fs) ∧ fs.lookup f = some v ∧ Q v H1)) : tFldU K ta f σ H Q := h
theorem vSFldU (h : te σ H fun y H1 => ta σ H1 fun x H2 => (∃ a C dx fs, x = .ref a ∧ H2 a = some (.ins C dx fs) ∧ Cls K C ∧ NoAttr K C f ∧ fs.length < 1000 ∧ D.nx σ (upd H2 a (.ins C dx (putF f y fs)))) ∨
  (∃ a C, x = .ref a ∧ H2 a = some (XN a C none) ∧ XAt K C ∧ NoAttr K C f ∧ ∀ dx, H2 dx = none → D.nx σ (upd (upd H2 dx (.xd [(f, y)])) a (XN a C (some dx))))) : sFldU K ta te f D σ H := h
theorem vXMake (h : tas σ H fun vs H1 => vs.length ≤ 1000 ∧ ∀ x, H1 x = none → sp (.ref x :: vs) (upd H1 x (XN x C none)) (fun v H2 => v = .non ∧ Q (.ref x) H2) E) : tXMake C sp E tas σ H Q := h
theorem vMake (h : tas σ H fun vs H1 => ∀ x dx, H1 x = none → H1 dx = none → dx ≠ x → sp (.ref x :: (vs ++ [])) (upd (upd H1 dx (.own x)) x (.ins C dx [])) (fun v H2 => v = .non ∧ Q (.ref x) H2) E) : tMake C sp [] E tas σ H Q := h
theorem vMeth (h : ta σ H fun x H1 => ∃ a dx fs, x = .ref a ∧ H1 a = some (.ins C dx fs) ∧ fs.lookup m = none ∧ tas σ H1 fun vs H2 => sp (x :: (vs ++ [])) H2 Q E) : tMeth C m sp [] E ta tas σ H Q := h
theorem vVinit (h : tas σ H fun vs H1 => ∃ a C y, vs = [.ref a, y] ∧ H1 a = some (XN a C none) ∧ XAt K C ∧ Q .non H1) : tVinit K tas σ H Q := h
theorem vCallS (h : tas σ H fun vs H1 => sp vs H1 Q (EK σ)) : tCallS sp EK tas σ H Q := h
theorem vMethS (h : ta σ H fun x H1 => ∃ a dx fs, x = .ref a ∧ H1 a = some (.ins C dx fs) ∧ fs.lookup m = none ∧ tas σ H1 fun vs H2 => sp (x :: vs) H2 Q (EK σ)) : tMethS C m sp EK ta tas σ H Q := h
theorem vMakeS (h : tas σ H fun vs H1 => ∀ x dx, H1 x = none → H1 dx = none → dx ≠ x → sp (.ref x :: vs) (upd (upd H1 dx (.own x)) x (.ins C dx [])) (fun v H2 => v = .non ∧ Q (.ref x) H2) (EK σ)) : tMakeS C sp EK tas σ H Q := h
theorem vRaise (h : te σ H fun x H1 => ∃ a C dx, x = .ref a ∧ H1 a = some (XN a C dx) ∧ XAt K C ∧ EK σ (.ref C) dx (upd H1 a (XO a C dx))) : tRaise K EK te D σ H := h
theorem vIsiU {x y : V} {t cv : Value} {b : Bool} (ty : TyX K H x t) (hy : clsVal y = some cv) (hb : PySem.W.kitOne K t cv = some b) (h : Q (.bl b) H) : rIsiU K [x, y] H Q := ⟨x, y, t, cv, b, rfl, ty, hy, hb, h⟩
end
end L2
namespace L2
open PySem PySem.Spec PyProof.Rows
section
variable {prog : Program} {w : World} {A : Around} {E : Value → Shared → Prop} {s : Shared}
theorem none_dict {a : Addr} {Q : Value → Shared → Prop} (hT : s.TypeIs (.ref a) "dict") (hu : A.units < cLine) (h : Q (.bool false) s) : wpAny (model prog w) A (richCompare .Eq .none (.ref a)) Q E s := by
  refine SeqAt.rc_eq_decline_or (k := false) rfl hT (by decide) PySem.F.sub_dict_NoneType PySem.F.slot_NoneType_eq PySem.F.slot_dict_eq_refl
    (fun _ hq => call_gives PySem.F.slot_NoneType_eq rfl PySem.F.entry_NoneType_eq (PySem.F.args_NoneType_eq_2 _ _) (SeqAt.NoneType___eq___none_ref_0 a) hq) (fun Q' hq => ?_) (fun _ hq => wpAny_of_eq (rfl : isSame .none (.ref a) = pure false) hq) (.inr hu) h
  refine wpAny_call_entry PySem.F.slot_dict_eq_refl hT PySem.F.entry_dict_eq ?_ (PySem.F.args_dict_eq_2 _ _)
  show wpAny _ _ (Builtin.Dict.dictSlotArgs "__eq__" ⟨[.ref a, .none], []⟩ >>= _) _ _ s
  refine wpAny_bind ?_
  unfold Builtin.Dict.dictSlotArgs
  refine wpAny_bind (wpAny_notOrdered_dict hT ?_)
  show wpAny _ _ (pure (Value.ref a, Value.none)) _ _ s
  refine wpAny_pure ?_
  refine wpAny_bind (wpAny_isInstance (T := "NoneType") (b := false) rfl PySem.F.sub_NoneType_dict ?_)
  simp only [Bool.not_false, if_true]
  exact wpAny_bind (wpAny_rule (wpAny_pure ⟨_, rfl, hq⟩))
theorem none_own {K : PySem.W.Frag} {x C : Addr} {ox : Obj} {od : Option Obj} {Q : Value → Shared → Prop} (hu : A.units < cLine) (X : K.In s.heap) (I : PySem.W.InstAt s.heap x ox C od) (oe : OEq K C) (hn : PySem.W.mroIn K C (.type "NoneType") = some false)
    (h : Q (.bool false) s) : wpAny (model prog w) A (richCompare .Eq .none (.ref x)) Q E s := by
  have t1 : wpAny (model prog w) A (tryCompare .none "__eq__" (.ref x)) (fun r s' => r = none ∧ s' = s) E s := by
    unfold tryCompare
    refine wpAny_bind ?_
    simp only [callSpecialIfBound?, bindSpecialIfBound?]
    refine wpAny_holding (wpAny_bind (wpAny_bind ?_))
    refine wpAny_bind (wpAny_of_eq (rfl : typeOf .none = pure (.type "NoneType")) ?_)
    refine wpAny_of_eq PySem.F.slot_NoneType_eq.lookup ?_
    refine wpAny_bind (wpAny_askSetting (wpAny_ite ?_))
    have fin : wpAny (model prog w) A (call (.builtin "NoneType.__eq__") ([.none] ++ [.ref x]) >>= fun v => pure (some v)) (fun r s' => wpAny (model prog w) A (match r with | some .notImplemented | none => pure none | some v => pure (some v)) (fun r s' => r = none ∧ s' = s) E s') E s :=
      wpAny_bind (call_gives PySem.F.slot_NoneType_eq rfl PySem.F.entry_NoneType_eq (PySem.F.args_NoneType_eq_2 _ _) (SeqAt.NoneType___eq___none_ref_0 x) (wpAny_pure (wpAny_pure ⟨rfl, rfl⟩)))
    split
    · exact wpAny_bind (wpAny_of_eq (PySem.F.slot_NoneType_eq.bind .none) (wpAny_pure fin))
    · exact wpAny_tryCatch (wpAny_bind (wpAny_of_eq (PySem.F.slot_NoneType_eq.bind .none) (wpAny_pure fin)))
  have t2 : wpAny (model prog w) A (tryCompare (.ref x) "__eq__" .none) (fun r s' => r = none ∧ s' = s) E s := by
    unfold tryCompare
    refine wpAny_bind ?_
    simp only [callSpecialIfBound?, bindSpecialIfBound?]
    refine wpAny_holding (wpAny_bind (wpAny_bind (wpAny_bind (I.type.here ((PySem.W.looks_findIn X oe.eq).here ?_)))))
    refine wpAny_bind (wpAny_askSetting (wpAny_ite ?_))
    have b := PySem.F.slot_object_eq.bind (.ref x)
    have c : ∀ {Q' : Value → Shared → Prop}, Q' .notImplemented s → wpAny (model prog w) A (call (.builtin "object.__eq__") [.ref x, .none]) Q' E s := fun {Q'} q => by
      refine wpAny_call (codeAny_call_builtin PySem.F.slot_object_eq.plain PySem.F.entry_object_eq (@PySem.W.check_slot (model prog w) _ _ s "object.__eq__" "object" "__eq__" (.ref x) [.none] [] _ (by decide +kernel) (by decide +kernel) (I.type.andThen (PySem.W.looks_mroIn X oe.ob)) (PySem.F.args_object_eq_2 _ _) ?_))
      refine wpAny_bind (wpAny_pure (wpAny_bind (wpAny_of_eq (rfl : isSame (.ref x) .none = pure false) ?_)))
      exact wpAny_pure q
    have fin : wpAny (model prog w) A (call (.builtin "object.__eq__") ([.ref x] ++ [.none]) >>= fun v => pure (some v)) (fun r s' => wpAny (model prog w) A (match r with | some .notImplemented | none => pure none | some v => pure (some v)) (fun r s' => r = none ∧ s' = s) E s') E s :=
      wpAny_bind (c (wpAny_pure (wpAny_pure ⟨rfl, rfl⟩)))
    split
    · exact wpAny_bind (wpAny_of_eq b (wpAny_pure fin))
    · exact wpAny_tryCatch (wpAny_bind (wpAny_of_eq b (wpAny_pure fin)))
  unfold richCompare
  refine wpAny_holding (wpAny_bind (wpAny_cRoomFor hu ?_))
  show wpAny _ _ (typeOf .none >>= _) _ _ _
  refine wpAny_bind (wpAny_of_eq (rfl : typeOf .none = pure (.type "NoneType")) (wpAny_bind (I.type.here ?_)))
  rw [if_pos (by rfl)]
  refine wpAny_bind ((PySem.W.looks_mroIn X hn).here ?_)
  simp only [Bool.false_eq_true, if_false]
  refine wpAny_bind (wpAny_mono t1 (fun r s' z => ?_) fun _ _ e => e)
  obtain ⟨rfl, rfl⟩ := z
  simp only [Bool.not_false, if_true]
  refine wpAny_bind (wpAny_mono t2 (fun r s' z => ?_) fun _ _ e => e)
  obtain ⟨rfl, rfl⟩ := z
  refine wpAny_bind (wpAny_rule (wpAny_bind (wpAny_of_eq (rfl : isSame .none (.ref x) = pure false) (wpAny_pure h))))
end
def rNoneRef (K : PySem.W.Frag) : R2 := fun x y H Q => ∃ a, x = .non ∧ y = .ref a ∧ ((∃ xs, SqL K H a xs ∨ SqT K H a xs) ∨ (∃ kvs, H a = some (.dK kvs)) ∨ ∃ C dx fs, H a = some (.ins C dx fs) ∧ OEq K C ∧ PySem.W.mroIn K C (.type "NoneType") = some false) ∧ Q (.bl false) H
def rEqZ (K : PySem.W.Frag) : R2 := fun x y H Q => rEqW K x y H Q ∨ rNoneRef K x y H Q
theorem k_eqZ {X : Cx} {K : PySem.W.Frag} (hK : X.K = K) (hu : X.A.units + 100 < cLine) : OpR X (compareOp .Eq) (rEqZ K) := by
  intro pins s σ H x y u v Q I rx ry h
  rcases h with h | ⟨a, rfl, rfl, h, q⟩
  · exact k_eqW hK hu pins s σ H x y u v Q I rx ry h
  · subst hK
    cases rx; cases ry
    have fin : EP X pins σ Q (.bool false) s := ⟨.bl false, H, I, rfl, q⟩
    rcases h with ⟨xs, hl | hl⟩ | ⟨kvs, ea⟩ | ⟨C, dx, fs, ea, oe, hn⟩
    · obtain ⟨its, r, pl, _⟩ := I.list hl
      exact SeqAt.RcAt.none_list pl.isList (by omega) _ _ _ _ fin
    · obtain ⟨its, r, pl, _⟩ := I.tuple hl
      exact SeqAt.RcAt.none_tuple pl (by omega) _ _ _ _ fin
    · obtain ⟨_, _, vs, _, d⟩ := (show ObjOk X.prog X.w H s.heap a (.dK kvs) from I.hok a _ ea)
      exact none_dict d.typeIs (by omega) fin
    · obtain ⟨mA, O, _⟩ := ins_get I.hok ea
      obtain ⟨od, J, _⟩ := O.look
      exact none_own (by omega) I.kIn J oe hn fin
end L2
namespace L2
open PySem PySem.Spec PyProof.Rows
def XL (K : PySem.W.Frag) (C : Addr) (bm : List Value) : Prop := ∃ nm qn N bs hdct sn sub ab col dd k0 k1 k2 k3 k5, K.lookup C = some (excClassObj nm qn C N bs bm hdct sn sub ab col dd k0 k1 k2 k3 k5 "ValueError.__new__")
section
variable {K : PySem.W.Frag} {C D : Addr} {bm bn : List Value}
theorem XL.xat (x : XL K C bm) (hb : xMro bm = true)
    (ga : PySem.W.findIn K (.ref C) "__getattribute__" = some (some (.builtin "BaseException.__getattribute__"))) (gn : PySem.W.findIn K (.ref C) "__getattr__" = some none)
    (bx : PySem.W.mroIn K C (.type "BaseException") = some true) (ob : PySem.W.mroIn K C (.type "object") = some true) (hd : PySem.W.hasDictIn K C = true) (cl : PySem.W.findIn K (.ref C) "__class__" = some (some (.builtin "object.__class__")))
    (cg : PySem.W.specialIn K (.builtin "object.__class__") "__get__" = some (some (.builtin "getset_descriptor.__get__"))) (ct : PySem.W.takesIn K (.builtin "object.__class__") = some true)
    (sa : PySem.W.findIn K (.ref C) "__setattr__" = some (some (.builtin "object.__setattr__"))) : XAt K C := by
  obtain ⟨nm, qn, N, bs, hdct, sn, sub, ab, col, dd, k0, k1, k2, k3, k5, e⟩ := x
  refine ⟨ga, gn, bx, ob, hd, cl, cg, ct, sa, ?_, ?_⟩
  · unfold PySem.W.clsIn
    rw [e]
    exact hb
  · unfold xcIn
    rw [e]
    simp [hb]
theorem XL.kit (x : XL K C bm) (y : XL K D bn) : PySem.W.kitOne K (.ref C) (.ref D) = some ((Value.ref C :: bm).contains (.ref D)) := by
  obtain ⟨nm, qn, N, bs, hdct, sn, sub, ab, col, dd, k0, k1, k2, k3, k5, e⟩ := x
  obtain ⟨nm', qn', N', bs', hdct', sn', sub', ab', col', dd', k0', k1', k2', k3', k5', e'⟩ := y
  unfold PySem.W.kitOne PySem.W.kitCls
  split
  · rename_i z
    have z : C = D := Value.ref.inj (beq_iff_eq.mp z)
    subst z
    simp
  · dsimp only
    have q1 : (PySem.W.clsIn K D).isSome = true := by unfold PySem.W.clsIn; rw [e']; rfl
    have q2 : (PySem.W.typeIn K (.ref D) == some (.type "type")) = true := by show ((K.lookup D).map (·.cls) == _) = true; rw [e']; rfl
    rw [if_pos (by rw [q1, q2]; rfl)]
    unfold PySem.W.subIn PySem.W.mroIn PySem.W.clsIn
    dsimp only
    rw [e]
    rfl
theorem XL.kitT (x : XL K C bm) {T : String} (h : PySem.W.kitMeta T = true) : PySem.W.kitOne K (.ref C) (.type T) = some (bm.contains (.type T)) := by
  obtain ⟨nm, qn, N, bs, hdct, sn, sub, ab, col, dd, k0, k1, k2, k3, k5, e⟩ := x
  unfold PySem.W.kitOne PySem.W.kitCls
  split
  · rename_i z
    exact absurd (beq_iff_eq.mp z) nofun
  · dsimp only
    rw [if_pos h]
    unfold PySem.W.subIn PySem.W.mroIn PySem.W.clsIn
    dsimp only
    rw [e]
    show some ((Value.ref C :: bm).contains _) = _
    rw [List.contains_cons]
    rfl
abbrev veMro : List Value := [.type "ValueError", .type "Exception", .type "BaseException", .type "object"]
theorem xmro_ve : xMro veMro = true := by decide
theorem xmro_on {c : Addr} : xMro (.ref c :: veMro) = true := xmro_ve
theorem kits {K : PySem.W.Frag} {cs : List Addr} {c : Addr} (hn : (cs ++ [c]).Nodup) (h : ∀ i, i < cs.length → XL K (cs.getD i c) (.ref c :: veMro)) (hc : XL K c veMro) :
    (∀ i j, i < cs.length → j < cs.length → PySem.W.kitOne K (.ref (cs.getD i c)) (.ref (cs.getD j c)) = some (decide (i = j))) ∧ (∀ i, i < cs.length + 1 → PySem.W.kitOne K (.ref (cs.getD i c)) (.ref c) = some true) ∧
    (∀ i, i < cs.length + 1 → PySem.W.kitOne K (.ref (cs.getD i c)) (.type "ValueError") = some true) ∧ ∀ j, j < cs.length → PySem.W.kitOne K (.ref c) (.ref (cs.getD j c)) = some false := by
  have gd : ∀ (j : Nat) (hj : j < cs.length), cs.getD j c = cs[j] := fun j hj => by simp [List.getD, hj]
  have hl : cs.getD cs.length c = c := by simp
  have hne : ∀ j, j < cs.length → c ≠ cs.getD j c := fun j hj e => by
    have h2 := (List.nodup_append.mp hn).2.2 (cs.getD j c) (by rw [gd j hj]; exact List.getElem_mem hj) c (by simp)
    exact h2 e.symm
  refine ⟨fun i j hi hj => ?_, fun i hi => ?_, fun i hi => ?_, fun j hj => ?_⟩
  · rw [(h i hi).kit (h j hj)]
    congr 1
    rw [List.contains_cons, List.contains_cons]
    have e1 : ((Value.ref (cs.getD j c)) == Value.ref c) = false := beq_eq_false_iff_ne.mpr fun e => hne j hj (Value.ref.inj e).symm
    have e2 : List.contains veMro (Value.ref (cs.getD j c)) = false := rfl
    rw [e1, e2]
    by_cases hij : i = j
    · subst hij; simp
    · have e3 : ((Value.ref (cs.getD j c)) == Value.ref (cs.getD i c)) = false := beq_eq_false_iff_ne.mpr fun e => by
        have e := Value.ref.inj e
        rw [gd i hi, gd j hj] at e
        have hp := List.pairwise_iff_getElem.mp (List.nodup_append.mp hn).1
        rcases Nat.lt_or_gt_of_ne hij with q | q
        · exact hp i j hi hj q e.symm
        · exact hp j i hj hi q e
      rw [e3]; simp [hij]
  · rcases Nat.lt_or_ge i cs.length with hi' | hi'
    · rw [(h i hi').kit hc, List.contains_cons, List.contains_cons]; simp
    · have : i = cs.length := by omega
      subst this
      rw [hl, hc.kit hc]; simp
  · rcases Nat.lt_or_ge i cs.length with hi' | hi'
    · rw [(h i hi').kitT (by decide +kernel)]; rfl
    · have : i = cs.length := by omega
      subst this
      rw [hl, hc.kitT (by decide +kernel)]; rfl
  · rw [hc.kit (h j hj), List.contains_cons]
    have e1 : ((Value.ref (cs.getD j c)) == Value.ref c) = false := beq_eq_false_iff_ne.mpr fun e => hne j hj (Value.ref.inj e).symm
    rw [e1]; rfl
end
end L2
namespace HT
open PySem PySem.Spec PyProof.Rows
section
variable {prog : Program} {w : World} {A : Around} {E : Value → Shared → Prop} {s : Shared}
end
end HT
namespace L2
open PySem PySem.Spec PyProof.Rows
def tRev (K : PySem.W.Frag) (te : TE) (ts : TO) : TE := fun σ H Q => te σ H fun x H1 => ts σ H1 fun o H2 => o = some (-1) ∧ ∃ a y z, x = .ref a ∧ SqT K H2 a [y, z] ∧ ∀ p, H2 p = none → Q (.ref p) (upd H2 p (.tup [z, y]))
theorem vRev {K : PySem.W.Frag} {te : TE} {ts : TO} {σ : St} {H : Hp} {Q : VK} (h : te σ H fun x H1 => ts σ H1 fun o H2 => o = some (-1) ∧ ∃ a y z, x = .ref a ∧ SqT K H2 a [y, z] ∧ ∀ p, H2 p = none → Q (.ref p) (upd H2 p (.tup [z, y]))) : tRev K te ts σ H Q := h
section
variable {X : Cx} {K : PySem.W.Frag} {e st : Expr} {te : TE} {ts : TO} {p2 pos : Pos}
def rTupleU (K : PySem.W.Frag) : List V → Hp → VK → Prop := fun xs H Q => ∃ p ys, xs = [.ref p] ∧ ((SqL K H p ys ∧ ∀ l, H l = none → Q (.ref l) (upd H l (.tup ys))) ∨ (SqT K H p ys ∧ Q (.ref p) H))
theorem k_tupleU (hK : X.K = K) : CallR X (.type "tuple") (rTupleU K) := by subst hK; exact call_tuple_of
end
end L2
namespace L2
open PySem PySem.Spec PyProof.Rows
theorem Inv.turnedL {X : Cx} {pins : List (Addr × Obj)} {σ : St} {H : Hp} {s : Shared} {h' : Heap} {t' : Nat} {fp : List Addr} (I : Inv X pins σ H s) (k : ∀ b o, b ∉ fp → s.heap.get? b = some o → h'.get? b = some o) (hf : ∀ b ∈ fp, FpOk X pins H b) : Inv X pins σ H { s with heap := h', toks := t' } := by
  have nit : ∀ b u, H b = some u → b ∉ fp := fun b u e z => by rw [(hf b z).1] at e; cases e
  have hL : X.env.locals ∉ fp := fun z => (hf _ z).2.1 rfl
  refine I.step (g' := s.gens) (d' := s.drawn) (ch := fp) (fun b hb => ?_) (fun b o _ _ hc e _ => k b o hc e) (fun b o _ _ hc e _ => ⟨o.slots, k b o hc e⟩) (fun _ _ _ _ n => n)
    (fun b o hc e => ⟨o, k b o hc e⟩) (fun _ _ e => e) (fun _ _ _ e => e) (fun b ps e => ⟨#[], by rw [e]; simp⟩) (fun m hm => ?_) (fun b u e => ?_) I.bare
  · obtain ⟨f0, f1, f2, f3, f4, f5⟩ := hf b hb
    exact ⟨f3, f1, f4, f5⟩
  · obtain ⟨o, es, ep, ho, r⟩ := hm
    exact ⟨o, es, ep, k _ o hL ho, r⟩
  · refine (I.hok b u e).stay (fun c v hc q => k c v ?_ q) (fun _ q => q) fun _ _ q => q
    rcases hc with z | z
    · rw [z]; exact nit b u e
    · exact nit c _ z
def Ite (K : PySem.W.Frag) (a : Addr) : It :=
  ⟨fun i H => ∃ xs x, SqL K H a xs ∧ xs[i]? = some x, fun i H x H' => ∃ t y, x = .ref t ∧ H t = none ∧ H' = upd H t (.tup [.int i, y]) ∧ ∀ xs, SqL K H a xs → xs[i]? = some y, fun i H => ∃ xs, SqL K H a xs ∧ xs.length ≤ i⟩
theorem push_some {h : Heap} {o v : Obj} {b : Addr} (e : (h.push o).get? b = some v) (ne : b ≠ h.objs.size) : h.get? b = some v := (Heap.get?_push_cases e).elim (fun z => absurd z.1 ne) fun z => z
theorem turn_enum {P : Program} {w : World} {K : PySem.W.Frag} {es : List Expr} {x1} {pos : Pos} (a e it : Addr) (hei : e ≠ it) : Turn P w K (.Tuple es x1 pos) (Ite K a) [e, it] e (fun i h => (∃ old, IsEnum h e it i old) ∧ h.IsListIter it a i) where
  mem := by simp
  obj := fun i h st b hb => by
    obtain ⟨⟨old, he⟩, o, e1, c, d⟩ := st
    simp only [List.mem_cons, List.not_mem_nil, or_false] at hb
    rcases hb with rfl | rfl
    · exact ⟨_, he, fun v z => by
        have z' : Data.fields _ = Data.cell v := z
        cases z'⟩
    · exact ⟨o, e1, fun v z => by rw [d] at z; cases z⟩
  keep := fun i h h' st k => by
    obtain ⟨⟨old, he⟩, hit⟩ := st
    exact ⟨⟨old, k e (by simp) _ he⟩, hit.at fun o x => k it (by simp) o x⟩
  item := by
    intro X hP hw hK hc i pins s σ H E I hf st hg
    subst hP hw hK
    obtain ⟨⟨old, he⟩, hit⟩ := st
    obtain ⟨xs, x, hq, hx⟩ := hg
    obtain ⟨its, rv, p, hz⟩ := I.list hq
    obtain ⟨u, hu, ru⟩ := rv.get hx
    refine wpAny_pyNext_enum_item he hit p.isList (x := u) (by simpa using hu) hei fun h' ho hit' hT hsz hk => ?_
    refine ⟨_, rfl, wpAny_letOwnedTupleGo_enum ho fun h2 he2 hs2 => ?_⟩
    have fre : H s.heap.objs.size = none := I.hok.fresh (Nat.le_refl _)
    have ne1 : s.heap.objs.size ≠ e := Nat.ne_of_gt (Heap.lt_size he)
    have ne2 : s.heap.objs.size ≠ it := by obtain ⟨o, e1, _⟩ := hit; exact Nat.ne_of_gt (Heap.lt_size e1)
    have I1 : Inv X pins σ (upd H s.heap.objs.size (.tup [.int i, x])) { s with heap := s.heap.push { cls := .type "tuple", data := .seq #[.int i s.toks, u] }, toks := s.toks + 1 } :=
      I.laid (fun b u e => Heap.get?_push_of_some _ e) (Nat.le_refl _) ⟨by show 2 ≤ sizeLine; decide, [.int i s.toks, u], .cons ⟨_, rfl⟩ (.cons ru .nil), ⟨_, Heap.get?_push_size _ rfl, rfl, _, rfl⟩⟩
    have hf1 : ∀ b ∈ [e, it], FpOk X pins (upd H s.heap.objs.size (.tup [.int i, x])) b := fun b hb => by
      obtain ⟨f0, f⟩ := hf b hb
      refine ⟨?_, f⟩
      rw [upd_ne]
      · exact f0
      · simp only [List.mem_cons, List.not_mem_nil, or_false] at hb
        rcases hb with rfl | rfl
        · exact ne1.symm
        · exact ne2.symm
    have kk : ∀ b o, b ∉ [e, it] → (s.heap.push { cls := .type "tuple", data := .seq #[.int i s.toks, u] }).get? b = some o → h2.get? b = some o := fun b o hb z => by
      simp only [List.mem_cons, List.not_mem_nil, or_false, not_or] at hb
      by_cases hz : b = s.heap.objs.size
      · subst hz
        rw [Heap.get?_push_size _ rfl] at z
        cases z
        exact (hs2.2 _ ne1).trans hT
      · exact (hs2.2 b hb.1).trans (hk b o hb.1 hb.2 (push_some z hz))
    have I2 := I1.turnedL (h' := h2) (t' := s.toks + 1) (fp := [e, it]) kk hf1
    exact ⟨.ref s.heap.objs.size, _, I2, rfl, ⟨_, x, rfl, fre, rfl, fun ys hy => by rw [I.list_inj hy hq]; exact hx⟩, ⟨⟨_, by simpa using he2⟩, hit'.at fun o y => (hs2.2 it hei.symm).trans y⟩, fun b hb => (hf1 b hb).1⟩
  done := by
    intro X hP hw hK hc i pins s σ H E I hf st hg
    subst hP hw hK
    obtain ⟨⟨old, he⟩, hit⟩ := st
    obtain ⟨xs, hq, hx⟩ := hg
    obtain ⟨its, rv, p, hz⟩ := I.list hq
    have hl := rv.length
    exact wpAny_pyNext_enum_end (I.ok.hd hc) he hit p.isList (Array.getElem?_eq_none (by simp; omega)) fun h' eb => ⟨rfl, I.turnedL (t' := s.toks) (fp := [e, it]) (fun b o hb z => eb b o (fun z' => hb (by simp [z'])) z) hf⟩
  self := fun _ _ _ _ _ st h => by
    obtain ⟨⟨old, he⟩, _⟩ := st
    exact wpAny_pyIter_enum he h
theorem boot_enumerate : bootBuiltins "enumerate" = some (.type "enumerate") := by decide +kernel
def iEnum (K : PySem.W.Frag) (ta : TA) : TI := fun σ H R => ta σ H fun vs H1 => ∃ a xs, vs = [.ref a] ∧ SqL K H1 a xs ∧ R (Ite K a) H1
theorem pi_enum {X : Cx} {K : PySem.W.Frag} {a : Expr} {ta : TA} {es : List Expr} {x1} {tp p pos : Pos} (hK : X.K = K) (hg : Gl X "enumerate") (hm : X.mg "enumerate" = none) (ha : PA X [a] ta) (hs : starEach [a] X.env = [(false, eval a X.env)] := by rfl) : PI X (.Tuple es x1 tp) (.Call (.Name "enumerate" p) [a] [] pos) (iEnum K ta) := by
  subst hK
  intro pins s σ H R I h
  refine Call_ (ld_blt I hg hm boot_enumerate (PyProof.Rows.callWith_type1 (thn (ha pos pins s σ H _ I h) fun us s1 ⟨vs, H1, I1, r1, q1⟩ => ?_) hs rfl))
  obtain ⟨a, xs, e, hq, q⟩ := q1
  subst e
  cases r1 with
  | cons r rr =>
    cases rr
    cases r
    obtain ⟨its, rv, pl, hz⟩ := I1.list hq
    refine call_enumerate_list pl.isList fun h' he hi hsz hk => wpAny_pyIter_enum he ?_
    refine ⟨_, [s1.heap.objs.size + 1, s1.heap.objs.size], _, _, H1, rfl, I1.kept (t' := s1.toks) hk, turn_enum a _ _ (Nat.succ_ne_self _), ⟨⟨_, he⟩, hi⟩, fun b hb => ?_, q⟩
    simp only [List.mem_cons, List.not_mem_nil, or_false] at hb
    rcases hb with rfl | rfl
    · exact I1.fpOk (Nat.le_succ _) (I1.hok.fresh (Nat.le_succ _))
    · exact I1.fpOk (Nat.le_refl _) (I1.hok.fresh (Nat.le_refl _))
theorem for_enum {K : PySem.W.Frag} {a : Addr} {xs : List V} {g : TG} {tb : TS} {D : Ends} {σ : St} {H : Hp} (Pv : Nat → St → Hp → Prop) (h0 : Pv 0 σ H) (hl : ∀ i σ H, i ≤ xs.length → Pv i σ H → SqL K H a xs)
    (hs : ∀ i x t σ H, xs[i]? = some x → H t = none → Pv i σ H → g (.ref t) σ (upd H t (.tup [.int i, x])) fun σ2 H2 => tb { D with nx := Pv (i + 1), ct := Pv (i + 1), bk := D.nx } σ2 H2) (hd : ∀ σ H, Pv xs.length σ H → D.nx σ H) :
    ∃ W : Nat → Nat → St → Hp → Prop, (∃ m, W 0 m σ H) ∧ ∀ i m σ H, W i m σ H →
      ((Ite K a).stop i H ∧ D.nx σ H) ∨ ((Ite K a).go i H ∧ ∃ N : St → Hp → Prop, (∀ σ' H', N σ' H' → ∃ m', m' < m ∧ W (i + 1) m' σ' H') ∧ ∀ x H', (Ite K a).yld i H x H' → g x σ H' fun σ2 H2 => tb { D with nx := N, ct := N, bk := D.nx } σ2 H2) := by
  refine ⟨fun i m σ H => m = xs.length - i ∧ i ≤ xs.length ∧ Pv i σ H, ⟨xs.length, by simp, Nat.zero_le _, h0⟩, ?_⟩
  rintro i m σ H ⟨rfl, hi, p⟩
  have q := hl i σ H hi p
  by_cases hlt : i < xs.length
  · refine .inr ⟨⟨xs, xs[i], q, by simp [hlt]⟩, Pv (i + 1), fun σ' H' p' => ⟨xs.length - (i + 1), by omega, rfl, hlt, p'⟩, fun x H' y => ?_⟩
    obtain ⟨t, v, rfl, ht, rfl, y⟩ := y
    exact hs i v t σ _ (y xs q) ht p
  · have e : i = xs.length := by omega
    subst e
    exact .inl ⟨⟨xs, q, Nat.le_refl _⟩, hd σ H p⟩
theorem vEnum {K : PySem.W.Frag} {tas : TA} {σ : St} {H : Hp} {R : It → Hp → Prop} (h : tas σ H fun vs H1 => ∃ a xs, vs = [.ref a] ∧ SqL K H1 a xs ∧ R (Ite K a) H1) : iEnum K tas σ H R := h
end L2
namespace L2
open PySem PySem.Spec PyProof.Rows
section
variable {X : Cx}
def rPart : V → List V → Hp → VK → Prop := fun x vs H Q => ∃ z y, x = .str z ∧ vs = [.str y] ∧ (y.length == 0) = false ∧ z.length ≤ sizeLine ∧ ∀ p, H p = none → Q (.ref p) (upd H p (.tup [.str (Txt.partition z y).1, .str (Txt.partition z y).2.1, .str (Txt.partition z y).2.2]))
theorem mt_partition : MtR X "str.partition" rPart := by
  intro pins s σ H x vs v us Q I rx rv h
  obtain ⟨z, y, rfl, rfl, hy, hz, q⟩ := h
  obtain ⟨t, rfl⟩ := rx
  obtain ⟨u, rfl, ru⟩ := rv.one
  obtain ⟨tu, rfl⟩ := ru
  refine call_meets F.slot_str_partition (typeIs_str _ _ _) F.entry_str_partition (F.args_str_partition_2 _ _) (meets_str_partition z y t tu hy hz) ?_
  have q' := q _ (I.hok.fresh (Nat.le_refl _))
  unfold Txt.partition at q'
  revert q'
  cases Builtin.Str.occurrences z y 0 z.length 1 with
  | nil => intro q'; exact ⟨.ref _, _, I.laid (o := .tup [.str z, .str Str.empty, .str Str.empty]) (fun b o e => Heap.get?_push_of_some _ e) (Nat.le_refl _) ⟨by show 3 ≤ sizeLine; decide, _, .cons ⟨_, rfl⟩ (.cons ⟨_, rfl⟩ (.cons ⟨_, rfl⟩ .nil)), ⟨_, Heap.get?_push_size _ rfl, rfl, _, rfl⟩⟩, rfl, q'⟩
  | cons i r => intro q'; exact ⟨.ref _, _, I.laid (o := .tup [.str (Builtin.Str.strSub z 0 i), .str y, .str (Builtin.Str.strSub z (i + y.length) z.length)]) (fun b o e => Heap.get?_push_of_some _ e) (Nat.le_refl _) ⟨by show 3 ≤ sizeLine; decide, _, .cons ⟨_, rfl⟩ (.cons ⟨_, rfl⟩ (.cons ⟨_, rfl⟩ .nil)), ⟨_, Heap.get?_push_size _ rfl, rfl, _, rfl⟩⟩, rfl, q'⟩
theorem vals_strs (l : List (Str × Tok)) : Vals ((l.map (·.1)).map V.str) (strValues l) := by
  induction l with
  | nil => exact .nil
  | cons p r ih => exact .cons ⟨p.2, rfl⟩ ih
def rSplit : V → List V → Hp → VK → Prop := fun x vs H Q => ∃ z y, x = .str z ∧ vs = [.str y] ∧ (y.length == 0) = false ∧ z.length + 2 ≤ sizeLine ∧ ∀ p, H p = none → Q (.ref p) (upd H p (.lst ((Txt.split z y).map V.str)))
theorem split_any {prog : Program} {w : World} {A : Around} {E : Value → Shared → Prop} {s : Shared} {Q : Value → Shared → Prop} {x y : Str} {t u : Tok} (hy : (y.length == 0) = false) (hsz : x.length + 2 ≤ sizeLine)
    (h : ∀ (l : List (Str × Tok)) k, l.map (·.1) = Txt.split x y → l.length ≤ sizeLine → Q (.ref s.heap.objs.size) { s with heap := s.heap.push { cls := .type "list", data := .seq (strValues l).toArray }, toks := k }) :
    wpAny (model prog w) A (call (.builtin "str.split") [.str x t, .str y u]) Q E s := by
  have hn : (Builtin.Str.partsBetween x (Builtin.Str.occurrences x y 0 x.length (x.length + 1)) y.length).length ≤ sizeLine := by
    have e1 := StrLaws.occ_length_le x y 0 x.length (x.length + 1)
    rw [length_partsBetween]; omega
  cases h1 : (decide (x.length < y.length) || decide (Builtin.Str.strKind x < Builtin.Str.strKind y))
  · cases hf : (Builtin.Str.occurrences x y 0 x.length (x.length + 1)).isEmpty
    · refine call_meets F.slot_str_split (typeIs_str _ _ _) F.entry_str_split (F.args_str_split_2 _ _) (meets_str_split_sep x y t u h1 hy hf (by omega) hn) ?_
      show wants Q E _ { s with toks := _, heap := s.heap.push { cls := .type "list", data := .seq (strsFrom s.toks (Builtin.Str.partsBetween x (Builtin.Str.occurrences x y 0 x.length (x.length + 1)) y.length)).toArray } }
      rw [strsFrom_eq]
      have e := (numbered_texts s.toks (Builtin.Str.partsBetween x (Builtin.Str.occurrences x y 0 x.length (x.length + 1)) y.length))
      exact h (numbered s.toks _) _ (e.trans ((if_neg (ne_true_of_eq_false h1)).trans (if_neg (ne_true_of_eq_false hf))).symm) (by rw [← List.length_map (f := (·.1)), e]; exact hn)
    · exact call_meets F.slot_str_split (typeIs_str _ _ _) F.entry_str_split (F.args_str_split_2 _ _) (meets_str_split_not_found x y t u h1 hy hf)
        (h [(x, t)] s.toks ((if_neg (ne_true_of_eq_false h1)).trans (if_pos hf)).symm (by show 1 ≤ sizeLine; decide))
  · exact call_meets F.slot_str_split (typeIs_str _ _ _) F.entry_str_split (F.args_str_split_2 _ _) (meets_str_split_cannot_occur x y t u h1)
      (h [(x, t)] s.toks (if_pos h1).symm (by show 1 ≤ sizeLine; decide))
theorem mt_split : MtR X "str.split" rSplit := by
  intro pins s σ H x vs v us Q I rx rv h
  obtain ⟨z, y, rfl, rfl, hy, hz, q⟩ := h
  obtain ⟨t, rfl⟩ := rx
  obtain ⟨u, rfl, ru⟩ := rv.one
  obtain ⟨tu, rfl⟩ := ru
  refine split_any hy hz fun l k e hl => ?_
  refine ⟨.ref _, _, I.laid (o := .lst ((Txt.split z y).map V.str)) (fun b o e => Heap.get?_push_of_some _ e) (Nat.le_refl _) ?_, rfl, q _ (I.hok.fresh (Nat.le_refl _))⟩
  rw [← e]
  exact ⟨by rw [List.length_map, List.length_map]; exact hl, _, _, vals_strs l, Heap.get?_push_size _ rfl⟩
end
end L2
namespace L2
open PySem PySem.Spec PyProof.Rows PySem.Builtin PySem.Builtin.Str
theorem str_ext {a b : Str} (h : a.cps.toList = b.cps.toList) : a = b := by
  cases a
  cases b
  exact congrArg Str.mk (Array.toList_inj.mp h)
theorem cat_list (a b : Str) : (a ++ b).cps.toList = a.cps.toList ++ b.cps.toList := by
  show (a.cps ++ b.cps).toList = _
  exact Array.toList_append
def jl (c : List Nat) : List (List Nat) → List Nat
  | [] => []
  | [x] => x
  | x :: y :: r => x ++ c ++ jl c (y :: r)
theorem join_jl (z : Str) : ∀ xs : List Str, (Str.join z xs).cps.toList = jl z.cps.toList (xs.map (·.cps.toList))
  | [] => rfl
  | [x] => rfl
  | x :: y :: r => by
    show (x ++ z ++ Str.join z (y :: r)).cps.toList = x.cps.toList ++ z.cps.toList ++ jl z.cps.toList ((y :: r).map (·.cps.toList))
    rw [cat_list, cat_list, join_jl z (y :: r)]
theorem cut_inj {c : Nat} : ∀ {x y A B : List Nat}, c ∉ x → c ∉ y → x ++ c :: A = y ++ c :: B → x = y ∧ A = B
  | [], [], A, B, _, _, h => by simpa using h
  | [], b :: y, A, B, _, hy, h => by
    have : c = b := by simpa using (List.cons.inj h).1
    exact absurd (this ▸ List.mem_cons_self) hy
  | a :: x, [], A, B, hx, _, h => by
    have : a = c := by simpa using (List.cons.inj h).1
    exact absurd (this ▸ List.mem_cons_self) hx
  | a :: x, b :: y, A, B, hx, hy, h => by
    have h1 := List.cons.inj h
    obtain ⟨e1, e2⟩ := cut_inj (fun z => hx (List.mem_cons_of_mem _ z)) (fun z => hy (List.mem_cons_of_mem _ z)) h1.2
    exact ⟨by rw [h1.1, e1], e2⟩
theorem jl_inj (c : Nat) : ∀ {xs ys : List (List Nat)}, xs ≠ [] → ys ≠ [] → (∀ x ∈ xs, c ∉ x) → (∀ y ∈ ys, c ∉ y) → jl [c] xs = jl [c] ys → xs = ys
  | [], _, h, _, _, _, _ => absurd rfl h
  | _ :: _, [], _, h, _, _, _ => absurd rfl h
  | [x], [y], _, _, _, _, h => by
    have : x = y := h
    rw [this]
  | [x], y :: y' :: s, _, _, hx, _, h => by
    have h : x = y ++ [c] ++ jl [c] (y' :: s) := h
    exact absurd (show c ∈ x by rw [h]; simp) (hx x List.mem_cons_self)
  | x :: x' :: r, [y], _, _, _, hy, h => by
    have h : x ++ [c] ++ jl [c] (x' :: r) = y := h
    exact absurd (show c ∈ y by rw [← h]; simp) (hy y List.mem_cons_self)
  | x :: x' :: r, y :: y' :: s, _, _, hx, hy, h => by
    have h : x ++ [c] ++ jl [c] (x' :: r) = y ++ [c] ++ jl [c] (y' :: s) := h
    rw [List.append_assoc, List.append_assoc] at h
    obtain ⟨e1, e2⟩ := cut_inj (hx x List.mem_cons_self) (hy y List.mem_cons_self) h
    rw [e1, jl_inj c (by simp) (by simp) (fun z hz => hx z (List.mem_cons_of_mem _ hz)) (fun z hz => hy z (List.mem_cons_of_mem _ hz)) e2]
theorem join_eq (z : Str) (xs : List Str) : Txt.join z xs = Str.join z xs := StrLaws.glued_eq_join z xs
theorem map_list_inj : ∀ {xs ys : List Str}, xs.map (·.cps.toList) = ys.map (·.cps.toList) → xs = ys
  | [], [], _ => rfl
  | [], _ :: _, h => by cases h
  | _ :: _, [], h => by cases h
  | x :: r, y :: s, h => by
    have h := List.cons.inj h
    rw [str_ext h.1, map_list_inj h.2]
theorem split_of {c : Nat} {ls : List Str} (ne : ls ≠ []) (hf : ∀ l ∈ ls, c ∉ l.cps.toList) : Txt.split (Txt.join ⟨#[c]⟩ ls) ⟨#[c]⟩ = ls := by
  apply map_list_inj
  refine jl_inj c ?_ (by simpa using ne) (fun x hx => ?_) (fun x hx => ?_) ?_
  · have := split_pos (Txt.join ⟨#[c]⟩ ls) ⟨#[c]⟩
    intro h
    rw [List.map_eq_nil_iff] at h
    rw [h] at this
    exact absurd this (by decide)
  · obtain ⟨l, hl, rfl⟩ := List.mem_map.mp hx
    exact StrLaws.split_free _ c l hl
  · obtain ⟨l, hl, rfl⟩ := List.mem_map.mp hx
    exact hf l hl
  · have h1 := join_jl ⟨#[c]⟩ (Txt.split (Txt.join ⟨#[c]⟩ ls) ⟨#[c]⟩)
    have h2 := join_jl ⟨#[c]⟩ ls
    rw [← join_eq] at h2
    rw [StrLaws.join_split] at h1
    exact h1.symm.trans h2
theorem sub_list (x : Str) (i j : Nat) : (strSub x i j).cps.toList = (x.cps.toList.drop i).take (j - i) := StrLaws.strSub_toList x i j
theorem part_cases (x : Str) (c : Nat) : (c ∉ x.cps.toList ∧ Txt.partition x ⟨#[c]⟩ = (x, Str.empty, Str.empty)) ∨ ∃ a b : Str, x.cps.toList = a.cps.toList ++ c :: b.cps.toList ∧ c ∉ a.cps.toList ∧ Txt.partition x ⟨#[c]⟩ = (a, ⟨#[c]⟩, b) := by
  rcases partition_whole x ⟨#[c]⟩ with ⟨hp, hn⟩ | ⟨i, hp, hi, hn⟩
  · refine .inl ⟨fun hm => ?_, hp⟩
    obtain ⟨i, hi⟩ := (mem_iff_at x c).mp hm
    exact hn i hi
  · refine .inr ⟨_, _, ?_, ?_, hp⟩
    · rw [sub_list, sub_list, List.drop_zero, Nat.sub_zero]
      have hm := (StrLaws.subAt_one x c i).mp hi
      have hlen : x.length = x.cps.toList.length := by simp [Str.length]
      have hil : i < x.cps.toList.length := (List.getElem?_eq_some_iff.mp hm).1
      have hc := (List.getElem?_eq_some_iff.mp hm).2
      have e1 : i + (⟨#[c]⟩ : Str).length = i + 1 := rfl
      have e2 : (x.cps.toList.drop (i + 1)).take (x.length - (i + 1)) = x.cps.toList.drop (i + 1) := List.take_of_length_le (by rw [List.length_drop]; omega)
      have e3 : x.cps.toList.drop i = c :: x.cps.toList.drop (i + 1) := by rw [List.drop_eq_getElem_cons hil, hc]
      rw [e1, e2, ← e3, List.take_append_drop]
    · rw [sub_list, List.drop_zero, Nat.sub_zero]
      intro hm
      obtain ⟨k, hk⟩ := List.getElem?_of_mem hm
      have hki : k < i := by have := (List.getElem?_eq_some_iff.mp hk).1; rw [List.length_take] at this; omega
      rw [List.getElem?_take, if_pos hki] at hk
      exact hn k hki ((StrLaws.subAt_one x c k).mpr hk)
theorem part_of {c : Nat} {x a b : Str} (h : x.cps.toList = a.cps.toList ++ c :: b.cps.toList) (hf : c ∉ a.cps.toList) : Txt.partition x ⟨#[c]⟩ = (a, ⟨#[c]⟩, b) := by
  rcases part_cases x c with ⟨hn, _⟩ | ⟨a', b', h', hf', hp⟩
  · exact absurd (by rw [h]; simp) hn
  · rw [h] at h'
    obtain ⟨e1, e2⟩ := cut_inj hf hf' h'
    rw [hp, str_ext e1, str_ext e2]
theorem join_len_le (z : Str) (xs : List Str) : (Txt.join z xs).length ≤ (xs.map (·.length)).sum + xs.length * z.length := by
  rw [join_eq]
  exact StrLaws.join_length_le z xs
theorem lt99 {a c : Nat} (h : a + 100 < c) : a + 1 < c := by omega
theorem vDGet2 {td ty tx : TE} {σ : St} {H : Hp} {Q : VK} (h : td σ H fun x H1 => ∃ a, x = .ref a ∧ IsD H1 a ∧ ty σ H1 fun y H2 => tx σ H2 fun z H3 => ∃ o, DGet H3 a y o ∧ Q (o.getD z) H3) : tDGet2 td ty tx σ H Q := h
end L2
namespace L2
open PySem PySem.Spec PyProof.Rows
theorem eqV_strD (a b : Str) : eqV (.str a) (.str b) = decide (a = b) := by
  have e : eqV (.str a) (.str b) = (a == b) := by simp [eqV]
  rw [e, Bool.eq_iff_iff, beq_iff_eq, decide_eq_true_iff]
theorem ne_before : ∀ (ys : List Str) (y : Str) (m : Nat) (hm : m < ys.length), m < ys.idxOf y → ys[m] ≠ y
  | [], _, _, hm, _ => by simp at hm
  | a :: r, y, m, hm, h => by
    rw [List.idxOf_cons] at h
    by_cases e : a = y
    · subst e; simp at h
    · have hb : (a == y) = false := beq_eq_false_iff_ne.mpr e
      rw [hb] at h
      cases m with
      | zero => exact e
      | succ k =>
        have hk : k < r.idxOf y := by
          have h : k + 1 < r.idxOf y + 1 := h
          omega
        exact ne_before r y k (by simpa using hm) hk
section
variable {X : Cx} {K : PySem.W.Frag}
def rIndex (K : PySem.W.Frag) : V → List V → Hp → VK → Prop := fun x vs H Q => ∃ (p : Addr) (ys : List Str) (y : Str), x = .ref p ∧ vs = [.str y] ∧ SqL K H p (ys.map V.str) ∧ y ∈ ys ∧ Q (.int (ys.idxOf y : Nat)) H
theorem k_index (hK : X.K = K) : MtR X "list.index" (rIndex K) := by
  subst hK
  intro pins s σ H x vs v us Q I rx rv h
  obtain ⟨p, ys, y, rfl, rfl, hq, hy, q⟩ := h
  cases rx
  obtain ⟨u, rfl, ru⟩ := rv.one
  obtain ⟨its, r, pl, hz⟩ := I.list hq
  obtain ⟨⟨cls, dd, data, sl⟩, ho, hc, n, hd⟩ := id pl.isList
  simp only at hc hd
  subst hc hd
  have fs : (ys.map V.str).all flatV = true := by rw [List.all_map]; exact List.all_eq_true.mpr fun _ _ => rfl
  have hlen : (ys.map V.str).length = its.length := r.length
  rw [List.length_map] at hlen
  have hj : ys.idxOf y < ys.length := List.idxOf_lt_length_iff.mpr hy
  have at_ : ∀ (m : Nat) (hm : m < ys.length) (hm' : m < its.toArray.size), eqU (.str y) its.toArray[m] = decide (ys[m] = y) := fun m hm hm' => by
    have g : (ys.map V.str)[m]? = some (.str ys[m]) := by rw [List.getElem?_map, List.getElem?_eq_getElem hm]; rfl
    obtain ⟨w, hw, rw'⟩ := r.get g
    have e : its.toArray[m] = w := by
      have : its.toArray[m]? = some w := by simpa using hw
      rw [Array.getElem?_eq_getElem hm'] at this
      exact Option.some.inj this
    rw [e, eqU_of rw' rfl, eqV_strD]
  have hi : ys.length ≤ sizeLine := by rw [List.length_map] at hz; exact hz
  have hsl : sizeLine < 2 ^ 63 - 1 := by decide
  refine call_meets PySem.F.slot_list_index ⟨_, ho, rfl⟩ PySem.F.entry_list_index (PySem.F.args_list_index_2 _ _)
    (SeqAt.list_indexAt p its.toArray n dd sl u (eqU (.str y)) (ys.idxOf y) (by simpa [← hlen] using hj) (by omega) ?_ ?_) ⟨ho, fun w hw => mem_eqAt ru rfl r fs w (by simpa using hw), .int _, H, I.tok _, ⟨_, rfl⟩, q⟩
  · rw [at_ _ hj]
    exact decide_eq_true (List.getElem_idxOf hj)
  · intro m hm hlt
    rw [at_ m (by omega)]
    exact decide_eq_false fun e => ne_before ys y m (by omega) hlt e
theorem k_notinS : OpR X (compareOp .NotIn) (fun x y H Q => ∃ i j, x = .str i ∧ y = .str j ∧ Q (.bl (!(!(Builtin.Str.occurrences j i 0 j.length 1).isEmpty))) H) := by
  intro pins s σ H x y u v Q I rx ry h
  obtain ⟨i, j, rfl, rfl, q⟩ := h
  obtain ⟨t, rfl⟩ := rx
  obtain ⟨t', rfl⟩ := ry
  exact notIn_str ⟨.bl _, H, I, rfl, q⟩
end
theorem slice_ixD (k n : Nat) : Builtin.Str.strSliceIndices (some (k : Int)) none 1 n = (List.range (n - k)).map (k + ·) := by
  unfold Builtin.Str.strSliceIndices sliceRange
  simp only [show (1 : Int) > 0 by decide, if_true]
  rw [if_neg (show ¬ ((k : Int) < 0) by omega)]
  have e1 : max 0 (min (k : Int) n) = ((min k n : Nat) : Int) := by omega
  rw [e1]
  by_cases hk : k ≤ n
  · rw [Nat.min_eq_left hk]
    have e2 : (fun (j : Nat) => ((k : Int) + 1 * (j : Int)).toNat) = (k + ·) := by funext j; omega
    rw [e2]
    congr 2
    split
    · rw [Int.ediv_one]; omega
    · omega
  · rw [Nat.min_eq_right (by omega), show n - k = 0 by omega]
    rw [if_neg (by omega)]
    rfl
theorem fm_drop (a : Array Nat) (k : Nat) : ∀ m, k + m ≤ a.size → ((List.range m).map (k + ·)).filterMap (a[·]?) = (a.toList.drop k).take m
  | 0, _ => by simp
  | m + 1, h => by
    rw [List.range_succ, List.map_append, List.filterMap_append, fm_drop a k m (by omega), List.take_add_one]
    congr 1
    have e : a[k + m]? = some a[k + m] := Array.getElem?_eq_getElem (by omega)
    have e' : (a.toList.drop k)[m]? = some a[k + m] := by rw [List.getElem?_drop, Array.getElem?_toList]; exact e
    rw [e', List.map_cons, List.filterMap_cons, e]
    rfl
theorem slice_drop (z : Str) (k : Nat) : (Txt.slice z (some (k : Int)) none).cps.toList = z.cps.toList.drop k := by
  unfold Txt.slice
  rw [slice_ixD]
  have hz : z.length = z.cps.toList.length := by simp [Str.length]
  split
  · rename_i h
    rw [List.length_map, List.length_range] at h
    have h : z.length - k = z.length := by simpa using h
    by_cases hk : k = 0
    · subst hk; rw [List.drop_zero]
    · have : z.cps.toList = [] := List.length_eq_zero_iff.mp (by omega)
      rw [this]; simp
  · show (List.filterMap _ _).toArray.toList = _
    by_cases hk : k ≤ z.length
    · have := fm_drop z.cps k (z.length - k) (by show k + (z.length - k) ≤ z.length; omega)
      rw [this]
      exact List.take_of_length_le (by rw [List.length_drop]; omega)
    · rw [show z.length - k = 0 by omega, List.drop_of_length_le (by omega)]
      rfl
theorem slice_len (z : Str) (lo hi : Option Int) : (Txt.slice z lo hi).length ≤ z.length := Txt.slice_le z lo hi
theorem split_first (x : Str) (c : Nat) : (Txt.split x ⟨#[c]⟩).headD "" = (Txt.partition x ⟨#[c]⟩).1 := by
  have hp := split_pos x ⟨#[c]⟩
  have hj := StrLaws.join_split x ⟨#[c]⟩
  have hf := StrLaws.split_free x c
  cases h : Txt.split x ⟨#[c]⟩ with
  | nil => rw [h] at hp; exact absurd hp (by decide)
  | cons a r =>
    rw [h] at hj hf
    show a = _
    have hl := join_jl ⟨#[c]⟩ (a :: r)
    rw [hj] at hl
    cases r with
    | nil =>
      have e : x.cps.toList = a.cps.toList := hl
      rcases part_cases x c with ⟨_, hq⟩ | ⟨a', b', h', _, _⟩
      · rw [hq]; exact (str_ext e).symm
      · exact absurd (by rw [← e, h']; simp) (hf a List.mem_cons_self)
    | cons b r' =>
      have e : x.cps.toList = a.cps.toList ++ c :: jl [c] ((b :: r').map (·.cps.toList)) := by
        rw [hl]
        show a.cps.toList ++ [c] ++ _ = _
        simp
      have hq := part_of (b := ⟨(jl [c] ((b :: r').map (·.cps.toList))).toArray⟩) e (hf a List.mem_cons_self)
      rw [hq]
theorem cutV_take (xs : List V) (k : Nat) : cutV xs none (some (k : Int)) = xs.take k := by
  unfold cutV
  rw [HT.sIx_none, HT.sIx_nat, List.drop_zero, Nat.sub_zero]
  by_cases h : k ≤ xs.length
  · rw [Nat.min_eq_left h]
  · rw [Nat.min_eq_right (by omega), List.take_of_length_le (Nat.le_refl _), List.take_of_length_le (by omega)]
theorem cutV_drop (xs : List V) (k : Nat) : cutV xs (some (k : Int)) none = xs.drop k := by
  unfold cutV
  rw [HT.sIx_none, HT.sIx_nat]
  by_cases h : k ≤ xs.length
  · rw [Nat.min_eq_left h, List.take_of_length_le (by rw [List.length_drop]; omega)]
  · rw [Nat.min_eq_right (by omega), List.drop_length, List.drop_of_length_le (by omega)]
    simp
end L2
namespace K06
open PySem L2 PyProof.Rows
theorem u100 {k : Nat} {A : Around} (hr : Room k A) : A.units + 100 < cLine := by have := hr.un; omega
theorem hm {k j : Nat} {A : Around} (hr : Room k A) (h : j ≤ k := by decide) : Room j A := hr.mono h
def top (i : Nat) : Stmt := PySem.Challenge.pw_onceroad_k06_web_texts_refused.main.body.getD i (.Pass ⟨0, 0, 0, 0⟩)
/- OnceError.__init__: calls [] -/
abbrev s_OnceError_init : Stmt := inClass (top 2) 0
theorem sc_OnceError_init : FnScope ["self", "text"] ["self", "text"] (defScope s_OnceError_init) := ⟨rfl, rfl, rfl, by decide +kernel, rfl, by decide +kernel, by decide +kernel⟩
/- NoName.__init__: calls [] -/
abbrev s_NoName_init : Stmt := inClass (top 3) 0
theorem sc_NoName_init : FnScope ["self", "found"] ["self", "found"] (defScope s_NoName_init) := ⟨rfl, rfl, rfl, by decide +kernel, rfl, by decide +kernel, by decide +kernel⟩
/- Twice.__init__: calls [] -/
abbrev s_Twice_init : Stmt := inClass (top 4) 0
theorem sc_Twice_init : FnScope ["self", "name"] ["self", "name"] (defScope s_Twice_init) := ⟨rfl, rfl, rfl, by decide +kernel, rfl, by decide +kernel, by decide +kernel⟩
/- NoPlace.__init__: calls [] -/
abbrev s_NoPlace_init : Stmt := inClass (top 5) 0
theorem sc_NoPlace_init : FnScope ["self", "found"] ["self", "found"] (defScope s_NoPlace_init) := ⟨rfl, rfl, rfl, by decide +kernel, rfl, by decide +kernel, by decide +kernel⟩
/- NoTie.__init__: calls [] -/
abbrev s_NoTie_init : Stmt := inClass (top 6) 0
theorem sc_NoTie_init : FnScope ["self", "found"] ["self", "found"] (defScope s_NoTie_init) := ⟨rfl, rfl, rfl, by decide +kernel, rfl, by decide +kernel, by decide +kernel⟩
/- TooMany.__init__: calls [] -/
abbrev s_TooMany_init : Stmt := inClass (top 7) 0
theorem sc_TooMany_init : FnScope ["self", "many"] ["self", "many"] (defScope s_TooMany_init) := ⟨rfl, rfl, rfl, by decide +kernel, rfl, by decide +kernel, by decide +kernel⟩
/- NoText.__init__: calls [] -/
abbrev s_NoText_init : Stmt := inClass (top 8) 0
theorem sc_NoText_init : FnScope ["self", "at"] ["self", "at"] (defScope s_NoText_init) := ⟨rfl, rfl, rfl, by decide +kernel, rfl, by decide +kernel, by decide +kernel⟩
local macro_rules | `(tactic| walk_at "vc1") => `(tactic| first
  | with_reducible refine vSeq ?_ | with_reducible refine vAsg ?_ | with_reducible refine vAsgS ?_ | with_reducible refine vIfS ?_ | with_reducible refine vRet ?_ | with_reducible refine vNext ?_ | with_reducible refine vC ?_
  | ((with_reducible refine' vVar ?hv ?_); (case hv => rfl)) | with_reducible refine vOp ?_ | with_reducible refine vChain ?_ | with_reducible refine vNil ?_ | with_reducible refine vCons ?_ | with_reducible refine vCB ?_ | with_reducible refine vCall ?_
  | with_reducible refine vLst ?_ | with_reducible refine vTup ?_ | with_reducible refine vTest ?_ | with_reducible refine vB ?_ | with_reducible refine vNot ?_ | with_reducible refine vAnd ?_ | with_reducible refine vOr ?_
  | with_reducible refine vAndV ?_ | with_reducible refine vOrV ?_ | with_reducible refine vNotV ?_ | with_reducible refine vYes ?_ | with_reducible refine vLeI ?_ | with_reducible refine vLeS ?_ | with_reducible refine vIsB ?_ | with_reducible refine vAddI ?_ | with_reducible refine vSl ?_ | with_reducible refine vNoPart ?_ | with_reducible refine vPart ?_ | with_reducible refine vExI ?_ | with_reducible refine vBM ?_ | with_reducible refine vBM0 ?_ | with_reducible refine vComp ?_ | with_reducible refine vFor ?_ | with_reducible refine vRng1 ?_ | with_reducible refine vAny ?_ | with_reducible refine vGN ?_ | with_reducible refine vI0 ?_ | with_reducible refine vEqI ?_ | with_reducible refine vEqB ?_ | with_reducible refine vEx ?_ | with_reducible refine vDrop ?_ | with_reducible refine vRetN ?_ | with_reducible refine vFldU ?_ | with_reducible refine vSFldU ?_ | with_reducible refine vXMake ?_ | with_reducible refine vMake ?_ | with_reducible refine vMeth ?_ | with_reducible refine vVinit ?_ | with_reducible refine vCallS ?_ | with_reducible refine vRaise ?_ | with_reducible refine vMethS ?_ | with_reducible refine vMakeS ?_ | with_reducible refine vUn ?_ | with_reducible refine vIf ?_ | with_reducible refine vRev ?_ | with_reducible refine vEnum ?_ | with_reducible refine vDGet2 ?_)
local macro_rules | `(tactic| walk_at "vc") => `(tactic| repeat walk_at "vc1")
def fldn (i : Nat) : Str := if i = 1 then "name" else if i = 4 then "many" else if i = 5 then "at" else "found"
structure Txt (K : W.Frag) (mg : Str → Option Value) (cc : Nat → Addr) (cw : Addr) : Prop where
  b_len : mg "len" = none
  b_int : mg "int" = none
  b_enumerate : mg "enumerate" = none
  b_all : mg "all" = none
  b_max : mg "max" = none
  b_min : mg "min" = none
  b_isinstance : mg "isinstance" = none
  b_bool : mg "bool" = none
  b_str : mg "str" = none
  b_range : mg "range" = none
  b_list : mg "list" = none
  b_tuple : mg "tuple" = none
  b_ValueError : mg "ValueError" = none
  g_LONGEST_NAME : ∃ tk, mg "LONGEST_NAME" = some (.int 6 tk)
  g_MOST_PLACES : ∃ tk, mg "MOST_PLACES" = some (.int 14 tk)
  g_MOST_TIES : ∃ tk, mg "MOST_TIES" = some (.int 30 tk)
  m_NoName : mg "NoName" = some (.ref (cc 0))
  m_Twice : mg "Twice" = some (.ref (cc 1))
  m_NoPlace : mg "NoPlace" = some (.ref (cc 2))
  m_NoTie : mg "NoTie" = some (.ref (cc 3))
  m_TooMany : mg "TooMany" = some (.ref (cc 4))
  m_NoText : mg "NoText" = some (.ref (cc 5))
  m_OnceError : mg "OnceError" = some (.ref (cc 6))
  vinit : VInit K
  xat : ∀ i, i < 6 + 1 → XAt K (cc i)
  na : ∀ i, i < 6 → NoAttr K (cc i) (fldn i)
  kit : ∀ i j, i < 6 → j < 6 → W.kitOne K (.ref (cc i)) (.ref (cc j)) = some (decide (i = j))
  kitV : ∀ i, i < 6 + 1 → W.kitOne K (.ref (cc i)) (.type "ValueError") = some true
  mroO : ∀ i, i < 6 → W.mroIn K (cc i) (.ref (cc 6)) = some true
  wcl : Cls K cw
  wn : NoAttr K cw "numbers"
  wo : NoAttr K cw "order"
  wr : NoAttr K cw "near"
def spOnce (K : W.Frag) : Sp := fun vs H Q _ => ∃ (e C : Addr) (y : V), vs = [.ref e, y] ∧ H e = some (XN e C none) ∧ XAt K C ∧ Q .non H
def spX (C : Addr) (fl : Str) : Sp := fun vs H Q _ => ∃ (e : Addr) (v : V), vs = [.ref e, v] ∧ H e = some (XN e C none) ∧ ∀ dx, H dx = none → Q .non (upd (upd H dx (.xd [(fl, v)])) e (XN e C (some dx)))
section
variable {P : Program} {w : World} {K : W.Frag} {mg : Str → Option Value} {base : Heap} {cc : Nat → Addr} {cw : Addr}
theorem ok_once {f : Addr} {fd : FuncData} (F : Fun K "__init__" "OnceError.__init__" s_OnceError_init f fd) (T : Txt K mg cc cw) : FnOk P w K mg base CX0 1 f fd ["self", "text"] (spOnce K) := by
  refine F.ok sc_OnceError_init (fun vs H Q E h => ?_) fun cdv A outer s H vs Q E hr h => ?_
  · obtain ⟨e, C, y, rfl, _⟩ := h; rfl
  · obtain ⟨e, C, y, rfl, he, c, q⟩ := h
    refine ⟨_, (pss_one (ps_expr (k_vinit (K := K) rfl T.vinit rfl T.b_ValueError boot_ValueError (pa_cons (pv 0) (pa_cons (pv 1) pa_nil))))), ?_⟩
    walk_at "vc"
    exact ⟨e, C, y, rfl, he, c, q⟩
theorem ok_NoName {f : Addr} {fd : FuncData} (F : Fun K "__init__" "NoName.__init__" s_NoName_init f fd) (T : Txt K mg cc cw) (D_OnceError_init : CMethOk P w K mg base CX0 1 (cc 6) "OnceError" "__init__" ["self", "text"] (spOnce K)) :
    FnOk P w K mg base CX0 2 f fd ["self", "found"] (spX (cc 0) (fldn 0)) := by
  refine F.ok sc_NoName_init (fun vs H Q E h => ?_) fun cdv A outer s H vs Q E hr h => ?_
  · obtain ⟨e, v, rfl, _⟩ := h; rfl
  · obtain ⟨e, v, rfl, he, q⟩ := h
    refine ⟨_, (pss_cons (ps_expr (pe_clsmQ D_OnceError_init (hm hr) (pa_cons (pv 0) (pa_cons pe_str pa_nil))))
  (pss_one (k_sfldU (K := K) rfl (pv 0) (pv 1) rfl))), ?_⟩
    walk_at "vc"
    refine ⟨e, _, _, rfl, he, T.xat 0 (by decide), ?_⟩
    walk_at "vc"
    exact .inr ⟨e, _, rfl, he, T.xat 0 (by decide), T.na 0 (by decide), q⟩
theorem ok_Twice {f : Addr} {fd : FuncData} (F : Fun K "__init__" "Twice.__init__" s_Twice_init f fd) (T : Txt K mg cc cw) (D_OnceError_init : CMethOk P w K mg base CX0 1 (cc 6) "OnceError" "__init__" ["self", "text"] (spOnce K)) :
    FnOk P w K mg base CX0 2 f fd ["self", "name"] (spX (cc 1) (fldn 1)) := by
  refine F.ok sc_Twice_init (fun vs H Q E h => ?_) fun cdv A outer s H vs Q E hr h => ?_
  · obtain ⟨e, v, rfl, _⟩ := h; rfl
  · obtain ⟨e, v, rfl, he, q⟩ := h
    refine ⟨_, (pss_cons (ps_expr (pe_clsmQ D_OnceError_init (hm hr) (pa_cons (pv 0) (pa_cons pe_str pa_nil))))
  (pss_one (k_sfldU (K := K) rfl (pv 0) (pv 1) rfl))), ?_⟩
    walk_at "vc"
    refine ⟨e, _, _, rfl, he, T.xat 1 (by decide), ?_⟩
    walk_at "vc"
    exact .inr ⟨e, _, rfl, he, T.xat 1 (by decide), T.na 1 (by decide), q⟩
theorem ok_NoPlace {f : Addr} {fd : FuncData} (F : Fun K "__init__" "NoPlace.__init__" s_NoPlace_init f fd) (T : Txt K mg cc cw) (D_OnceError_init : CMethOk P w K mg base CX0 1 (cc 6) "OnceError" "__init__" ["self", "text"] (spOnce K)) :
    FnOk P w K mg base CX0 2 f fd ["self", "found"] (spX (cc 2) (fldn 2)) := by
  refine F.ok sc_NoPlace_init (fun vs H Q E h => ?_) fun cdv A outer s H vs Q E hr h => ?_
  · obtain ⟨e, v, rfl, _⟩ := h; rfl
  · obtain ⟨e, v, rfl, he, q⟩ := h
    refine ⟨_, (pss_cons (ps_expr (pe_clsmQ D_OnceError_init (hm hr) (pa_cons (pv 0) (pa_cons pe_str pa_nil))))
  (pss_one (k_sfldU (K := K) rfl (pv 0) (pv 1) rfl))), ?_⟩
    walk_at "vc"
    refine ⟨e, _, _, rfl, he, T.xat 2 (by decide), ?_⟩
    walk_at "vc"
    exact .inr ⟨e, _, rfl, he, T.xat 2 (by decide), T.na 2 (by decide), q⟩
theorem ok_NoTie {f : Addr} {fd : FuncData} (F : Fun K "__init__" "NoTie.__init__" s_NoTie_init f fd) (T : Txt K mg cc cw) (D_OnceError_init : CMethOk P w K mg base CX0 1 (cc 6) "OnceError" "__init__" ["self", "text"] (spOnce K)) :
    FnOk P w K mg base CX0 2 f fd ["self", "found"] (spX (cc 3) (fldn 3)) := by
  refine F.ok sc_NoTie_init (fun vs H Q E h => ?_) fun cdv A outer s H vs Q E hr h => ?_
  · obtain ⟨e, v, rfl, _⟩ := h; rfl
  · obtain ⟨e, v, rfl, he, q⟩ := h
    refine ⟨_, (pss_cons (ps_expr (pe_clsmQ D_OnceError_init (hm hr) (pa_cons (pv 0) (pa_cons pe_str pa_nil))))
  (pss_one (k_sfldU (K := K) rfl (pv 0) (pv 1) rfl))), ?_⟩
    walk_at "vc"
    refine ⟨e, _, _, rfl, he, T.xat 3 (by decide), ?_⟩
    walk_at "vc"
    exact .inr ⟨e, _, rfl, he, T.xat 3 (by decide), T.na 3 (by decide), q⟩
theorem ok_TooMany {f : Addr} {fd : FuncData} (F : Fun K "__init__" "TooMany.__init__" s_TooMany_init f fd) (T : Txt K mg cc cw) (D_OnceError_init : CMethOk P w K mg base CX0 1 (cc 6) "OnceError" "__init__" ["self", "text"] (spOnce K)) :
    FnOk P w K mg base CX0 2 f fd ["self", "many"] (spX (cc 4) (fldn 4)) := by
  refine F.ok sc_TooMany_init (fun vs H Q E h => ?_) fun cdv A outer s H vs Q E hr h => ?_
  · obtain ⟨e, v, rfl, _⟩ := h; rfl
  · obtain ⟨e, v, rfl, he, q⟩ := h
    refine ⟨_, (pss_cons (ps_expr (pe_clsmQ D_OnceError_init (hm hr) (pa_cons (pv 0) (pa_cons pe_str pa_nil))))
  (pss_one (k_sfldU (K := K) rfl (pv 0) (pv 1) rfl))), ?_⟩
    walk_at "vc"
    refine ⟨e, _, _, rfl, he, T.xat 4 (by decide), ?_⟩
    walk_at "vc"
    exact .inr ⟨e, _, rfl, he, T.xat 4 (by decide), T.na 4 (by decide), q⟩
theorem ok_NoText {f : Addr} {fd : FuncData} (F : Fun K "__init__" "NoText.__init__" s_NoText_init f fd) (T : Txt K mg cc cw) (D_OnceError_init : CMethOk P w K mg base CX0 1 (cc 6) "OnceError" "__init__" ["self", "text"] (spOnce K)) :
    FnOk P w K mg base CX0 2 f fd ["self", "at"] (spX (cc 5) (fldn 5)) := by
  refine F.ok sc_NoText_init (fun vs H Q E h => ?_) fun cdv A outer s H vs Q E hr h => ?_
  · obtain ⟨e, v, rfl, _⟩ := h; rfl
  · obtain ⟨e, v, rfl, he, q⟩ := h
    refine ⟨_, (pss_cons (ps_expr (pe_clsmQ D_OnceError_init (hm hr) (pa_cons (pv 0) (pa_cons pe_str pa_nil))))
  (pss_one (k_sfldU (K := K) rfl (pv 0) (pv 1) rfl))), ?_⟩
    walk_at "vc"
    refine ⟨e, _, _, rfl, he, T.xat 5 (by decide), ?_⟩
    walk_at "vc"
    exact .inr ⟨e, _, rfl, he, T.xat 5 (by decide), T.na 5 (by decide), q⟩
end
/- is_name: calls []; cells [] -/
abbrev s_is_name : Stmt := top 11
theorem sc_is_name : FnScope ["thing"] ["thing"] (defScope s_is_name) := ⟨rfl, rfl, rfl, by decide +kernel, rfl, by decide +kernel, by decide +kernel⟩
/- has_bit: calls []; cells [] -/
abbrev s_has_bit : Stmt := top 16
theorem sc_has_bit : FnScope ["bits", "number"] ["bits", "number"] (defScope s_has_bit) := ⟨rfl, rfl, rfl, by decide +kernel, rfl, by decide +kernel, by decide +kernel⟩
/- is_place: calls ['is_name']; cells [] -/
abbrev s_is_place : Stmt := top 17
theorem sc_is_place : FnScope ["numbers", "thing"] ["numbers", "thing"] (defScope s_is_place) := ⟨rfl, rfl, rfl, by decide +kernel, rfl, by decide +kernel, by decide +kernel⟩
/- are_two_places: calls ['is_place']; cells [] -/
abbrev s_are_two_places : Stmt := top 18
theorem sc_are_two_places : FnScope ["numbers", "thing", "both"] ["numbers", "thing"] (defScope s_are_two_places) := ⟨rfl, rfl, rfl, by decide +kernel, rfl, by decide +kernel, by decide +kernel⟩
theorem Snew {l : Addr} {H H1 : Hp} {o : HO} (a : L2.Same H H1) (hl : H1 l = none) : L2.Same H (upd H1 l o) := fun c u e => by
  have q := a c u e
  rw [upd_ne (ne_of_none q hl)]
  exact q
theorem Supd {l : Addr} {H H1 : Hp} {o : HO} (a : L2.Same H H1) (hl : H l = none) : L2.Same H (upd H1 l o) := fun c u e => by
  rw [upd_ne (ne_of_none e hl)]
  exact a c u e
def sg (c : Nat) : Bool := if (!decide (([c] : List Nat) < ("a" : Str).cps.toList)) = true then !decide (("z" : Str).cps.toList < [c]) else false
def nameS (x : Str) : Bool := if 1 ≤ x.length ∧ x.length ≤ 6 then x.cps.toList.all sg else false
def nameV : V → Bool
  | .str x => nameS x
  | _ => false
def strV : V → Str
  | .str x => x
  | _ => ""
theorem nameV_str {x : V} (h : nameV x = true) : x = .str (strV x) ∧ nameS (strV x) = true ∧ (strV x).length ≤ 6 := by
  cases x with
  | str y =>
    refine ⟨rfl, h, ?_⟩
    have h' : nameS y = true := h
    unfold nameS at h'
    split at h'
    · rename_i z; exact z.2
    · cases h'
  | _ => cases h
inductive Th (p : Addr) (H : Hp) : Nat → V → Prop
  | flat {n : Nat} {v : V} (f : flatV v = true) (l : ∀ s, v = .str s → s.length ≤ 100000) : Th p H n v
  | lst {n : Nat} {a : Addr} {xs : List V} (e : H a = some (.lst xs)) (ne : a ≠ p) (h : ∀ x ∈ xs, Th p H n x) (l : xs.length ≤ 1000) : Th p H (n + 1) (.ref a)
  | tup {n : Nat} {a : Addr} {xs : List V} (e : H a = some (.tup xs)) (ne : a ≠ p) (h : ∀ x ∈ xs, Th p H n x) (l : xs.length ≤ 1000) : Th p H (n + 1) (.ref a)
  | dct {n : Nat} {a : Addr} {kvs : List (Key × V)} (e : H a = some (.dK kvs)) (ne : a ≠ p) : Th p H n (.ref a)
theorem Th.mono {p : Addr} {H : Hp} : ∀ {n : Nat} {v : V}, Th p H n v → Th p H (n + 1) v
  | _, _, .flat f l => .flat f l
  | _, _, .lst e ne h l => .lst e ne (fun x hx => (h x hx).mono) l
  | _, _, .tup e ne h l => .tup e ne (fun x hx => (h x hx).mono) l
  | _, _, .dct e ne => .dct e ne
theorem Th.keep {p : Addr} {H H' : Hp} (k : ∀ b o, b ≠ p → H b = some o → H' b = some o) : ∀ {n : Nat} {v : V}, Th p H n v → Th p H' n v
  | _, _, .flat f l => .flat f l
  | _, _, .lst e ne h l => .lst (k _ _ ne e) ne (fun x hx => (h x hx).keep k) l
  | _, _, .tup e ne h l => .tup (k _ _ ne e) ne (fun x hx => (h x hx).keep k) l
  | _, _, .dct e ne => .dct (k _ _ ne e) ne
theorem Th.same {p : Addr} {H H' : Hp} {n : Nat} {v : V} (h : Th p H n v) (s : L2.Same H H') : Th p H' n v := h.keep fun b o _ e => s b o e
inductive Arg (p : Addr) (H : Hp) : V → Option (List V) → Prop
  | lst {a : Addr} {xs : List V} (e : H a = some (.lst xs)) (ne : a ≠ p) (h : ∀ x ∈ xs, Th p H 2 x) (l : xs.length ≤ 1000) : Arg p H (.ref a) (some xs)
  | tup {a : Addr} {xs : List V} (e : H a = some (.tup xs)) (ne : a ≠ p) (h : ∀ x ∈ xs, Th p H 2 x) (l : xs.length ≤ 1000) : Arg p H (.ref a) (some xs)
  | flat {v : V} (f : flatV v = true) (l : ∀ s, v = .str s → s.length ≤ 100000) : Arg p H v none
  | dct {a : Addr} {kvs : List (Key × V)} (e : H a = some (.dK kvs)) (ne : a ≠ p) : Arg p H (.ref a) none
theorem Arg.keep {p : Addr} {H H' : Hp} (k : ∀ b o, b ≠ p → H b = some o → H' b = some o) {v : V} {o : Option (List V)} (h : Arg p H v o) : Arg p H' v o := by
  cases h with
  | lst e ne h l => exact .lst (k _ _ ne e) ne (fun x hx => (h x hx).keep k) l
  | tup e ne h l => exact .tup (k _ _ ne e) ne (fun x hx => (h x hx).keep k) l
  | flat f l => exact .flat f l
  | dct e ne => exact .dct (k _ _ ne e) ne
theorem Arg.same {p : Addr} {H H' : Hp} {v : V} {o : Option (List V)} (h : Arg p H v o) (s : L2.Same H H') : Arg p H' v o := h.keep fun b o _ e => s b o e
def isB : V → Bool
  | .bl _ => true
  | _ => false
theorem Th.ty {K : W.Frag} {p : Addr} {H : Hp} {n : Nat} {v : V} (h : Th p H n v) : ∃ t ∈ ["NoneType", "bool", "int", "str", "list", "tuple", "dict"], TyOf K H v (.type t) ∧ (isaT t "str" = true → ∃ x, v = .str x ∧ x.length ≤ 100000) ∧ (isaT t "str" = false → nameV v = false) ∧
    (isaT t "tuple" = true → ∃ a xs, v = .ref a ∧ H a = some (.tup xs) ∧ xs.length ≤ 1000 ∧ ∀ x ∈ xs, Th p H n x) ∧ (isaT t "tuple" = false → ∀ a xs, v = .ref a → H a ≠ some (.tup xs)) ∧ isaT t "bool" = isB v := by
  have no : ∀ {P : Prop} {a b : String}, isaT a b = false → isaT a b = true → P := fun h1 h2 => by rw [h1] at h2; cases h2
  have yes : ∀ {P : Prop} {a b : String}, isaT a b = true → isaT a b = false → P := fun h1 h2 => by rw [h1] at h2; cases h2
  cases h with
  | flat f l =>
    cases v with
    | non => exact ⟨_, by simp, .non, no (by decide), fun _ => rfl, no (by decide), fun _ _ _ e => by (cases e), rfl⟩
    | bl x => exact ⟨_, by simp, .bl x, no (by decide), fun _ => rfl, no (by decide), fun _ _ _ e => by (cases e), rfl⟩
    | int x => exact ⟨_, by simp, .int x, no (by decide), fun _ => rfl, no (by decide), fun _ _ _ e => by (cases e), rfl⟩
    | str x => exact ⟨_, by simp, .str x, fun _ => ⟨x, rfl, l x rfl⟩, yes (by decide), no (by decide), fun _ _ _ e => by (cases e), rfl⟩
    | _ => cases f
  | lst e ne h l => exact ⟨_, by simp, .lst e, no (by decide), fun _ => rfl, no (by decide), fun _ _ _ z => by (cases z; rw [e]; intro y; cases y), rfl⟩
  | tup e ne h l => exact ⟨_, by simp, .tup e, no (by decide), fun _ => rfl, fun _ => ⟨_, _, rfl, e, l, fun x hx => (h x hx).mono⟩, yes (by decide), rfl⟩
  | dct e ne => exact ⟨_, by simp, .dK e, no (by decide), fun _ => rfl, no (by decide), fun _ _ _ z => by (cases z; rw [e]; intro y; cases y), rfl⟩
section
variable {P : Program} {w : World} {K : W.Frag} {mg : Str → Option Value} {base : Heap} {cc : Nat → Addr} {cw : Addr}
def spName : Sp := fun vs H Q _ => ∃ (p : Addr) (n : Nat) (v : V), vs = [v] ∧ Th p H n v ∧ ∀ H', L2.Same H H' → Q (.bl (nameV v)) H'
theorem ok_name {f : Addr} {fd : FuncData} (F : Fun K "is_name" "is_name" s_is_name f fd) (T : Txt K mg cc cw) : FnOk P w K mg base CX0 1 f fd ["thing"] spName := by
  refine F.ok sc_is_name (fun vs H Q E h => ?_) fun cdv A outer s H vs Q E hr h => ?_
  · obtain ⟨p, n, v, rfl, _⟩ := h; rfl
  · obtain ⟨p, n, v, rfl, hv, q⟩ := h
    refine ⟨_, (pss_cons (ps_if (PW.pt (pw_or (pt_not (pt_val (pe_callB (k_isiU (K := K) rfl) rfl T.b_isinstance boot_isinstance (pa_cons (pv 0) (pa_cons (pe_bltn (v := .ty "str") rfl T.b_str boot_str rfl) pa_nil))))) (pw_or1 (pt_not (pt_chain u_le u_le pe_int (pe_callB (k_len (K := K) rfl) rfl T.b_len boot_len (pa_cons (pv 0) pa_nil)) (pe_globI rfl T.g_LONGEST_NAME)))))) (pss_one (ps_ret pe_bl)) pss_nil)
  (pss_one (ps_ret (pe_callB (k_all (K := K) rfl rfl) rfl T.b_all boot_all (pa_cons (pe_comp (sc := defScope s_is_name) (XN := ["thing"]) ["sign"] 1 [] rfl rfl rfl (by decide +kernel) rfl (by decide +kernel)
   (ki_any (K := K) rfl (pv 0)) (fun _ _ _ _ => (pg_name (i := 0) (show (["sign"] : List Str).Nodup by decide +kernel) rfl (Or.inl rfl))) gk_name
   (fun _ _ _ _ => pifs_nil)
   (fun _ _ _ _ => (pe_chain u_le u_le pe_str (pv 0) pe_str))) pa_nil))))), ?_⟩
    obtain ⟨t, ht, ty, hs, hn, _, _, _⟩ := hv.ty (K := K)
    walk_at "vc"
    refine vIsiU (.inl ty) rfl (kit_tab K t ht "str" (by simp)) ?_
    walk_at "vc"
    refine ite2 (fun h => ?_) fun h => ?_
    · walk_at "vc"
      have z := q H (L2.Same.refl H)
      rw [hn (by simpa using h)] at z
      exact z
    · obtain ⟨x, rfl, hx⟩ := hs (by simpa using h)
      walk_at "vc"
      refine vLenS (Nat.le_trans hx (by decide)) ?_
      walk_at "vc"
      have q1 := q
      simp only [nameV, nameS] at q1
      have hneg : ¬ (1 ≤ x.length ∧ x.length ≤ 6) → ∀ H', L2.Same H H' → Q (.bl false) H' := fun hc H' hs => by
        have z := q1 H' hs
        rw [if_neg hc] at z
        exact z
      refine ite2 (fun h1 => ?_) fun h1 => ?_
      · walk_at "vc"
        refine ite2 (fun h2 => ?_) fun h2 => ?_
        · walk_at "vc"
          refine hneg (fun h => ?_) H (L2.Same.refl H)
          simp only [Bool.not_eq_true', decide_eq_false_iff_not] at h2
          omega
        · walk_at "vc"
          have hin : 1 ≤ x.length ∧ x.length ≤ 6 := by
            have a1 := of_decide_eq_true h1
            simp only [Bool.not_eq_true', decide_eq_false_iff_not, Classical.not_not] at h2
            omega
          rw [if_pos hin] at q1
          refine comp_str (fun i ys H' => H' = H ∧ ys = ((x.cps.toList.take i).map sg).map V.bl) ⟨rfl, by simp⟩ (fun i c ys H' hc hp => ?_) fun ys H' hp => ?_
          · obtain ⟨rfl, rfl⟩ := hp
            walk_at "vc"
            refine iteT ?_
            walk_at "vc"
            have hl : (List.map V.bl (List.map sg (List.take i x.cps.toList))).length < sizeLine := by
              rw [List.length_map, List.length_map, List.length_take]
              exact small1000 (Nat.le_trans (Nat.min_le_right _ _) (by simpa [Str.length] using (show x.length ≤ 1000 by omega)))
            have key : ∀ b, b = sg c → (List.map V.bl (List.map sg (List.take i x.cps.toList))) ++ [V.bl b] = List.map V.bl (List.map sg (List.take (i + 1) x.cps.toList)) := by
              intro b hb
              have e' : x.cps.toList[i]? = some c := by simpa using hc
              rw [hb, List.take_add_one, e']
              simp
            refine ite2 (fun h3 => ?_) fun h3 => ?_
            · walk_at "vc"
              exact ⟨hl, rfl, key _ (by unfold sg; rw [if_pos h3])⟩
            · exact ⟨hl, rfl, key _ (by unfold sg; rw [if_neg h3])⟩
          · obtain ⟨rfl, rfl⟩ := hp
            have ht : x.cps.toList.take x.cps.size = x.cps.toList := by rw [← Array.length_toList, List.take_length]
            rw [ht]
            refine ⟨?_, fun l hl => ?_⟩
            · rw [List.length_map, List.length_map]
              exact Nat.le_of_lt (small1000 (by simpa [Str.length] using (show x.length ≤ 1000 by omega)))
            · walk_at "vc"
              refine ⟨l, x.cps.toList.map sg, rfl, SqL.of upd_same, ?_⟩
              have z := q1 _ (Snew (L2.Same.refl H') (o := .lst ((x.cps.toList.map sg).map V.bl)) hl)
              rw [List.all_map]
              exact z
      · walk_at "vc"
        exact hneg (fun h => h1 (decide_eq_true (by omega))) H (L2.Same.refl H)
def spBit : Sp := fun vs H Q _ => ∃ b n : Int, vs = [.int b, .int n] ∧ 0 ≤ n ∧ Q (.bl (decide (Builtin.bitAnd (b / 2 ^ n.toNat) 1 = 1))) H
theorem ok_bit {f : Addr} {fd : FuncData} (F : Fun K "has_bit" "has_bit" s_has_bit f fd) : FnOk P w K mg base CX0 1 f fd ["bits", "number"] spBit := by
  refine F.ok sc_has_bit (fun vs H Q E h => ?_) fun cdv A outer s H vs Q E hr h => ?_
  · obtain ⟨b, n, rfl, _⟩ := h; rfl
  · obtain ⟨b, n, rfl, hn, q⟩ := h
    have hu := u100 hr
    refine ⟨_, (pss_one (ps_ret (pe_cmpR (k_eqZ (K := K) rfl hu) (pe_op op_and (pe_op op_shr (pv 0) (pv 1)) pe_int) pe_int (nomark _)))), ?_⟩
    walk_at "vc"
    refine vI hn ?_
    walk_at "vc"
    refine .inl (.inl (.inl ⟨rfl, rfl, ?_⟩))
    exact q
def numK : List Str → Nat → List (Key × V)
  | [], _ => []
  | s :: r, i => (.inr s, .int i) :: numK r (i + 1)
theorem numK_snoc (y : Str) : ∀ (ss : List Str) (i : Nat), numK (ss ++ [y]) i = numK ss i ++ [(.inr y, .int (i + ss.length : Nat))]
  | [], i => rfl
  | s :: r, i => by
    show (_ :: numK (r ++ [y]) (i + 1)) = _ :: (numK r (i + 1) ++ _)
    rw [numK_snoc y r (i + 1)]
    have : i + 1 + r.length = i + (s :: r).length := by simp; omega
    rw [this]
theorem numK_length : ∀ (ss : List Str) (i : Nat), (numK ss i).length = ss.length
  | [], _ => rfl
  | _ :: r, i => congrArg (· + 1) (numK_length r (i + 1))
theorem numK_none {y : Str} : ∀ {ss : List Str} {i : Nat}, y ∉ ss → valV (numK ss i) (.inr y : Key) = none
  | [], _, _ => rfl
  | s :: r, i, h => by
    have h1 : ¬ s = y := fun e => h (by rw [e]; exact List.mem_cons_self)
    show valV ((.inr s, V.int i) :: numK r (i + 1)) _ = none
    rw [valV_neg (p := ((.inr s : Key), V.int i)) (fun e => h1 (Sum.inr.inj e))]
    exact numK_none fun m => h (List.mem_cons_of_mem _ m)
theorem numK_some {y : Str} : ∀ {ss : List Str} {i : Nat}, y ∈ ss → ∃ j, j < ss.length ∧ ss[j]? = some y ∧ valV (numK ss i) (.inr y : Key) = some (.int (i + j : Nat))
  | [], _, h => by cases h
  | s :: r, i, h => by
    by_cases e : s = y
    · subst e
      exact ⟨0, by simp, rfl, valV_pos (p := ((.inr s : Key), V.int i)) rfl⟩
    · rcases List.mem_cons.mp h with z | z
      · exact absurd z.symm e
      · obtain ⟨j, h1, h2, h3⟩ := numK_some (i := i + 1) z
        refine ⟨j + 1, by simp; omega, by simpa using h2, ?_⟩
        show valV ((.inr s, V.int i) :: numK r (i + 1)) _ = _
        rw [valV_neg (p := ((.inr s : Key), V.int i)) (fun e' => e (Sum.inr.inj e')), h3]
        have : i + 1 + j = i + (j + 1) := by omega
        rw [this]
theorem numK_isSome (y : Str) (ss : List Str) (i : Nat) : (valV (numK ss i) (.inr y : Key)).isSome = decide (y ∈ ss) := by
  by_cases h : y ∈ ss
  · obtain ⟨j, _, _, e⟩ := numK_some (i := i) h
    rw [e, decide_eq_true h]; rfl
  · rw [numK_none h, decide_eq_false h]; rfl
def placeV (ss : List Str) (v : V) : Bool := if nameV v = true then decide (strV v ∈ ss) else false
def spPlace : Sp := fun vs H Q _ => ∃ (p : Addr) (n : Nat) (d : Addr) (ss : List Str) (v : V), vs = [.ref d, v] ∧ H d = some (.dK (numK ss 0)) ∧ Th p H n v ∧ ∀ H', L2.Same H H' → Q (.bl (placeV ss v)) H'
theorem ok_place {f : Addr} {fd : FuncData} (F : Fun K "is_place" "is_place" s_is_place f fd) (D_is_name : DefOk P w K mg base CX0 1 "is_name" ["thing"] spName) : FnOk P w K mg base CX0 2 f fd ["numbers", "thing"] spPlace := by
  refine F.ok sc_is_place (fun vs H Q E h => ?_) fun cdv A outer s H vs Q E hr h => ?_
  · obtain ⟨p, n, d, ss, v, rfl, _⟩ := h; rfl
  · obtain ⟨p, n, d, ss, v, rfl, hd, hv, q⟩ := h
    have hu := u100 hr
    refine ⟨_, (pss_one (ps_ret (pe_and (pe_def D_is_name (hm hr) pass0 (pa_cons (pv 1) pa_nil)) (pe_one (pe_cmpR (k_inU (K := K) rfl hu) (pv 1) (pv 0) (by with_unfolding_all rfl)))))), ?_⟩
    walk_at "vc"
    refine ⟨p, n, v, rfl, hv, fun H1 s1 => ?_⟩
    walk_at "vc"
    have q1 := q H1 s1
    unfold placeV at q1
    refine ite2 (fun hc => ?_) fun hc => ?_
    · walk_at "vc"
      rw [if_pos hc] at q1
      obtain ⟨e, _, _⟩ := nameV_str hc
      generalize strV v = x at q1 e
      subst e
      refine .inr (.inl ⟨d, _, rfl, DGet.k (k := Sum.inr x) (s1 d _ hd), ?_⟩)
      rw [numK_isSome]
      exact q1
    · rw [if_neg hc] at q1
      exact q1
def pairV (ss : List Str) (y z : V) : Bool := placeV ss y && placeV ss z && !decide (strV y = strV z)
def tieV (H : Hp) (ss : List Str) (x : V) : Option (Str × Str) := match x with
  | .ref a => (match H a with
    | some (.tup [y, z]) => if pairV ss y z = true then some (strV y, strV z) else none
    | _ => none)
  | _ => none
theorem tieV_tup {H : Hp} {ss : List Str} {a : Addr} {y z : V} (e : H a = some (.tup [y, z])) : tieV H ss (.ref a) = if pairV ss y z = true then some (strV y, strV z) else none := by
  unfold tieV
  dsimp only
  rw [e]
theorem tieV_not {H : Hp} {ss : List Str} {x : V} (h : ∀ a xs, x = .ref a → H a = some (.tup xs) → xs.length ≠ 2) : tieV H ss x = none := by
  unfold tieV
  cases x with
  | ref a =>
    dsimp only
    split
    · rename_i y z e; exact absurd rfl (h a _ rfl e)
    · rfl
  | _ => rfl
theorem tieV_keep {p : Addr} {n : Nat} {H H' : Hp} {ss : List Str} {x : V} (h : Th p H n x) (k : ∀ b o, b ≠ p → H b = some o → H' b = some o) : tieV H' ss x = tieV H ss x := by
  cases h with
  | flat f l => cases x <;> first | rfl | cases f
  | lst e ne h l => rw [tieV_not (H := H') (fun a xs z y => by (cases z; rw [k _ _ ne e] at y; cases y)), tieV_not (H := H) fun a xs z y => by (cases z; rw [e] at y; cases y)]
  | tup e ne h l => unfold tieV; dsimp only; rw [k _ _ ne e, e]
  | dct e ne => rw [tieV_not (H := H') (fun a xs z y => by (cases z; rw [k _ _ ne e] at y; cases y)), tieV_not (H := H) fun a xs z y => by (cases z; rw [e] at y; cases y)]
theorem tieV_same {p : Addr} {n : Nat} {H H' : Hp} {ss : List Str} {x : V} (h : Th p H n x) (s : L2.Same H H') : tieV H' ss x = tieV H ss x := tieV_keep h fun b o _ e => s b o e
theorem placeV_name {ss : List Str} {v : V} (h : placeV ss v = true) : nameV v = true ∧ strV v ∈ ss := by
  unfold placeV at h
  split at h
  · rename_i z; exact ⟨z, of_decide_eq_true h⟩
  · cases h
def spTwo : Sp := fun vs H Q _ => ∃ (p : Addr) (n : Nat) (d : Addr) (ss : List Str) (v : V), vs = [.ref d, v] ∧ H d = some (.dK (numK ss 0)) ∧ Th p H n v ∧ ∀ H', L2.Same H H' → Q (.bl (tieV H ss v).isSome) H'
theorem ok_two {f : Addr} {fd : FuncData} (F : Fun K "are_two_places" "are_two_places" s_are_two_places f fd) (T : Txt K mg cc cw) (D_is_place : DefOk P w K mg base CX0 2 "is_place" ["numbers", "thing"] spPlace) : FnOk P w K mg base CX0 3 f fd ["numbers", "thing"] spTwo := by
  refine F.ok sc_are_two_places (fun vs H Q E h => ?_) fun cdv A outer s H vs Q E hr h => ?_
  · obtain ⟨p, n, d, ss, v, rfl, _⟩ := h; rfl
  · obtain ⟨p, n, d, ss, v, rfl, hd, hv, q⟩ := h
    have hu := u100 hr
    refine ⟨_, (pss_cons (ps_if (PW.pt (pw_or (pt_not (pt_val (pe_callB (k_isiU (K := K) rfl) rfl T.b_isinstance boot_isinstance (pa_cons (pv 1) (pa_cons (pe_bltn (v := .ty "tuple") rfl T.b_tuple boot_tuple rfl) pa_nil))))) (pw_or1 (pt_cmpR (k_neU (K := K) rfl hu) (pe_callB (k_len (K := K) rfl) rfl T.b_len boot_len (pa_cons (pv 1) pa_nil)) pe_int (nomark _))))) (pss_one (ps_ret pe_bl)) pss_nil)
  (pss_cons (ps_set (i := 2) sc_are_two_places.nd rfl (Or.inl rfl) (pe_and (pe_def D_is_place (hm hr) pass0 (pa_cons (pv 0) (pa_cons (pe_ix (k_ixU (K := K) rfl hu) (pv 1) pe_int (fun _ _ => rfl)) pa_nil))) (pe_one (pe_def D_is_place (hm hr) pass0 (pa_cons (pv 0) (pa_cons (pe_ix (k_ixU (K := K) rfl hu) (pv 1) pe_int (fun _ _ => rfl)) pa_nil))))))
  (pss_one (ps_ret (pe_and (pv 2) (pe_one (pe_cmpR (k_neU (K := K) rfl hu) (pe_ix (k_ixU (K := K) rfl hu) (pv 1) pe_int (fun _ _ => rfl)) (pe_ix (k_ixU (K := K) rfl hu) (pv 1) pe_int (fun _ _ => rfl)) (nomark _)))))))), ?_⟩
    obtain ⟨t, ht, ty, _, _, h1, h2, _⟩ := hv.ty (K := K)
    walk_at "vc"
    refine vIsiU (.inl ty) rfl (kit_tab K t ht "tuple" (by simp)) ?_
    walk_at "vc"
    refine ite2 (fun h => ?_) fun h => ?_
    · walk_at "vc"
      have z := q H (L2.Same.refl H)
      rw [tieV_not (fun a xs e y => absurd y (h2 (by simpa using h) a xs e))] at z
      exact z
    · obtain ⟨a, xs, rfl, ea, _, hx⟩ := h1 (by simpa using h)
      walk_at "vc"
      refine vLenT ea ?_
      walk_at "vc"
      refine .inl ⟨rfl, rfl, ?_⟩
      walk_at "vc"
      refine ite2 (fun h => ?_) fun h => ?_
      · walk_at "vc"
        have z := q H (L2.Same.refl H)
        rw [tieV_not (fun a' xs' e y => by
          cases e
          rw [ea] at y
          cases y
          intro e2
          rw [e2] at h
          simp [eqV] at h)] at z
        exact z
      · have hl : xs.length = 2 := by
          simp only [if_true, eqV, Bool.not_eq_true', Bool.not_eq_false'] at h
          have h' : ((xs.length : Int) == 2) = true := by simpa using h
          have := eq_of_beq h'
          omega
        match xs, hl, ea, hx with
        | [y, z], _, ea, hx =>
          have hy := hx y (by simp)
          have hz := hx z (by simp)
          rw [tieV_tup ea] at q
          walk_at "vc"
          refine .inl (vIxT ea rfl ?_)
          walk_at "vc"
          refine ⟨p, n, d, ss, y, rfl, hd, hy, fun H1 s1 => ?_⟩
          walk_at "vc"
          have fin : ∀ H2, L2.Same H H2 → ¬ (placeV ss y = true ∧ placeV ss z = true) → Q (.bl false) H2 := fun H2 s2 hn => by
            have := q H2 s2
            rw [if_neg (fun e => hn (by unfold pairV at e; simp only [Bool.and_eq_true] at e; exact ⟨e.1.1, e.1.2⟩))] at this
            exact this
          refine ite2 (fun h3 => ?_) fun h3 => ?_
          · walk_at "vc"
            refine .inl (vIxT (s1 _ _ ea) rfl ?_)
            walk_at "vc"
            refine ⟨p, n, d, ss, z, rfl, s1 _ _ hd, hz.same s1, fun H2 s2 => ?_⟩
            walk_at "vc"
            refine ite2 (fun h4 => ?_) fun h4 => ?_
            · walk_at "vc"
              refine .inl (vIxT (s2 _ _ (s1 _ _ ea)) rfl ?_)
              walk_at "vc"
              refine .inl (vIxT (s2 _ _ (s1 _ _ ea)) rfl ?_)
              obtain ⟨ny, _⟩ := placeV_name h3
              obtain ⟨nz, _⟩ := placeV_name h4
              obtain ⟨ey, _, _⟩ := nameV_str ny
              obtain ⟨ez, _, _⟩ := nameV_str nz
              have fq := q H2 (s1.trans s2)
              unfold pairV at fq
              rw [h3, h4] at fq
              generalize strV y = sy at ey fq
              generalize strV z = sz at ez fq
              subst ey ez
              refine .inl ⟨rfl, rfl, ?_⟩
              have e : (if true = true then !eqV (V.str sy) (V.str sz) else eqV (V.str sy) (V.str sz)) = (if (true && true && !decide (sy = sz)) = true then some (sy, sz) else none).isSome := by
                by_cases hs : sy = sz
                · subst hs; simp [eqV]
                · simp [eqV, hs]
              rw [e]
              exact fq
            · exact fin H2 (s1.trans s2) fun e => h4 e.2
          · walk_at "vc"
            refine ite2 (fun h => by cases h) fun _ => ?_
            exact fin H1 s1 fun e => h3 e.1
end
/- numbers_of: calls ['is_name']; cells [] -/
abbrev s_numbers_of : Stmt := top 19
theorem sc_numbers_of : FnScope ["names", "numbers", "name"] ["names"] (defScope s_numbers_of) := ⟨rfl, rfl, rfl, by decide +kernel, rfl, by decide +kernel, by decide +kernel⟩
theorem bit_has (m j : Nat) : decide (Builtin.bitAnd ((m : Int) / 2 ^ (j : Int).toNat) 1 = 1) = m.testBit j := by
  rw [PyProof.Rows.bitAnd_m1, Nat.testBit_eq_decide_div_mod_eq]
  rw [Int.toNat_natCast]
  have e : (m : Int) / 2 ^ j = ((m / 2 ^ j : Nat) : Int) := by rw [Int.natCast_ediv, Int.natCast_pow]; rfl
  rw [e]
  congr 1
  apply propext
  omega
theorem bit_or (m j : Nat) : Builtin.bitOr (m : Int) (1 * 2 ^ (j : Int).toNat) = ((m ||| 2 ^ j : Nat) : Int) := by
  have e : (1 * 2 ^ (j : Int).toNat : Int) = ((2 ^ j : Nat) : Int) := by rw [Int.toNat_natCast, Int.one_mul, Int.natCast_pow]; rfl
  rw [e]
  generalize 2 ^ j = k
  have n1 : Builtin.bitNot (m : Int) = -(m : Int) - 1 := rfl
  have n2 : Builtin.bitNot (k : Int) = -(k : Int) - 1 := rfl
  unfold Builtin.bitOr Builtin.bitAnd
  rw [n1, n2, decide_eq_false (by omega), decide_eq_false (by omega)]
  dsimp only
  unfold Builtin.bitNot
  have e1 : (-(-(m : Int) - 1) - 1).toNat = m := by omega
  have e2 : (-(-(k : Int) - 1) - 1).toNat = k := by omega
  rw [e1, e2]
  omega
def But (x : Addr) (H H' : Hp) : Prop := ∀ b o, b ≠ x → H b = some o → H' b = some o
theorem But.refl (x : Addr) (H : Hp) : But x H H := fun _ _ _ e => e
theorem But.same {x : Addr} {H H1 H2 : Hp} (a : But x H H1) (b : L2.Same H1 H2) : But x H H2 := fun c o n e => b c o (a c o n e)
theorem But.put {x : Addr} {H H1 : Hp} {o : HO} (a : But x H H1) : But x H (upd H1 x o) := fun c u n e => by rw [upd_ne n]; exact a c u n e
theorem But.new {x l : Addr} {H H1 : Hp} {o : HO} (a : But x H H1) (hl : H1 l = none) : But x H (upd H1 l o) := a.same (Snew (L2.Same.refl H1) hl)
theorem raise_done {K : W.Frag} {H1 : Hp} {C : Addr} {fl : Str} {y : V} {E : XK} (c : XAt K C) (q : ∀ dx H', L2.Same H1 H' → H' dx = some (.xd [(fl, y)]) → E (.ref C) (some dx) H') :
    [y].length ≤ 1000 ∧ ∀ x, H1 x = none → spX C fl (.ref x :: [y]) (upd H1 x (XN x C none)) (fun v H2 => v = .non ∧ ∃ a C' dx, (V.ref x) = .ref a ∧ H2 a = some (XN a C' dx) ∧ XAt K C' ∧ E (.ref C') dx (upd H2 a (XO a C' dx))) E0 := by
  refine ⟨by show 1 ≤ 1000; decide, fun x hx => ⟨x, y, rfl, upd_same, fun dx hdx => ⟨rfl, x, C, some dx, rfl, upd_same, c, q dx _ (fun b o e => ?_) ?_⟩⟩⟩
  · have nx : b ≠ x := fun z => by rw [z, hx] at e; cases e
    have nd : b ≠ dx := fun z => by rw [← z, upd_ne nx, e] at hdx; cases hdx
    rw [upd_ne nx, upd_ne nx, upd_ne nd, upd_ne nx]
    exact e
  · have nd : dx ≠ x := fun z => by rw [z, upd_same] at hdx; cases hdx
    rw [upd_ne nd, upd_ne nd, upd_same]
def ForR (g : TG) (t : TS) (D : Ends) (σ : L2.St) (J : It) (H1 : Hp) : Prop := ∃ W : Nat → Nat → L2.St → Hp → Prop, (∃ m, W 0 m σ H1) ∧ ∀ i m σ H, W i m σ H →
  (J.stop i H ∧ D.nx σ H) ∨ (J.go i H ∧ ∃ N : L2.St → Hp → Prop, (∀ σ' H', N σ' H' → ∃ m', m' < m ∧ W (i + 1) m' σ' H') ∧ ∀ x H', J.yld i H x H' → g x σ H' fun σ2 H2 => t { D with nx := N, ct := N, bk := D.nx } σ2 H2)
theorem for_arg {K : W.Frag} {p : Addr} {H H1 : Hp} {v : V} {xs : List V} {g : TG} {tb : TS} {D : Ends} {σ : L2.St} (h : Arg p H v (some xs)) (s1 : L2.Same H H1) (Pv : Nat → L2.St → Hp → Prop) (h0 : Pv 0 σ H1) (hl : ∀ i σ H', Pv i σ H' → L2.Same H H')
    (hs : ∀ i x σ H, xs[i]? = some x → Pv i σ H → g x σ H fun σ2 H2 => tb { D with nx := Pv (i + 1), ct := Pv (i + 1), bk := D.nx } σ2 H2) (hd : ∀ σ H, Pv xs.length σ H → D.nx σ H) :
    (match v with
      | .str x => ForR g tb D σ (Its x) H1
      | .ref a => ((∃ xs, SqL K H1 a xs) ∧ ForR g tb D σ (Itl K a) H1) ∨ ((∃ xs, SqT K H1 a xs) ∧ ForR g tb D σ (Itt K a) H1)
      | _ => False) := by
  cases h with
  | lst e ne h l => exact .inl ⟨⟨_, SqL.of (s1 _ _ e)⟩, for_list (K := K) Pv h0 (fun i σ H' _ hp => SqL.of (hl i σ H' hp _ _ e)) hs hd⟩
  | tup e ne h l => exact .inr ⟨⟨_, SqT.of (s1 _ _ e)⟩, for_tup (K := K) Pv h0 (fun i σ H' _ hp => SqT.of (hl i σ H' hp _ _ e)) hs hd⟩
theorem Arg.ty {K : W.Frag} {p : Addr} {H : Hp} {v : V} {o : Option (List V)} (h : Arg p H v o) : ∃ t, TyX K H v t ∧ W.kitAny K t [.type "list", .type "tuple"] = some o.isSome := by
  cases h with
  | lst e ne h l => exact ⟨_, .inl (.lst e), rfl⟩
  | tup e ne h l => exact ⟨_, .inl (.tup e), rfl⟩
  | flat f l =>
    cases v with
    | non => exact ⟨_, .inl .non, rfl⟩
    | bl x => exact ⟨_, .inl (.bl x), rfl⟩
    | int x => exact ⟨_, .inl (.int x), rfl⟩
    | str x => exact ⟨_, .inl (.str x), rfl⟩
    | _ => cases f
  | dct e ne => exact ⟨_, .inl (.dK e), rfl⟩
theorem Arg.len {K : W.Frag} {p : Addr} {H : Hp} {v : V} {xs : List V} {Q : VK} (h : Arg p H v (some xs)) (q : Q (.int xs.length) H) : rLenU K [v] H Q := by
  cases h with
  | lst e ne h l => exact vLenL e q
  | tup e ne h l => exact vLenT e q
theorem Arg.few {p : Addr} {H : Hp} {v : V} {xs : List V} (h : Arg p H v (some xs)) : xs.length ≤ 1000 ∧ ∀ x ∈ xs, Th p H 2 x := by
  cases h with
  | lst e ne h l => exact ⟨l, h⟩
  | tup e ne h l => exact ⟨l, h⟩
theorem Arg.isi {K : W.Frag} {p q : Addr} {H : Hp} {v : V} {o : Option (List V)} {Q : VK} (h : Arg p H v o) (hq : H q = some (.tup [.ty "list", .ty "tuple"])) (k : Q (.bl o.isSome) H) : rIsiTU K [v, .ref q] H Q := by
  obtain ⟨t, ty, e⟩ := h.ty (K := K)
  exact ⟨v, q, _, t, _, _, rfl, ty, hq, rfl, e, k⟩
def dueN : List V → List Str → Option (Nat × V)
  | [], _ => none
  | x :: r, ss => if nameV x = true then (if strV x ∈ ss then some (1, x) else dueN r (ss ++ [strV x])) else some (0, x)
theorem dueN_cons (x : V) (r : List V) (ss : List Str) : dueN (x :: r) ss = if nameV x = true then (if strV x ∈ ss then some (1, x) else dueN r (ss ++ [strV x])) else some (0, x) := rfl
theorem dueN_none : ∀ {xs : List V} {ss : List Str}, dueN xs ss = none → xs = (xs.map strV).map V.str ∧ (∀ x ∈ xs, nameV x = true) ∧ (∀ s ∈ xs.map strV, s ∉ ss) ∧ (xs.map strV).Nodup
  | [], ss, _ => ⟨rfl, by simp, by simp, by simp⟩
  | x :: r, ss, h => by
    unfold dueN at h
    split at h
    · rename_i hn
      split at h
      · cases h
      · rename_i hm
        obtain ⟨i1, i2, i3, i4⟩ := dueN_none h
        obtain ⟨e, _, _⟩ := nameV_str hn
        refine ⟨?_, ?_, ?_, ?_⟩
        · rw [List.map_cons, List.map_cons, ← e, ← i1]
        · intro y hy
          rcases List.mem_cons.mp hy with rfl | hy
          · exact hn
          · exact i2 y hy
        · intro s hs
          rcases List.mem_cons.mp hs with rfl | hs
          · exact hm
          · exact fun z => i3 s hs (List.mem_append_left _ z)
        · rw [List.map_cons, List.nodup_cons]
          exact ⟨fun z => i3 _ z (List.mem_append_right _ (by simp)), i4⟩
    · cases h
def outN (v : V) : Option (List V) → Option (Nat × V)
  | none => some (0, v)
  | some xs => if 14 < xs.length then some (4, .int xs.length) else dueN xs []
def Rz (cc : Nat → Addr) (H : Hp) (E : XK) (r : Nat × V) : Prop := ∀ dx H', L2.Same H H' → H' dx = some (.xd [(fldn r.1, r.2)]) → E (.ref (cc r.1)) (some dx) H'
theorem Rz.later {cc : Nat → Addr} {H H1 : Hp} {E : XK} {r : Nat × V} (h : Rz cc H E r) (s : L2.Same H H1) : Rz cc H1 E r := fun dx H' t e => h dx H' (s.trans t) e
def spNums (cc : Nat → Addr) : Sp := fun vs H Q E => ∃ (p : Addr) (v : V) (o : Option (List V)), vs = [v] ∧ Arg p H v o ∧ (∀ r, outN v o = some r → Rz cc H E r) ∧ (outN v o = none → ∀ d H', L2.Same H H' → H d = none → H' d = some (.dK (numK ((o.getD []).map strV) 0)) → Q (.ref d) H')
section
variable {P : Program} {w : World} {K : W.Frag} {mg : Str → Option Value} {base : Heap} {cc : Nat → Addr} {cw : Addr}
theorem ok_nums {f : Addr} {fd : FuncData} (F : Fun K "numbers_of" "numbers_of" s_numbers_of f fd) (T : Txt K mg cc cw) (D_is_name : DefOk P w K mg base CX0 1 "is_name" ["thing"] spName)
    (D_NoName : XMakeOk P w K mg base 2 (cc 0) "NoName" ["self", "found"] (spX (cc 0) (fldn 0))) (D_Twice : XMakeOk P w K mg base 2 (cc 1) "Twice" ["self", "name"] (spX (cc 1) (fldn 1))) (D_TooMany : XMakeOk P w K mg base 2 (cc 4) "TooMany" ["self", "many"] (spX (cc 4) (fldn 4))) :
    FnOk P w K mg base (CX1 P w) 4 f fd ["names"] (spNums cc) := by
  refine F.ok1 sc_numbers_of (fun vs H Q E h => ?_) fun cdv A outer s H vs Q E hr h => ?_
  · obtain ⟨p, v, o, rfl, _⟩ := h; rfl
  · obtain ⟨p, v, o, rfl, ha, hz, q⟩ := h
    have hu := u100 hr
    refine ⟨_, (pss_cons (ps_if (pt_not (pt_val (pe_callB (k_isiTU (K := K) rfl) rfl T.b_isinstance boot_isinstance (pa_cons (pv 0) (pa_cons (pe_tup (pa_cons (pe_bltn (v := .ty "list") rfl T.b_list boot_list rfl) (pa_cons (pe_bltn (v := .ty "tuple") rfl T.b_tuple boot_tuple rfl) pa_nil))) pa_nil))))) (pss_one (k_raise (K := K) rfl xok_fn (pe_xm D_NoName (hm hr) (pa_cons (pv 0) pa_nil)))) pss_nil)
  (pss_cons (ps_if (pt_cmpR op_gt (pe_callB (k_len (K := K) rfl) rfl T.b_len boot_len (pa_cons (pv 0) pa_nil)) (pe_globI rfl T.g_MOST_PLACES) (nomark _)) (pss_one (k_raise (K := K) rfl xok_fn (pe_xm D_TooMany (hm hr) (pa_cons (pe_callB (k_len (K := K) rfl) rfl T.b_len boot_len (pa_cons (pv 0) pa_nil)) pa_nil)))) pss_nil)
  (pss_cons (ps_set (i := 1) sc_numbers_of.nd rfl (Or.inl rfl) pe_dnewK)
  (pss_cons (ps_for PassesOwn.leaving rfl (ki_any (K := K) rfl (pv 0)) (pg_name (i := 2) sc_numbers_of.nd rfl (Or.inl rfl))
  (pss_cons (ps_if (pt_not (pt_val (pe_def D_is_name (hm hr) pass0 (pa_cons (pv 2) pa_nil)))) (pss_one (k_raise (K := K) rfl xok_fn (pe_xm D_NoName (hm hr) (pa_cons (pv 2) pa_nil)))) pss_nil)
  (pss_cons (ps_if (pt_cmpR (k_inU (K := K) rfl hu) (pv 2) (pv 1) (by with_unfolding_all rfl)) (pss_one (k_raise (K := K) rfl xok_fn (pe_xm D_Twice (hm hr) (pa_cons (pv 2) pa_nil)))) pss_nil)
  (pss_one (ps_asg (pe_callB (k_len (K := K) rfl) rfl T.b_len boot_len (pa_cons (pv 1) pa_nil)) (pg_sub (pv 1) (pv 2) (k_setU hu)))))))
  (pss_one (ps_ret (pv 1))))))), ?_⟩
    walk_at "vc"
    refine ⟨by show 2 ≤ sizeLine; decide, fun g hg => ?_⟩
    have s0 := Snew (L2.Same.refl H) (o := .tup [.ty "list", .ty "tuple"]) hg
    walk_at "vc"
    refine (ha.same s0).isi upd_same ?_
    walk_at "vc"
    cases o with
    | none =>
      refine ite2 (fun _ => ?_) (fun h => absurd rfl h)
      walk_at "vc"
      exact raise_done (T.xat 0 (by decide)) ((hz (0, v) rfl).later s0)
    | some xs =>
      refine ite2 (fun h => by cases h) fun _ => ?_
      obtain ⟨few, hth⟩ := ha.few
      walk_at "vc"
      refine (ha.same s0).len ?_
      walk_at "vc"
      refine ite2 (fun h => ?_) fun h => ?_
      · walk_at "vc"
        refine (ha.same s0).len ?_
        walk_at "vc"
        have h' : 14 < xs.length := by have := of_decide_eq_true h; omega
        exact raise_done (T.xat 4 (by decide)) ((hz (4, .int xs.length) (by show (if 14 < xs.length then _ else _) = _; rw [if_pos h'])).later s0)
      · have h' : ¬ 14 < xs.length := fun z => h (decide_eq_true (by omega))
        have ho : outN v (some xs) = dueN xs [] := by show (if 14 < xs.length then _ else _) = _; rw [if_neg h']
        rw [ho] at hz q
        walk_at "vc"
        intro d hd
        have s1 := Snew s0 (o := .dK []) hd
        have hd0 : H d = none := s0.free hd
        walk_at "vc"
        refine for_arg ha s1 (fun i σ H' => ∃ v2, σ = [some v, some (.ref d), v2] ∧ L2.Same H H' ∧ H' d = some (.dK (numK ((xs.take i).map strV) 0)) ∧ dueN xs [] = dueN (xs.drop i) ((xs.take i).map strV)) ⟨none, rfl, s1, upd_same, rfl⟩ (fun i σ H' hp => by obtain ⟨_, _, z, _⟩ := hp; exact z) (fun i x σ H' hx hp => ?_) fun σ H' hp => ?_
        · obtain ⟨v2, rfl, s2, hk, hdue⟩ := hp
          have hil : i < xs.length := (List.getElem?_eq_some_iff.mp hx).1
          have hdr : xs.drop i = x :: xs.drop (i + 1) := by
            rw [List.drop_eq_getElem_cons hil]
            have := (List.getElem?_eq_some_iff.mp hx).2
            rw [this]
          have htk : xs.take (i + 1) = xs.take i ++ [x] := by rw [List.take_add_one, hx]; rfl
          rw [hdr, dueN_cons] at hdue
          walk_at "vc"
          refine ⟨p, 2, x, rfl, (hth x (List.mem_of_getElem? hx)).same s2, fun H1 t1 => ?_⟩
          have s3 := s2.trans t1
          walk_at "vc"
          refine ite2 (fun hn => ?_) fun hn => ?_
          · walk_at "vc"
            have hn' : ¬ nameV x = true := by simpa using hn
            rw [if_neg hn'] at hdue
            exact raise_done (T.xat 0 (by decide)) ((hz (0, x) hdue).later s3)
          · have hn' : nameV x = true := by simpa using hn
            rw [if_pos hn'] at hdue
            obtain ⟨ex, _, hx6⟩ := nameV_str hn'
            have key : ∀ y, y = strV x → x = .str y := fun y hy => by rw [hy]; exact ex
            generalize hy : strV x = y at hdue hx6 ex
            subst ex
            walk_at "vc"
            refine .inr (.inl ⟨d, _, rfl, DGet.k (k := Sum.inr y) (t1 _ _ hk), ?_⟩)
            rw [numK_isSome]
            walk_at "vc"
            refine ite2 (fun hm => ?_) fun hm => ?_
            · walk_at "vc"
              have hm' : y ∈ (xs.take i).map strV := of_decide_eq_true hm
              rw [if_pos hm'] at hdue
              exact raise_done (T.xat 1 (by decide)) ((hz (1, .str y) hdue).later s3)
            · have hm' : y ∉ (xs.take i).map strV := fun z => hm (decide_eq_true z)
              rw [if_neg hm'] at hdue
              walk_at "vc"
              refine .inr ⟨_, t1 _ _ hk, ?_⟩
              walk_at "vc"
              refine .inr ⟨d, _, rfl, DPut.k (k := Sum.inr y) (t1 _ _ hk) (small1000 (by rw [numK_length, List.length_map, List.length_take]; omega)), ?_⟩
              refine ⟨_, rfl, Supd s3 hd0, ?_, ?_⟩
              · rw [upd_same, putK_new _ (numK_none hm'), htk, List.map_append, List.map_cons, List.map_nil, numK_snoc, numK_length]
                simp only [Nat.zero_add]
                rfl
              · rw [hdue, htk, List.map_append]
                rfl
        · obtain ⟨v2, rfl, s2, hk, hdue⟩ := hp
          rw [List.drop_length] at hdue
          walk_at "vc"
          rw [List.take_length] at hk
          exact q hdue d H' s2 hd0 hk
end
/- Web.__init__: calls ['numbers_of', 'near_of'] -/
abbrev s_Web_init : Stmt := inClass (top 15) 0
theorem sc_Web_init : FnScope ["self", "names", "ties"] ["self", "names", "ties"] (defScope s_Web_init) := ⟨rfl, rfl, rfl, by decide +kernel, rfl, by decide +kernel, by decide +kernel⟩
/- near_of: calls ['are_two_places', 'has_bit']; cells [] -/
abbrev s_near_of : Stmt := top 20
theorem sc_near_of : FnScope ["numbers", "ties", "near", "tie", "one", "other"] ["numbers", "ties"] (defScope s_near_of) := ⟨rfl, rfl, rfl, by decide +kernel, rfl, by decide +kernel, by decide +kernel⟩
def goT (H : Hp) (ss : List Str) : List V → List (Str × Str) → Option V
  | [], _ => none
  | x :: r, seen => match tieV H ss x with
    | none => some x
    | some t => if t ∈ seen ∨ (t.2, t.1) ∈ seen then some x else goT H ss r (seen ++ [t])
theorem goT_no {H : Hp} {ss : List Str} {x : V} {r : List V} {seen : List (Str × Str)} (h : tieV H ss x = none) : goT H ss (x :: r) seen = some x := by
  show (match tieV H ss x with | none => _ | some t => _) = _
  rw [h]
theorem goT_on {H : Hp} {ss : List Str} {x : V} {r : List V} {seen : List (Str × Str)} {t : Str × Str} (h : tieV H ss x = some t) : goT H ss (x :: r) seen = if t ∈ seen ∨ (t.2, t.1) ∈ seen then some x else goT H ss r (seen ++ [t]) := by
  show (match tieV H ss x with | none => _ | some t => _) = _
  rw [h]
def outT (H : Hp) (ss : List Str) (v : V) : Option (List V) → Option (Nat × V)
  | none => some (3, v)
  | some xs => if 30 < xs.length then some (4, .int xs.length) else (goT H ss xs []).map fun y => (3, y)
theorem tieV_some {H : Hp} {ss : List Str} {x : V} {t : Str × Str} (h : tieV H ss x = some t) : ∃ a, x = .ref a ∧ H a = some (.tup [.str t.1, .str t.2]) ∧ nameS t.1 = true ∧ nameS t.2 = true ∧ t.1.length ≤ 6 ∧ t.2.length ≤ 6 ∧ t.1 ∈ ss ∧ t.2 ∈ ss ∧ t.1 ≠ t.2 := by
  unfold tieV at h
  split at h
  · rename_i a
    split at h
    · rename_i y z e
      split at h
      · rename_i hp
        cases h
        unfold pairV at hp
        simp only [Bool.and_eq_true] at hp
        obtain ⟨⟨h1, h2⟩, h3⟩ := hp
        obtain ⟨n1, m1⟩ := placeV_name h1
        obtain ⟨n2, m2⟩ := placeV_name h2
        obtain ⟨e1, g1, l1⟩ := nameV_str n1
        obtain ⟨e2, g2, l2⟩ := nameV_str n2
        refine ⟨a, rfl, ?_, g1, g2, l1, l2, m1, m2, ?_⟩
        · show H a = some (.tup [.str (strV y), .str (strV z)])
          rw [← e1, ← e2]
          exact e
        · simpa using h3
      · cases h
    · cases h
  · cases h
def BitsOk (ss : List Str) (ns : List Nat) (seen : List (Str × Str)) : Prop := ns.length = ss.length ∧ (∀ a, ns.getD a 0 < 2 ^ ss.length) ∧ ∀ a b s t, ss[a]? = some s → ss[b]? = some t → (ns.getD a 0).testBit b = decide ((s, t) ∈ seen ∨ (t, s) ∈ seen)
theorem nodup_inj {ss : List Str} (h : ss.Nodup) {a b : Nat} {s : Str} (ha : ss[a]? = some s) (hb : ss[b]? = some s) : a = b := by
  have hp := List.pairwise_iff_getElem.mp h
  obtain ⟨la, ea⟩ := List.getElem?_eq_some_iff.mp ha
  obtain ⟨lb, eb⟩ := List.getElem?_eq_some_iff.mp hb
  rcases Nat.lt_trichotomy a b with q | q | q
  · exact absurd (ea.trans eb.symm) (hp a b la lb q)
  · exact q
  · exact absurd (eb.trans ea.symm) (hp b a lb la q)
theorem bits_zero {ss : List Str} : BitsOk ss (List.replicate ss.length 0) [] := by
  have z : ∀ a, (List.replicate ss.length 0).getD a 0 = 0 := fun a => by
    simp only [List.getD, List.getElem?_replicate]
    split <;> rfl
  refine ⟨by simp, fun a => by rw [z a]; exact Nat.two_pow_pos _, fun a b s t ha hb => ?_⟩
  rw [z a]
  simp
theorem getD_set {ns : List Nat} {i j v : Nat} (h : i < ns.length) : (ns.set i v).getD j 0 = if i = j then v else ns.getD j 0 := by
  simp only [List.getD, List.getElem?_set]
  by_cases e : i = j
  · subst e; simp [h]
  · simp [e]
theorem bits_step {ss : List Str} {ns : List Nat} {seen : List (Str × Str)} (hb : BitsOk ss ns seen) (hn : ss.Nodup) {i j : Nat} {s t : Str} (hi : ss[i]? = some s) (hj : ss[j]? = some t) (hst : s ≠ t) :
    BitsOk ss ((ns.set i (ns.getD i 0 ||| 2 ^ j)).set j (ns.getD j 0 ||| 2 ^ i)) (seen ++ [(s, t)]) := by
  obtain ⟨hl, hlt, h⟩ := hb
  have li : i < ns.length := by rw [hl]; exact (List.getElem?_eq_some_iff.mp hi).1
  have lj : j < ns.length := by rw [hl]; exact (List.getElem?_eq_some_iff.mp hj).1
  have nij : i ≠ j := fun e => by rw [e, hj] at hi; cases hi; exact hst rfl
  have li' : i < ss.length := (List.getElem?_eq_some_iff.mp hi).1
  have lj' : j < ss.length := (List.getElem?_eq_some_iff.mp hj).1
  refine ⟨by simp [hl], fun a => ?_, fun a b u v ha hb' => ?_⟩
  · rw [getD_set (by simpa using lj), getD_set li]
    split
    · exact Nat.or_lt_two_pow (hlt _) (Nat.pow_lt_pow_right (by decide) li')
    · split
      · exact Nat.or_lt_two_pow (hlt _) (Nat.pow_lt_pow_right (by decide) lj')
      · exact hlt _
  rw [getD_set (by simpa using lj), getD_set li]
  have h0 := h a b u v ha hb'
  have key : ∀ P Q : Prop, (P ↔ Q) → ∀ [Decidable P] [Decidable Q], decide P = decide Q := fun P Q e => by intro _ _; exact decide_eq_decide.mpr e
  by_cases ja : j = a
  · subst ja
    rw [hj] at ha
    cases ha
    rw [if_pos rfl, Nat.testBit_or, h0, Nat.testBit_two_pow]
    by_cases ib : i = b
    · subst ib
      rw [hi] at hb'
      cases hb'
      simp
    · have vs : v ≠ s := fun e => by subst e; exact ib (nodup_inj hn hi hb')
      simp only [ib, decide_false, Bool.or_false]
      apply decide_eq_decide.mpr
      simp only [List.mem_append, List.mem_singleton, Prod.mk.injEq]
      constructor
      · rintro (z | z)
        · exact .inl (.inl z)
        · exact .inr (.inl z)
      · rintro ((z | ⟨z, _⟩) | (z | ⟨z, _⟩))
        · exact .inl z
        · exact absurd z.symm hst
        · exact .inr z
        · exact absurd z vs
  · rw [if_neg ja]
    by_cases ia : i = a
    · subst ia
      rw [hi] at ha
      cases ha
      rw [if_pos rfl, Nat.testBit_or, h0, Nat.testBit_two_pow]
      by_cases jb : j = b
      · subst jb
        rw [hj] at hb'
        cases hb'
        simp
      · have vt : v ≠ t := fun e => by subst e; exact jb (nodup_inj hn hj hb')
        simp only [jb, decide_false, Bool.or_false]
        apply decide_eq_decide.mpr
        simp only [List.mem_append, List.mem_singleton, Prod.mk.injEq]
        constructor
        · rintro (z | z)
          · exact .inl (.inl z)
          · exact .inr (.inl z)
        · rintro ((z | ⟨_, z⟩) | (z | ⟨_, z⟩))
          · exact .inl z
          · exact absurd z vt
          · exact .inr z
          · exact absurd z hst
    · rw [if_neg ia, h0]
      have us : u ≠ s := fun e => by subst e; exact ia (nodup_inj hn hi ha)
      have ut : u ≠ t := fun e => by subst e; exact ja (nodup_inj hn hj ha)
      apply decide_eq_decide.mpr
      simp only [List.mem_append, List.mem_singleton, Prod.mk.injEq]
      constructor
      · rintro (z | z)
        · exact .inl (.inl z)
        · exact .inr (.inl z)
      · rintro ((z | ⟨z, _⟩) | (z | ⟨_, z⟩))
        · exact .inl z
        · exact absurd z us
        · exact .inr z
        · exact absurd z ut
def natV (ns : List Nat) : List V := ns.map fun (n : Nat) => .int (n : Int)
theorem natV_get {ns : List Nat} {i : Nat} (h : i < ns.length) : (natV ns)[i]? = some (.int (ns.getD i 0 : Nat)) := by
  unfold natV
  rw [List.getElem?_map, List.getElem?_eq_getElem h]
  simp [List.getD, h]
theorem natV_set (ns : List Nat) (i m : Nat) : (natV ns).set i (.int m) = natV (ns.set i m) := by
  unfold natV
  rw [List.map_set]
theorem natV_zero (k : Nat) : (List.replicate k [V.int 0]).flatten = natV (List.replicate k 0) := by
  induction k with
  | zero => rfl
  | succ k ih => rw [List.replicate_succ, List.flatten_cons, ih]; rfl
theorem ixN_nat {n j : Nat} (h : j < n) : ixN n (j : Int) = some j := by
  unfold ixN
  rw [if_pos (by omega), if_pos (by omega)]
  rfl
def spNear (cc : Nat → Addr) : Sp := fun vs H Q E => ∃ (p d : Addr) (ss : List Str) (v : V) (o : Option (List V)), vs = [.ref d, v] ∧ H d = some (.dK (numK ss 0)) ∧ ss.length ≤ 14 ∧ ss.Nodup ∧ Arg p H v o ∧ (∀ r, outT H ss v o = some r → Rz cc H E r) ∧
  (outT H ss v o = none → ∀ n ns H', L2.Same H H' → H n = none → H' n = some (.lst (natV ns)) → BitsOk ss ns ((o.getD []).filterMap (tieV H ss)) → Q (.ref n) H')
section
variable {P : Program} {w : World} {K : W.Frag} {mg : Str → Option Value} {base : Heap} {cc : Nat → Addr} {cw : Addr}
theorem ok_near {f : Addr} {fd : FuncData} (F : Fun K "near_of" "near_of" s_near_of f fd) (T : Txt K mg cc cw) (D_are_two_places : DefOk P w K mg base CX0 3 "are_two_places" ["numbers", "thing"] spTwo) (D_has_bit : DefOk P w K mg base CX0 1 "has_bit" ["bits", "number"] spBit)
    (D_NoTie : XMakeOk P w K mg base 2 (cc 3) "NoTie" ["self", "found"] (spX (cc 3) (fldn 3))) (D_TooMany : XMakeOk P w K mg base 2 (cc 4) "TooMany" ["self", "many"] (spX (cc 4) (fldn 4))) :
    FnOk P w K mg base (CX1 P w) 4 f fd ["numbers", "ties"] (spNear cc) := by
  refine F.ok1 sc_near_of (fun vs H Q E h => ?_) fun cdv A outer s H vs Q E hr h => ?_
  · obtain ⟨p, d, ss, v, o, rfl, _⟩ := h; rfl
  · obtain ⟨p, d, ss, v, o, rfl, hd, hs14, hnd, ha, hz, q⟩ := h
    have hu := u100 hr
    refine ⟨_, (pss_cons (ps_if (pt_not (pt_val (pe_callB (k_isiTU (K := K) rfl) rfl T.b_isinstance boot_isinstance (pa_cons (pv 1) (pa_cons (pe_tup (pa_cons (pe_bltn (v := .ty "list") rfl T.b_list boot_list rfl) (pa_cons (pe_bltn (v := .ty "tuple") rfl T.b_tuple boot_tuple rfl) pa_nil))) pa_nil))))) (pss_one (k_raise (K := K) rfl xok_fn (pe_xm D_NoTie (hm hr) (pa_cons (pv 1) pa_nil)))) pss_nil)
  (pss_cons (ps_if (pt_cmpR op_gt (pe_callB (k_len (K := K) rfl) rfl T.b_len boot_len (pa_cons (pv 1) pa_nil)) (pe_globI rfl T.g_MOST_TIES) (nomark _)) (pss_one (k_raise (K := K) rfl xok_fn (pe_xm D_TooMany (hm hr) (pa_cons (pe_callB (k_len (K := K) rfl) rfl T.b_len boot_len (pa_cons (pv 1) pa_nil)) pa_nil)))) pss_nil)
  (pss_cons (ps_set (i := 2) sc_near_of.nd rfl (Or.inl rfl) (pe_op u_mul (pe_lst (pa_cons pe_int pa_nil)) (pe_callB (k_len (K := K) rfl) rfl T.b_len boot_len (pa_cons (pv 0) pa_nil))))
  (pss_cons (ps_for PassesOwn.leaving rfl (ki_any (K := K) rfl (pv 1)) (pg_name (i := 3) sc_near_of.nd rfl (Or.inl rfl))
  (pss_cons (ps_if (pt_not (pt_val (pe_def D_are_two_places (hm hr) pass0 (pa_cons (pv 0) (pa_cons (pv 3) pa_nil))))) (pss_one (k_raise (K := K) rfl xok_fn (pe_xm D_NoTie (hm hr) (pa_cons (pv 3) pa_nil)))) pss_nil)
  (pss_cons (ps_set (i := 4) sc_near_of.nd rfl (Or.inl rfl) (pe_ix (k_ixU (K := K) rfl hu) (pv 0) (pe_ix (k_ixU (K := K) rfl hu) (pv 3) pe_int (fun _ _ => rfl)) (fun _ _ => rfl)))
  (pss_cons (ps_set (i := 5) sc_near_of.nd rfl (Or.inl rfl) (pe_ix (k_ixU (K := K) rfl hu) (pv 0) (pe_ix (k_ixU (K := K) rfl hu) (pv 3) pe_int (fun _ _ => rfl)) (fun _ _ => rfl)))
  (pss_cons (ps_if (pt_val (pe_def D_has_bit (hm hr) pass0 (pa_cons (pe_ix (k_ixU (K := K) rfl hu) (pv 2) (pv 4) (fun _ _ => rfl)) (pa_cons (pv 5) pa_nil)))) (pss_one (k_raise (K := K) rfl xok_fn (pe_xm D_NoTie (hm hr) (pa_cons (pv 3) pa_nil)))) pss_nil)
  (pss_cons (ps_asg (pe_op op_or (pe_ix (k_ixU (K := K) rfl hu) (pv 2) (pv 4) (fun _ _ => rfl)) (pe_op op_shl pe_int (pv 5))) (pg_sub (pv 2) (pv 4) (k_setU hu)))
  (pss_one (ps_asg (pe_op op_or (pe_ix (k_ixU (K := K) rfl hu) (pv 2) (pv 5) (fun _ _ => rfl)) (pe_op op_shl pe_int (pv 4))) (pg_sub (pv 2) (pv 5) (k_setU hu))))))))))
  (pss_one (ps_ret (pv 2))))))), ?_⟩
    walk_at "vc"
    refine ⟨by show 2 ≤ sizeLine; decide, fun g hg => ?_⟩
    have s0 := Snew (L2.Same.refl H) (o := .tup [.ty "list", .ty "tuple"]) hg
    walk_at "vc"
    refine (ha.same s0).isi upd_same ?_
    walk_at "vc"
    cases o with
    | none =>
      refine ite2 (fun _ => ?_) (fun h => absurd rfl h)
      walk_at "vc"
      exact raise_done (T.xat 3 (by decide)) ((hz (3, v) rfl).later s0)
    | some xs =>
      refine ite2 (fun h => by cases h) fun _ => ?_
      obtain ⟨few, hth⟩ := ha.few
      walk_at "vc"
      refine (ha.same s0).len ?_
      walk_at "vc"
      refine ite2 (fun h => ?_) fun h => ?_
      · walk_at "vc"
        refine (ha.same s0).len ?_
        walk_at "vc"
        have h' : 30 < xs.length := by have := of_decide_eq_true h; omega
        exact raise_done (T.xat 4 (by decide)) ((hz (4, .int xs.length) (by show (if 30 < xs.length then _ else _) = _; rw [if_pos h'])).later s0)
      · have h' : ¬ 30 < xs.length := fun z => h (decide_eq_true (by omega))
        have ho : outT H ss v (some xs) = (goT H ss xs []).map fun y => (3, y) := by show (if 30 < xs.length then _ else _) = _; rw [if_neg h']
        rw [ho] at hz q
        walk_at "vc"
        refine ⟨by show 1 ≤ sizeLine; decide, fun z hzz => ?_⟩
        have s1 := Snew s0 (o := .lst [.int 0]) hzz
        walk_at "vc"
        refine .inr ⟨_, s1 _ _ hd, ?_⟩
        walk_at "vc"
        rw [numK_length]
        refine ⟨z, _, _, rfl, rfl, upd_same, by omega, by omega, by show 1 * _ ≤ sizeLine; rw [Int.toNat_natCast]; exact Nat.le_of_lt (small1000 (by omega)), fun n hn => ?_⟩
        rw [Int.toNat_natCast, natV_zero]
        have s2 := Snew s1 (o := .lst (natV (List.replicate ss.length 0))) hn
        have n0 : H n = none := s1.free hn
        walk_at "vc"
        refine for_arg ha s2 (fun i σ H' => ∃ v3 v4 v5 ns, σ = [some (.ref d), some v, some (.ref n), v3, v4, v5] ∧ L2.Same H H' ∧ H' n = some (.lst (natV ns)) ∧ BitsOk ss ns ((xs.take i).filterMap (tieV H ss)) ∧ goT H ss xs [] = goT H ss (xs.drop i) ((xs.take i).filterMap (tieV H ss)))
          ⟨none, none, none, _, rfl, s2, upd_same, bits_zero, rfl⟩ (fun i σ H' hp => by obtain ⟨_, _, _, _, _, z, _⟩ := hp; exact z) (fun i x σ H' hx hp => ?_) fun σ H' hp => ?_
        · obtain ⟨v3, v4, v5, ns, rfl, s3, hnn, hbits, hgo⟩ := hp
          have hil : i < xs.length := (List.getElem?_eq_some_iff.mp hx).1
          have hdr : xs.drop i = x :: xs.drop (i + 1) := by
            rw [List.drop_eq_getElem_cons hil]
            have := (List.getElem?_eq_some_iff.mp hx).2
            rw [this]
          have htk : xs.take (i + 1) = xs.take i ++ [x] := by rw [List.take_add_one, hx]; rfl
          have hxt := hth x (List.mem_of_getElem? hx)
          rw [hdr] at hgo
          walk_at "vc"
          refine ⟨p, 2, d, ss, x, rfl, s3 _ _ hd, hxt.same s3, fun H1 t1 => ?_⟩
          rw [tieV_same hxt s3]
          have s4 := s3.trans t1
          have hn1 := t1 _ _ hnn
          walk_at "vc"
          cases ht : tieV H ss x with
          | none =>
            refine ite2 (fun _ => ?_) (fun h => absurd rfl h)
            walk_at "vc"
            rw [goT_no ht] at hgo
            exact raise_done (T.xat 3 (by decide)) ((hz (3, x) (by rw [hgo]; rfl)).later s4)
          | some st =>
            refine ite2 (fun h => by cases h) fun _ => ?_
            obtain ⟨a, rfl, ea, n1, n2, l1, l2, m1, m2, hne⟩ := tieV_some ht
            rw [goT_on ht] at hgo
            obtain ⟨sx, sy⟩ := st
            dsimp only at ea n1 n2 l1 l2 m1 m2 hne hgo
            obtain ⟨ja, hja, gja, vja⟩ := numK_some (i := 0) m1
            obtain ⟨jb, hjb, gjb, vjb⟩ := numK_some (i := 0) m2
            rw [Nat.zero_add] at vja vjb
            have nab : ja ≠ jb := fun e => by rw [e, gjb] at gja; cases gja; exact hne rfl
            have lna : ja < ns.length := by rw [hbits.1]; exact hja
            have lnb : jb < ns.length := by rw [hbits.1]; exact hjb
            walk_at "vc"
            refine .inl (vIxT (s4 _ _ ea) rfl ?_)
            refine .inr ⟨d, .int ja, rfl, ?_, ?_⟩
            · have := DGet.k (k := Sum.inr sx) (s4 _ _ hd)
              rw [vja] at this
              exact this
            walk_at "vc"
            refine .inl (vIxT (s4 _ _ ea) rfl ?_)
            refine .inr ⟨d, .int jb, rfl, ?_, ?_⟩
            · have := DGet.k (k := Sum.inr sy) (s4 _ _ hd)
              rw [vjb] at this
              exact this
            walk_at "vc"
            refine .inl (vIxL hn1 (atI_nat (natV_get lna)) ?_)
            walk_at "vc"
            refine ⟨_, _, rfl, by omega, ?_⟩
            rw [bit_has, hbits.2.2 ja jb sx sy gja gjb]
            walk_at "vc"
            refine ite2 (fun hm => ?_) fun hm => ?_
            · walk_at "vc"
              rw [if_pos (of_decide_eq_true hm)] at hgo
              exact raise_done (T.xat 3 (by decide)) ((hz (3, .ref a) (by rw [hgo]; rfl)).later s4)
            · rw [if_neg (fun e => hm (decide_eq_true e))] at hgo
              walk_at "vc"
              refine .inl (vIxL hn1 (atI_nat (natV_get lna)) ?_)
              walk_at "vc"
              refine vI ⟨by omega, by omega, by decide⟩ ?_
              walk_at "vc"
              rw [bit_or]
              refine .inl (vSetL hn1 (ixN_nat (by unfold natV; rw [List.length_map]; exact lna)) ?_)
              rw [natV_set]
              walk_at "vc"
              have e2 : (ns.set ja (ns.getD ja 0 ||| 2 ^ jb)).getD jb 0 = ns.getD jb 0 := by rw [getD_set lna, if_neg nab]
              refine .inl (vIxL upd_same (atI_nat (natV_get (by simpa using lnb))) ?_)
              walk_at "vc"
              refine vI ⟨by omega, by omega, by decide⟩ ?_
              walk_at "vc"
              rw [bit_or, e2]
              refine .inl (vSetL upd_same (ixN_nat (by unfold natV; rw [List.length_map]; simpa using lnb)) ?_)
              rw [natV_set]
              have hfm : (xs.take (i + 1)).filterMap (tieV H ss) = (xs.take i).filterMap (tieV H ss) ++ [(sx, sy)] := by
                rw [htk, List.filterMap_append]
                simp [ht]
              refine ⟨_, _, _, _, rfl, Supd (Supd s4 n0) n0, upd_same, ?_, ?_⟩
              · rw [hfm]
                exact bits_step hbits hnd gja gjb hne
              · rw [hfm]
                exact hgo
        · obtain ⟨v3, v4, v5, ns, rfl, s3, hnn, hbits, hgo⟩ := hp
          rw [List.drop_length] at hgo
          walk_at "vc"
          rw [List.take_length] at hbits
          exact q (by rw [hgo]; rfl) n _ H' s3 n0 hnn hbits
def outW (H : Hp) (v : V) (o : Option (List V)) (v2 : V) (o2 : Option (List V)) : Option (Nat × V) := match outN v o with
  | some r => some r
  | none => outT H ((o.getD []).map strV) v2 o2
theorem outN_good {v : V} {o : Option (List V)} (h : outN v o = none) : ∃ xs, o = some xs ∧ xs.length ≤ 14 ∧ xs = (xs.map strV).map V.str ∧ (∀ x ∈ xs, nameV x = true) ∧ (xs.map strV).Nodup := by
  cases o with
  | none => cases h
  | some xs =>
    have h' : (if 14 < xs.length then some ((4 : Nat), V.int xs.length) else dueN xs []) = none := h
    split at h'
    · cases h'
    · obtain ⟨a, b, c, d⟩ := dueN_none h'
      exact ⟨xs, rfl, by omega, a, b, d⟩
theorem goT_keep {p x : Addr} {H H' : Hp} {ss : List Str} (k : ∀ b o, b ≠ p → H b = some o → H' b = some o) : ∀ (xs : List V) (seen : List (Str × Str)), (∀ x ∈ xs, Th p H 2 x) → goT H' ss xs seen = goT H ss xs seen
  | [], _, _ => rfl
  | y :: r, seen, h => by
    have e := tieV_keep (ss := ss) (h y List.mem_cons_self) k
    have hr := fun z hz => h z (List.mem_cons_of_mem y hz)
    cases ht : tieV H ss y with
    | none => rw [goT_no (e.trans ht), goT_no ht]
    | some t => rw [goT_on (e.trans ht), goT_on ht, goT_keep (x := x) k r _ hr]
theorem outT_keep {p : Addr} {H H' : Hp} {ss : List Str} {v : V} {o : Option (List V)} (h : Arg p H v o) (k : ∀ b o, b ≠ p → H b = some o → H' b = some o) : outT H' ss v o = outT H ss v o := by
  cases o with
  | none => rfl
  | some xs =>
    show (if _ then _ else (goT H' ss xs []).map _) = if _ then _ else (goT H ss xs []).map _
    rw [goT_keep (x := p) k xs [] h.few.2]
structure WOk (ss : List Str) (ns : List Nat) : Prop where
  len : ns.length = ss.length
  few : ss.length ≤ 14
  nd : ss.Nodup
  lt : ∀ a, ns.getD a 0 < 2 ^ ss.length
  nm : ∀ s ∈ ss, nameS s = true
def WebAt (cw : Addr) (H : Hp) (x : Addr) (ss : List Str) (ns : List Nat) : Prop := ∃ dx d ol n, H x = some (.ins cw dx (putF "near" (.ref n) (putF "order" (.ref ol) (putF "numbers" (.ref d) [])))) ∧ H d = some (.dK (numK ss 0)) ∧ H ol = some (.lst (ss.map V.str)) ∧ H n = some (.lst (natV ns)) ∧ WOk ss ns
theorem WebAt.same {cw x : Addr} {H H' : Hp} {ss : List Str} {ns : List Nat} (h : WebAt cw H x ss ns) (s : L2.Same H H') : WebAt cw H' x ss ns := by
  obtain ⟨dx, d, ol, n, h1, h2, h3, h4, h5⟩ := h
  exact ⟨dx, d, ol, n, s _ _ h1, s _ _ h2, s _ _ h3, s _ _ h4, h5⟩
def WebN (H0 : Hp) (cw : Addr) (H : Hp) (x : Addr) (ss : List Str) (ns : List Nat) : Prop := ∃ dx d ol n, H x = some (.ins cw dx (putF "near" (.ref n) (putF "order" (.ref ol) (putF "numbers" (.ref d) [])))) ∧ H d = some (.dK (numK ss 0)) ∧ H ol = some (.lst (ss.map V.str)) ∧ H n = some (.lst (natV ns)) ∧ WOk ss ns ∧ H0 d = none ∧ H0 ol = none ∧ H0 n = none
theorem WebN.web {H0 : Hp} {cw x : Addr} {H : Hp} {ss : List Str} {ns : List Nat} (h : WebN H0 cw H x ss ns) : WebAt cw H x ss ns := by
  obtain ⟨dx, d, ol, n, h1, h2, h3, h4, h5, _⟩ := h
  exact ⟨dx, d, ol, n, h1, h2, h3, h4, h5⟩
def WebP (A : Addr → Prop) (cw : Addr) (H : Hp) (x : Addr) (ss : List Str) (ns : List Nat) : Prop := ∃ dx d ol n, H x = some (.ins cw dx (putF "near" (.ref n) (putF "order" (.ref ol) (putF "numbers" (.ref d) [])))) ∧ H d = some (.dK (numK ss 0)) ∧ H ol = some (.lst (ss.map V.str)) ∧ H n = some (.lst (natV ns)) ∧ WOk ss ns ∧ ¬ A x ∧ ¬ A d ∧ ¬ A ol ∧ ¬ A n
theorem numK_keys : ∀ (ss : List Str) (i : Nat), (numK ss i).map (fun kv => kV kv.1) = ss.map V.str
  | [], _ => rfl
  | s :: r, i => congrArg (V.str s :: ·) (numK_keys r (i + 1))
def spWeb (cc : Nat → Addr) (cw : Addr) : Sp := fun vs H Q E => ∃ (p x dx : Addr) (v : V) (o : Option (List V)) (v2 : V) (o2 : Option (List V)), vs = [.ref x, v, v2] ∧ H x = some (.ins cw dx []) ∧ Arg p H v o ∧ Arg p H v2 o2 ∧
  (∀ r, outW H v o v2 o2 = some r → ∀ dy H', But x H H' → H' dy = some (.xd [(fldn r.1, r.2)]) → E (.ref (cc r.1)) (some dy) H') ∧ (outW H v o v2 o2 = none → ∀ ns H', But x H H' → WebN H cw H' x ((o.getD []).map strV) ns → BitsOk ((o.getD []).map strV) ns ((o2.getD []).filterMap (tieV H ((o.getD []).map strV))) → Q .non H')
theorem Arg.but {p x dx C : Addr} {H H' : Hp} {v : V} {o : Option (List V)} {fs : List (Str × V)} (h : Arg p H v o) (hx : H x = some (.ins C dx fs)) (b : But x H H') : Arg p H' v o ∧ ∀ ss, outT H' ss v o = outT H ss v o := by
  have hth : ∀ {n : Nat} {v : V}, Th p H n v → Th p (fun a => if a = x then none else H a) n v := by
    intro n v h
    induction h with
    | flat f l => exact .flat f l
    | lst e ne h l ih => exact .lst (by rw [if_neg (ne_of e hx (by intro z; cases z))]; exact e) ne ih l
    | tup e ne h l ih => exact .tup (by rw [if_neg (ne_of e hx (by intro z; cases z))]; exact e) ne ih l
    | dct e ne => exact .dct (by rw [if_neg (ne_of e hx (by intro z; cases z))]; exact e) ne
  have h2 : Arg p (fun a => if a = x then none else H a) v o := by
    cases h with
    | lst e ne h l => exact .lst (by rw [if_neg (ne_of e hx (by intro z; cases z))]; exact e) ne (fun x hx => hth (h x hx)) l
    | tup e ne h l => exact .tup (by rw [if_neg (ne_of e hx (by intro z; cases z))]; exact e) ne (fun x hx => hth (h x hx)) l
    | flat f l => exact .flat f l
    | dct e ne => exact .dct (by rw [if_neg (ne_of e hx (by intro z; cases z))]; exact e) ne
  have k1 : L2.Same (fun a => if a = x then none else H a) H' := fun c u e => by
    have e : (if c = x then none else H c) = some u := e
    by_cases hc : c = x
    · rw [if_pos hc] at e; cases e
    · rw [if_neg hc] at e; exact b c u hc e
  have k2 : L2.Same (fun a => if a = x then none else H a) H := fun c u e => by
    have e : (if c = x then none else H c) = some u := e
    by_cases hc : c = x
    · rw [if_pos hc] at e; cases e
    · rw [if_neg hc] at e; exact e
  exact ⟨h2.same k1, fun ss => (outT_keep h2 fun b o _ e => k1 b o e).trans (outT_keep h2 fun b o _ e => k2 b o e).symm⟩
theorem fm_congr {α β : Type} {f g : α → Option β} : ∀ {l : List α}, (∀ x ∈ l, f x = g x) → l.filterMap f = l.filterMap g
  | [], _ => rfl
  | a :: r, h => by
    rw [List.filterMap_cons, List.filterMap_cons, h a List.mem_cons_self, fm_congr fun x hx => h x (List.mem_cons_of_mem _ hx)]
theorem Arg.tie_but {p x dx C : Addr} {H H' : Hp} {v : V} {o : Option (List V)} {fs : List (Str × V)} (h : Arg p H v o) (hx : H x = some (.ins C dx fs)) (b : But x H H') (y : V) (hy : y ∈ o.getD []) (ss : List Str) : tieV H' ss y = tieV H ss y := by
  cases o with
  | none => cases hy
  | some xs =>
    have hth := h.few.2 y hy
    cases hth with
    | flat f l => cases y <;> first | rfl | cases f
    | lst e ne h l => rw [tieV_not (H := H') (fun a zs z y => by (cases z; rw [b _ _ (ne_of e hx (by intro z; cases z)) e] at y; cases y)), tieV_not (H := H) fun a zs z y => by (cases z; rw [e] at y; cases y)]
    | tup e ne h l => unfold tieV; dsimp only; rw [b _ _ (ne_of e hx (by intro z; cases z)) e, e]
    | dct e ne => rw [tieV_not (H := H') (fun a zs z y => by (cases z; rw [b _ _ (ne_of e hx (by intro z; cases z)) e] at y; cases y)), tieV_not (H := H) fun a zs z y => by (cases z; rw [e] at y; cases y)]
theorem ok_web {f : Addr} {fd : FuncData} (F : Fun K "__init__" "Web.__init__" s_Web_init f fd) (T : Txt K mg cc cw) (D_numbers_of : DefOk P w K mg base (CX1 P w) 4 "numbers_of" ["names"] (spNums cc)) (D_near_of : DefOk P w K mg base (CX1 P w) 4 "near_of" ["numbers", "ties"] (spNear cc)) :
    FnOk P w K mg base (CX1 P w) 5 f fd ["self", "names", "ties"] (spWeb cc cw) := by
  refine F.ok1 sc_Web_init (fun vs H Q E h => ?_) fun cdv A outer s H vs Q E hr h => ?_
  · obtain ⟨p, x, dx, v, o, v2, o2, rfl, _⟩ := h; rfl
  · obtain ⟨p, x, dx, v, o, v2, o2, rfl, hx, ha, ha2, hz, q⟩ := h
    have hu := u100 hr
    refine ⟨_, (pss_cons (k_sfldU (K := K) rfl (pv 0) (pe_defS D_numbers_of (hm hr) xok_fn (pa_cons (pv 1) pa_nil)) rfl)
  (pss_cons (k_sfldU (K := K) rfl (pv 0) (pe_callTy (k_listU (K := K) rfl rfl) rfl T.b_list boot_list (pa_cons (k_fldU (K := K) rfl (pv 0) rfl) pa_nil)) rfl)
  (pss_one (k_sfldU (K := K) rfl (pv 0) (pe_defS D_near_of (hm hr) xok_fn (pa_cons (k_fldU (K := K) rfl (pv 0) rfl) (pa_cons (pv 2) pa_nil))) rfl)))), ?_⟩
    walk_at "vc"
    refine ⟨p, v, o, rfl, ha, fun r e => ?_, fun hN d H1 s1 hd0 hd => ?_⟩
    · intro dy H' s' hy
      exact hz r (by unfold outW; rw [e]) dy H' ((But.refl x H).same s') hy
    · have hW : outW H v o v2 o2 = outT H ((o.getD []).map strV) v2 o2 := by unfold outW; rw [hN]
      obtain ⟨xs, rfl, l14, _, allN, nd⟩ := outN_good hN
      rw [hW] at hz q
      have b1 := (But.refl x H).same s1
      have hx1 := s1 _ _ hx
      have ndx : d ≠ x := ne_of hd hx1 (by intro z; cases z)
      walk_at "vc"
      refine .inl ⟨x, cw, dx, [], rfl, hx1, T.wcl, T.wn, by decide, ?_⟩
      have b2 := b1.put (o := .ins cw dx (putF "numbers" (.ref d) []))
      have hd2 : upd H1 x (.ins cw dx (putF "numbers" (.ref d) [])) d = some (.dK (numK (((some xs).getD []).map strV) 0)) := by rw [upd_ne ndx]; exact hd
      walk_at "vc"
      refine .inl ⟨x, cw, dx, _, .ref d, rfl, upd_same, T.wcl, T.wn, by rw [lookup_putF, if_pos rfl], ?_⟩
      walk_at "vc"
      refine .inr (.inl ⟨d, _, rfl, hd2, fun ol ho => ?_⟩)
      have no : ol ≠ x := fun e => by subst e; rw [upd_same] at ho; cases ho
      have b3 := b2.new (o := .lst ((numK (((some xs).getD []).map strV) 0).map fun kv => kV kv.1)) ho
      have nol : ol ≠ d := fun e => by rw [e, hd2] at ho; cases ho
      walk_at "vc"
      refine .inl ⟨x, cw, dx, _, rfl, (by rw [upd_ne no.symm]; exact upd_same), T.wcl, T.wo, Nat.lt_of_le_of_lt (length_putF _ _ _) (by decide), ?_⟩
      have hd3 : upd (upd (upd H1 x (.ins cw dx (putF "numbers" (.ref d) []))) ol (.lst ((numK (((some xs).getD []).map strV) 0).map fun kv => kV kv.1))) x (.ins cw dx (putF "order" (.ref ol) (putF "numbers" (.ref d) []))) d = some (.dK (numK (((some xs).getD []).map strV) 0)) := by
        rw [upd_ne ndx, upd_ne (ne_of_none hd2 ho)]; exact hd2
      have b4 := b3.put (o := .ins cw dx (putF "order" (.ref ol) (putF "numbers" (.ref d) [])))
      walk_at "vc"
      refine .inl ⟨x, cw, dx, _, .ref d, rfl, upd_same, T.wcl, T.wn, by rw [lookup_putF, if_neg (by decide +kernel), lookup_putF, if_pos rfl], ?_⟩
      walk_at "vc"
      obtain ⟨ha3, ho3⟩ := ha2.but hx b4
      refine ⟨p, d, _, v2, o2, rfl, hd3, by rw [List.length_map]; exact l14, nd, ha3, fun r e => ?_, fun e n ns H2 s2 hn0 hn hbits => ?_⟩
      · intro dy H' s' hy
        rw [ho3] at e
        exact hz r e dy H' (b4.same s') hy
      · rw [ho3] at e
        have b5 := b4.same s2
        walk_at "vc"
        refine .inl ⟨x, cw, dx, _, rfl, s2 _ _ upd_same, T.wcl, T.wr, Nat.lt_of_le_of_lt (length_putF _ _ _) (Nat.lt_of_le_of_lt (Nat.succ_le_succ (length_putF _ _ _)) (by decide)), ?_⟩
        have hx2 := s2 _ _ (upd_same : upd (upd (upd H1 x (.ins cw dx (putF "numbers" (.ref d) []))) ol (.lst ((numK (((some xs).getD []).map strV) 0).map fun kv => kV kv.1))) x (.ins cw dx (putF "order" (.ref ol) (putF "numbers" (.ref d) []))) x = _)
        have nnx : n ≠ x := ne_of hn hx2 (by intro z; cases z)
        have hd4 := s2 _ _ hd3
        have ho4 : H2 ol = some (.lst ((numK (((some xs).getD []).map strV) 0).map fun kv => kV kv.1)) := s2 _ _ (by rw [upd_ne no]; exact upd_same)
        have eT : (((some xs).getD []).map strV) = (((some xs).getD []).map strV) := rfl
        have ebt : ∀ y ∈ (o2.getD []), tieV H (((some xs).getD []).map strV) y = tieV (upd (upd (upd H1 x (.ins cw dx (putF "numbers" (.ref d) []))) ol (.lst ((numK (((some xs).getD []).map strV) 0).map fun kv => kV kv.1))) x (.ins cw dx (putF "order" (.ref ol) (putF "numbers" (.ref d) [])))) (((some xs).getD []).map strV) y := fun y hy => ?tie
        have hol0 : H ol = none := by
          cases q' : H ol with
          | none => rfl
          | some o' => rw [b2 ol o' no q'] at ho; cases ho
        have hn00 : H n = none := by
          cases q' : H n with
          | none => rfl
          | some o' => rw [b4 n o' nnx q'] at hn0; cases hn0
        refine q e ns _ b5.put ⟨dx, d, ol, n, upd_same, by rw [upd_ne ndx]; exact hd4, by rw [upd_ne no, ho4, numK_keys], by rw [upd_ne nnx]; exact hn, ⟨hbits.1, by show (xs.map strV).length ≤ 14; rw [List.length_map]; exact l14, nd, hbits.2.1, fun s hs => by obtain ⟨y, hy, rfl⟩ := List.mem_map.mp hs; exact (nameV_str (allN y hy)).2.1⟩, hd0, hol0, hn00⟩ ?_
        · have : (o2.getD []).filterMap (tieV H (((some xs).getD []).map strV)) = (o2.getD []).filterMap (tieV (upd (upd (upd H1 x (.ins cw dx (putF "numbers" (.ref d) []))) ol (.lst ((numK (((some xs).getD []).map strV) 0).map fun kv => kV kv.1))) x (.ins cw dx (putF "order" (.ref ol) (putF "numbers" (.ref d) [])))) (((some xs).getD []).map strV)) := fm_congr ebt
          rw [this]
          exact hbits
        case tie => exact (ha2.tie_but hx b4 y hy _).symm
end
/- Web.has_place: calls ['is_place'] -/
abbrev s_Web_has_place : Stmt := inClass (top 15) 4
theorem sc_Web_has_place : FnScope ["self", "thing"] ["self", "thing"] (defScope s_Web_has_place) := ⟨rfl, rfl, rfl, by decide +kernel, rfl, by decide +kernel, by decide +kernel⟩
/- Web.number_of: calls [] -/
abbrev s_Web_number_of : Stmt := inClass (top 15) 6
theorem sc_Web_number_of : FnScope ["self", "place"] ["self", "place"] (defScope s_Web_number_of) := ⟨rfl, rfl, rfl, by decide +kernel, rfl, by decide +kernel, by decide +kernel⟩
/- Web.beside: calls [] -/
abbrev s_Web_beside : Stmt := inClass (top 15) 7
theorem sc_Web_beside : FnScope ["self", "place"] ["self", "place"] (defScope s_Web_beside) := ⟨rfl, rfl, rfl, by decide +kernel, rfl, by decide +kernel, by decide +kernel⟩
/- Web.bits_beside: calls [] -/
abbrev s_Web_bits_beside : Stmt := inClass (top 15) 8
theorem sc_Web_bits_beside : FnScope ["self", "place"] ["self", "place"] (defScope s_Web_bits_beside) := ⟨rfl, rfl, rfl, by decide +kernel, rfl, by decide +kernel, by decide +kernel⟩
/- Web.names_in: calls ['has_bit'] -/
abbrev s_Web_names_in : Stmt := inClass (top 15) 12
theorem sc_Web_names_in : FnScope ["self", "bits"] ["self", "bits"] (defScope s_Web_names_in) := ⟨rfl, rfl, rfl, by decide +kernel, rfl, by decide +kernel, by decide +kernel⟩
theorem lk_numbers {d ol n : V} : (putF "near" n (putF "order" ol (putF "numbers" d []))).lookup ("numbers" : Str) = some d := by
  rw [lookup_putF, if_neg (by decide +kernel), lookup_putF, if_neg (by decide +kernel), lookup_putF, if_pos rfl]
theorem lk_order {d ol n : V} : (putF "near" n (putF "order" ol (putF "numbers" d []))).lookup ("order" : Str) = some ol := by
  rw [lookup_putF, if_neg (by decide +kernel), lookup_putF, if_pos rfl]
theorem lk_near {d ol n : V} : (putF "near" n (putF "order" ol (putF "numbers" d []))).lookup ("near" : Str) = some n := by
  rw [lookup_putF, if_pos rfl]
theorem lk_no {f : Str} {d ol n : V} (h : (f == "near" || f == "order" || f == "numbers") = false) : (putF "near" n (putF "order" ol (putF "numbers" d []))).lookup f = none := by
  simp only [Bool.or_eq_false_iff, beq_eq_false_iff_ne] at h
  rw [lookup_putF, if_neg h.1.1, lookup_putF, if_neg h.1.2, lookup_putF, if_neg h.2]
  rfl
theorem place_ix {ss : List Str} {v : V} (h : placeV ss v = true) : v = .str (strV v) ∧ ∃ j, j < ss.length ∧ ss[j]? = some (strV v) ∧ valV (numK ss 0) (.inr (strV v) : Key) = some (.int (j : Nat)) := by
  obtain ⟨n1, m1⟩ := placeV_name h
  obtain ⟨e1, _, _⟩ := nameV_str n1
  obtain ⟨j, hj, gj, vj⟩ := numK_some (i := 0) m1
  rw [Nat.zero_add] at vj
  exact ⟨e1, j, hj, gj, vj⟩
def inB : List Str → Nat → Nat → List Str
  | [], _, _ => []
  | s :: r, i, b => if b.testBit i = true then s :: inB r (i + 1) b else inB r (i + 1) b
theorem inB_snoc (y : Str) (b : Nat) : ∀ (l : List Str) (k : Nat), inB (l ++ [y]) k b = inB l k b ++ (if b.testBit (k + l.length) = true then [y] else [])
  | [], k => by simp [inB]
  | s :: r, k => by
    have ih := inB_snoc y b r (k + 1)
    have e : k + 1 + r.length = k + (s :: r).length := by simp; omega
    rw [e] at ih
    simp only [List.cons_append, inB, ih]
    split <;> simp
theorem inB_len (b : Nat) : ∀ (l : List Str) (k : Nat), (inB l k b).length ≤ l.length
  | [], _ => Nat.le_refl _
  | s :: r, k => by
    have ih := inB_len b r (k + 1)
    simp only [inB]
    split
    · simp; omega
    · simp; omega
def spHas (cw : Addr) : Sp := fun vs H Q _ => ∃ (p : Addr) (k : Nat) (x : Addr) (ss : List Str) (ns : List Nat) (v : V), vs = [.ref x, v] ∧ WebAt cw H x ss ns ∧ Th p H k v ∧ ∀ H', L2.Same H H' → Q (.bl (placeV ss v)) H'
def spNum (cc : Nat → Addr) (cw : Addr) : Sp := fun vs H Q E => ∃ (p : Addr) (k : Nat) (x : Addr) (ss : List Str) (ns : List Nat) (v : V), vs = [.ref x, v] ∧ WebAt cw H x ss ns ∧ Th p H k v ∧ (placeV ss v = false → Rz cc H E (2, v)) ∧
  ∀ j, ss[j]? = some (strV v) → placeV ss v = true → ∀ H', L2.Same H H' → Q (.int (j : Nat)) H'
def spBB (cc : Nat → Addr) (cw : Addr) : Sp := fun vs H Q E => ∃ (p : Addr) (k : Nat) (x : Addr) (ss : List Str) (ns : List Nat) (v : V), vs = [.ref x, v] ∧ WebAt cw H x ss ns ∧ Th p H k v ∧ (placeV ss v = false → Rz cc H E (2, v)) ∧
  ∀ j, ss[j]? = some (strV v) → placeV ss v = true → ∀ H', L2.Same H H' → Q (.int (ns.getD j 0 : Nat)) H'
def spNIn (cw : Addr) : Sp := fun vs H Q _ => ∃ (x : Addr) (ss : List Str) (ns : List Nat) (b : Nat), vs = [.ref x, .int b] ∧ WebAt cw H x ss ns ∧ ∀ l, H l = none → Q (.ref l) (upd H l (.lst ((inB ss 0 b).map V.str)))
def spBs (cc : Nat → Addr) (cw : Addr) : Sp := fun vs H Q E => ∃ (p : Addr) (k : Nat) (x : Addr) (ss : List Str) (ns : List Nat) (v : V), vs = [.ref x, v] ∧ WebAt cw H x ss ns ∧ Th p H k v ∧ (placeV ss v = false → Rz cc H E (2, v)) ∧
  ∀ j, ss[j]? = some (strV v) → placeV ss v = true → ∀ H', L2.Same H H' → ∀ l, H' l = none → Q (.ref l) (upd H' l (.lst ((inB ss 0 (ns.getD j 0)).map V.str)))
section
variable {P : Program} {w : World} {K : W.Frag} {mg : Str → Option Value} {base : Heap} {cc : Nat → Addr} {cw : Addr}
theorem ok_has {f : Addr} {fd : FuncData} (F : Fun K "has_place" "Web.has_place" s_Web_has_place f fd) (T : Txt K mg cc cw) (D_is_place : DefOk P w K mg base CX0 2 "is_place" ["numbers", "thing"] spPlace) : FnOk P w K mg base CX0 3 f fd ["self", "thing"] (spHas cw) := by
  refine F.ok sc_Web_has_place (fun vs H Q E h => ?_) fun cdv A outer s H vs Q E hr h => ?_
  · obtain ⟨p, k, x, ss, ns, v, rfl, _⟩ := h; rfl
  · obtain ⟨p, k, x, ss, ns, v, rfl, ⟨dx, d, ol, n, hx, hd, ho, hn, hw⟩, hv, q⟩ := h
    refine ⟨_, (pss_one (ps_ret (pe_def D_is_place (hm hr) pass0 (pa_cons (k_fldU (K := K) rfl (pv 0) rfl) (pa_cons (pv 1) pa_nil))))), ?_⟩
    walk_at "vc"
    refine .inl ⟨x, cw, dx, _, .ref d, rfl, hx, T.wcl, T.wn, lk_numbers, ?_⟩
    walk_at "vc"
    exact ⟨p, k, d, ss, v, rfl, hd, hv, q⟩
theorem ok_num {f : Addr} {fd : FuncData} (F : Fun K "number_of" "Web.number_of" s_Web_number_of f fd) (T : Txt K mg cc cw) (D_Web_has_place : MethOk P w K mg base CX0 3 cw "has_place" ["self", "thing"] (spHas cw))
    (D_NoPlace : XMakeOk P w K mg base 2 (cc 2) "NoPlace" ["self", "found"] (spX (cc 2) (fldn 2))) : FnOk P w K mg base (CX1 P w) 4 f fd ["self", "place"] (spNum cc cw) := by
  refine F.ok1 sc_Web_number_of (fun vs H Q E h => ?_) fun cdv A outer s H vs Q E hr h => ?_
  · obtain ⟨p, k, x, ss, ns, v, rfl, _⟩ := h; rfl
  · obtain ⟨p, k, x, ss, ns, v, rfl, hW, hv, hz, q⟩ := h
    have hu := u100 hr
    obtain ⟨dx, d, ol, n, hx, hd, ho, hn, hw⟩ := id hW
    refine ⟨_, (pss_cons (ps_if (pt_not (pt_val (pe_methQ D_Web_has_place (hm hr) (pv 0) (pa_cons (pv 1) pa_nil)))) (pss_one (k_raise (K := K) rfl xok_fn (pe_xm D_NoPlace (hm hr) (pa_cons (pv 1) pa_nil)))) pss_nil)
  (pss_one (ps_ret (pe_ix (k_ixU (K := K) rfl hu) (k_fldU (K := K) rfl (pv 0) rfl) (pv 1) (fun _ _ => rfl))))), ?_⟩
    walk_at "vc"
    refine ⟨x, dx, _, rfl, hx, lk_no (by decide +kernel), ?_⟩
    walk_at "vc"
    refine ⟨p, k, x, ss, ns, v, rfl, hW, hv, fun H1 s1 => ?_⟩
    walk_at "vc"
    refine ite2 (fun h => ?_) fun h => ?_
    · walk_at "vc"
      exact raise_done (T.xat 2 (by decide)) ((hz (by simpa using h)).later s1)
    · have hp : placeV ss v = true := by simpa using h
      obtain ⟨ev, j, hj, gj, vj⟩ := place_ix hp
      walk_at "vc"
      refine .inl ⟨x, cw, dx, _, .ref d, rfl, s1 _ _ hx, T.wcl, T.wn, lk_numbers, ?_⟩
      walk_at "vc"
      refine .inr ⟨d, .int j, rfl, ?_, q j gj hp H1 s1⟩
      have := DGet.k (k := Sum.inr (strV v)) (s1 _ _ hd)
      rw [vj] at this
      rw [ev]
      exact this
theorem ok_bb {f : Addr} {fd : FuncData} (F : Fun K "bits_beside" "Web.bits_beside" s_Web_bits_beside f fd) (T : Txt K mg cc cw) (D_Web_number_of : MethOk P w K mg base (CX1 P w) 4 cw "number_of" ["self", "place"] (spNum cc cw)) : FnOk P w K mg base (CX1 P w) 5 f fd ["self", "place"] (spBB cc cw) := by
  refine F.ok1 sc_Web_bits_beside (fun vs H Q E h => ?_) fun cdv A outer s H vs Q E hr h => ?_
  · obtain ⟨p, k, x, ss, ns, v, rfl, _⟩ := h; rfl
  · obtain ⟨p, k, x, ss, ns, v, rfl, hW, hv, hz, q⟩ := h
    have hu := u100 hr
    obtain ⟨dx, d, ol, n, hx, hd, ho, hn, hw⟩ := id hW
    refine ⟨_, (pss_one (ps_ret (pe_ix (k_ixU (K := K) rfl hu) (k_fldU (K := K) rfl (pv 0) rfl) (pe_methS D_Web_number_of (hm hr) xok_fn (pv 0) (pa_cons (pv 1) pa_nil)) (fun _ _ => rfl)))), ?_⟩
    walk_at "vc"
    refine .inl ⟨x, cw, dx, _, .ref n, rfl, hx, T.wcl, T.wr, lk_near, ?_⟩
    walk_at "vc"
    refine ⟨x, dx, _, rfl, hx, lk_no (by decide +kernel), ?_⟩
    walk_at "vc"
    refine ⟨p, k, x, ss, ns, v, rfl, hW, hv, hz, fun j gj hp H1 s1 => ?_⟩
    exact .inl (vIxL (s1 _ _ hn) (atI_nat (natV_get (by rw [hw.len]; exact (List.getElem?_eq_some_iff.mp gj).1))) (q j gj hp H1 s1))
theorem ok_nin {f : Addr} {fd : FuncData} (F : Fun K "names_in" "Web.names_in" s_Web_names_in f fd) (T : Txt K mg cc cw) (D_has_bit : DefOk P w K mg base CX0 1 "has_bit" ["bits", "number"] spBit) : FnOk P w K mg base CX0 2 f fd ["self", "bits"] (spNIn cw) := by
  refine F.ok sc_Web_names_in (fun vs H Q E h => ?_) fun cdv A outer s H vs Q E hr h => ?_
  · obtain ⟨x, ss, ns, b, rfl, _⟩ := h; rfl
  · obtain ⟨x, ss, ns, b, rfl, ⟨dx, d, ol, n, hx, hd, ho, hn, hw⟩, q⟩ := h
    have hu := u100 hr
    refine ⟨_, (pss_one (ps_ret (pe_comp (sc := defScope s_Web_names_in) (XN := ["self", "bits"]) ["name", "bits", "self"] 1 [1, 0] rfl rfl rfl (by decide +kernel) rfl (by decide +kernel)
   (ki_any (K := K) rfl (k_fldU (K := K) rfl (pv 0) rfl)) (fun _ _ _ _ => (pg_name (i := 0) (show (["name", "bits", "self"] : List Str).Nodup by decide +kernel) rfl (Or.inl rfl))) gk_name
   (fun _ _ _ _ => (pifs_one (pt_val (pe_def D_has_bit (hm hr) pass0 (pa_cons (pv 1) (pa_cons (pe_ix (k_ixU (K := K) rfl hu) (k_fldU (K := K) rfl (pv 2) rfl) (pv 0) (fun _ _ => rfl)) pa_nil))))))
   (fun _ _ _ _ => (pv 0))))), ?_⟩
    walk_at "vc"
    refine .inl ⟨x, cw, dx, _, .ref ol, rfl, hx, T.wcl, T.wo, lk_order, ?_⟩
    refine .inl ⟨⟨_, SqL.of ho⟩, comp_list (K := K) (fun i ys H' => H' = H ∧ ys = (inB (ss.take i) 0 b).map V.str) ⟨rfl, by simp [inB]⟩ (fun i ys H' _ hp => by rw [hp.1]; exact SqL.of ho) (fun i y ys H' hy hp => ?_) fun ys H' hp => ?_⟩
    · obtain ⟨rfl, rfl⟩ := hp
      have hi : i < ss.length := by simpa using (List.getElem?_eq_some_iff.mp hy).1
      have gi : ss[i]? = some ss[i] := List.getElem?_eq_getElem hi
      generalize ss[i] = sy at gi
      have ey : y = .str sy := by rw [List.getElem?_map, gi] at hy; cases hy; rfl
      subst ey
      obtain ⟨j, hj, gj, vj⟩ := numK_some (i := 0) (List.mem_of_getElem? gi)
      rw [Nat.zero_add] at vj
      have hji : j = i := nodup_inj hw.nd gj gi
      subst hji
      have htk : ss.take (j + 1) = ss.take j ++ [sy] := by rw [List.take_add_one, gi]; rfl
      have hln : (ss.take j).length = j := by rw [List.length_take]; omega
      walk_at "vc"
      refine .inl ⟨x, cw, dx, _, .ref d, rfl, hx, T.wcl, T.wn, lk_numbers, ?_⟩
      walk_at "vc"
      refine .inr ⟨d, .int j, rfl, ?_, ?_⟩
      · have := DGet.k (k := Sum.inr sy) hd
        rw [vj] at this
        exact this
      walk_at "vc"
      refine ⟨_, _, rfl, by omega, ?_⟩
      rw [bit_has]
      walk_at "vc"
      have few : ((inB (ss.take j) 0 b).map V.str).length < sizeLine := by
        rw [List.length_map]
        exact small1000 (Nat.le_trans (inB_len _ _ _) (by rw [hln]; have := hw.few; omega))
      refine ite2 (fun hb => ?_) fun hb => ?_
      · walk_at "vc"
        refine ⟨few, rfl, ?_⟩
        rw [htk, inB_snoc, hln, Nat.zero_add, if_pos hb]
        simp
      · refine ⟨rfl, ?_⟩
        rw [htk, inB_snoc, hln, Nat.zero_add, if_neg hb]
        simp
    · obtain ⟨rfl, rfl⟩ := hp
      have etk : ss.take (ss.map V.str).length = ss := by rw [List.length_map, List.take_length]
      rw [etk]
      refine ⟨?_, fun l hl => q l hl⟩
      rw [List.length_map]
      exact Nat.le_of_lt (small1000 (Nat.le_trans (inB_len _ _ _) (by have := hw.few; omega)))
theorem ok_bs {f : Addr} {fd : FuncData} (F : Fun K "beside" "Web.beside" s_Web_beside f fd) (T : Txt K mg cc cw) (D_Web_bits_beside : MethOk P w K mg base (CX1 P w) 5 cw "bits_beside" ["self", "place"] (spBB cc cw)) (D_Web_names_in : MethOk P w K mg base CX0 2 cw "names_in" ["self", "bits"] (spNIn cw)) : FnOk P w K mg base (CX1 P w) 6 f fd ["self", "place"] (spBs cc cw) := by
  refine F.ok1 sc_Web_beside (fun vs H Q E h => ?_) fun cdv A outer s H vs Q E hr h => ?_
  · obtain ⟨p, k, x, ss, ns, v, rfl, _⟩ := h; rfl
  · obtain ⟨p, k, x, ss, ns, v, rfl, hW, hv, hz, q⟩ := h
    obtain ⟨dx, d, ol, n, hx, hd, ho, hn, hw⟩ := id hW
    refine ⟨_, (pss_one (ps_ret (pe_methQ D_Web_names_in (hm hr) (pv 0) (pa_cons (pe_methS D_Web_bits_beside (hm hr) xok_fn (pv 0) (pa_cons (pv 1) pa_nil)) pa_nil)))), ?_⟩
    walk_at "vc"
    refine ⟨x, dx, _, rfl, hx, lk_no (by decide +kernel), ?_⟩
    walk_at "vc"
    refine ⟨x, dx, _, rfl, hx, lk_no (by decide +kernel), ?_⟩
    walk_at "vc"
    refine ⟨p, k, x, ss, ns, v, rfl, hW, hv, hz, fun j gj hp H1 s1 => ?_⟩
    walk_at "vc"
    exact ⟨x, ss, ns, _, rfl, hW.same s1, q j gj hp H1 s1⟩
end
inductive Rch (ns : List Nat) (i : Nat) : Nat → Prop
  | base : Rch ns i i
  | step {a b : Nat} (h : Rch ns i a) (t : (ns.getD a 0).testBit b = true) : Rch ns i b
structure All2 {α β : Type} (R : α → β → Prop) (l : List α) (m : List β) : Prop where
  len : l.length = m.length
  at_ : ∀ (k : Nat) a b, l[k]? = some a → m[k]? = some b → R a b
theorem All2.nil {α β : Type} {R : α → β → Prop} : All2 R [] [] := ⟨rfl, fun k a b h => by simp at h⟩
theorem All2.mono {α β : Type} {R S : α → β → Prop} {l : List α} {m : List β} (h : All2 R l m) (f : ∀ a b, R a b → S a b) : All2 S l m := ⟨h.len, fun k a b x y => f a b (h.at_ k a b x y)⟩
theorem All2.snoc {α β : Type} {R : α → β → Prop} {l : List α} {m : List β} {x : α} {y : β} (h : All2 R l m) (r : R x y) : All2 R (l ++ [x]) (m ++ [y]) := by
  refine ⟨by rw [List.length_append, List.length_append, h.len]; rfl, fun k a b ha hb => ?_⟩
  by_cases hk : k < l.length
  · rw [List.getElem?_append_left hk] at ha
    rw [List.getElem?_append_left (by rw [← h.len]; exact hk)] at hb
    exact h.at_ k a b ha hb
  · rw [List.getElem?_append_right (by omega)] at ha
    rw [List.getElem?_append_right (by rw [← h.len]; omega)] at hb
    have h0 : k - l.length = 0 := by
      have := (List.getElem?_eq_some_iff.mp ha).1
      simp at this
      omega
    rw [← h.len] at hb
    rw [h0] at ha hb
    cases ha
    cases hb
    exact r
theorem All2.mem {α β : Type} {R : α → β → Prop} {l : List α} {m : List β} (h : All2 R l m) {x : α} (hx : x ∈ l) : ∃ y ∈ m, R x y := by
  obtain ⟨k, hk, e⟩ := List.getElem_of_mem hx
  have hk' : k < m.length := by rw [← h.len]; exact hk
  exact ⟨m[k], List.getElem_mem hk', h.at_ k x m[k] (by rw [List.getElem?_eq_getElem hk, e]) (List.getElem?_eq_getElem hk')⟩
open Classical in
theorem idx_at {ss : List Str} (hn : ss.Nodup) {i : Nat} {s : Str} (h : ss[i]? = some s) : ss.idxOf s = i := by
  have hm : s ∈ ss := List.mem_of_getElem? h
  have hl : ss.idxOf s < ss.length := List.idxOf_lt_length_of_mem hm
  exact nodup_inj hn (by rw [List.getElem?_eq_getElem hl, List.getElem_idxOf]) h
theorem inB_filter {ss : List Str} (hn : ss.Nodup) (b : Nat) : inB ss 0 b = ss.filter fun s => b.testBit (ss.idxOf s) := by
  have key : ∀ k, k ≤ ss.length → inB (ss.take k) 0 b = (ss.take k).filter fun s => b.testBit (ss.idxOf s) := fun k => by
    induction k with
    | zero => intro _; simp [inB]
    | succ k ih =>
      intro hk
      have gk : ss[k]? = some ss[k] := List.getElem?_eq_getElem (by omega)
      generalize ss[k] = sk at gk
      have htk : ss.take (k + 1) = ss.take k ++ [sk] := by rw [List.take_add_one, gk]; rfl
      have hln : (ss.take k).length = k := by rw [List.length_take]; omega
      rw [htk, inB_snoc, List.filter_append, ih (by omega), hln, Nat.zero_add]
      congr 1
      rw [List.filter_cons, List.filter_nil, idx_at hn gk]
  have := key ss.length (Nat.le_refl _)
  rwa [List.take_length] at this
section
variable {P : Program} {w : World} {K : W.Frag} {mg : Str → Option Value} {base : Heap} {cc : Nat → Addr} {cw : Addr}
end
/- Web.ties: calls [] -/
abbrev s_Web_ties : Stmt := inClass (top 15) 2
theorem sc_Web_ties : FnScope ["self", "ties", "one", "other"] ["self"] (defScope s_Web_ties) := ⟨rfl, rfl, rfl, by decide +kernel, rfl, by decide +kernel, by decide +kernel⟩
/- Web.told: calls [] -/
abbrev s_Web_told : Stmt := inClass (top 15) 11
theorem sc_Web_told : FnScope ["self"] ["self"] (defScope s_Web_told) := ⟨rfl, rfl, rfl, by decide +kernel, rfl, by decide +kernel, by decide +kernel⟩
theorem name_place {ss : List Str} {s : Str} (hs : s ∈ ss) (hn : nameS s = true) : placeV ss (.str s) = true := by
  unfold placeV
  rw [if_pos (show nameV (.str s) = true from hn)]
  exact decide_eq_true hs
theorem nameS_len {s : Str} (h : nameS s = true) : s.length ≤ 6 := (nameV_str (x := .str s) h).2.2
theorem inB_mem {ss : List Str} (hn : ss.Nodup) {b : Nat} {s : Str} (h : s ∈ inB ss 0 b) : s ∈ ss ∧ b.testBit (ss.idxOf s) = true := by
  rw [inB_filter hn] at h
  exact List.mem_filter.mp h
def tRow (ss : List Str) (ns : List Nat) (i : Nat) : List (Str × Str) := ((inB ss 0 (ns.getD i 0)).filter fun o => decide (i < ss.idxOf o)).map fun o => (ss.getD i "", o)
def tiesOf (ss : List Str) (ns : List Nat) (i : Nat) : List (Str × Str) := (List.range i).flatMap (tRow ss ns)
def PrAt (H H' : Hp) (l : Addr) (t : Addr) (ab : Str × Str) : Prop := H t = none ∧ t ≠ l ∧ H' t = some (.tup [.str ab.1, .str ab.2])
theorem PrAt.same {H H1 H2 : Hp} {l t : Addr} {ab : Str × Str} (h : PrAt H H1 l t ab) (s : L2.Same H1 H2) : PrAt H H2 l t ab := ⟨h.1, h.2.1, s _ _ h.2.2⟩
def spTs (cw : Addr) : Sp := fun vs H Q _ => ∃ (x : Addr) (ss : List Str) (ns : List Nat), vs = [.ref x] ∧ WebAt cw H x ss ns ∧
  ∀ (l : Addr) (ts : List Addr) (H' : Hp), L2.Same H H' → H l = none → H' l = some (.lst (ts.map V.ref)) → ts.length ≤ 196 → All2 (PrAt H H' l) ts (tiesOf ss ns ss.length) → Q (.ref l) H'
def spTold (cw : Addr) : Sp := fun vs H Q _ => ∃ (x : Addr) (ss : List Str) (ns : List Nat), vs = [.ref x] ∧ WebAt cw H x ss ns ∧
  ∀ (t t1 t2 l : Addr) (ts : List Addr) (H' : Hp), L2.Same H H' → H' t = some (.tup [.ref t1, .ref t2]) → H' t1 = some (.tup (ss.map V.str)) → H' t2 = some (.tup (ts.map V.ref)) → All2 (PrAt H H' l) ts (tiesOf ss ns ss.length) → Q (.ref t) H'
section
variable {P : Program} {w : World} {K : W.Frag} {mg : Str → Option Value} {base : Heap} {cc : Nat → Addr} {cw : Addr}
theorem ok_ts {f : Addr} {fd : FuncData} (F : Fun K "ties" "Web.ties" s_Web_ties f fd) (T : Txt K mg cc cw) (QD_Web_beside : MethOk P w K mg base CX0 6 cw "beside" ["self", "place"] (fun vs H Q _ => spBs cc cw vs H Q E0)) : FnOk P w K mg base CX0 7 f fd ["self"] (spTs cw) := by
  refine F.ok sc_Web_ties (fun vs H Q E h => ?_) fun cdv A outer s H vs Q E hr h => ?_
  · obtain ⟨x, ss, ns, rfl, _⟩ := h; rfl
  · obtain ⟨x, ss, ns, rfl, hW, q⟩ := h
    have hu := u100 hr
    obtain ⟨dx, d, ol, n, hx, hd, ho, hn, hw⟩ := id hW
    have few := hw.few
    have num : ∀ (H1 : Hp) (y : Str) (i : Nat), L2.Same H H1 → ss[i]? = some y → DGet H1 d (.str y) (some (.int (i : Nat))) := fun H1 y i s1 gi => by
      obtain ⟨j, hj, gj, vj⟩ := numK_some (i := 0) (List.mem_of_getElem? gi)
      rw [Nat.zero_add] at vj
      have hji : j = i := nodup_inj hw.nd gj gi
      subst hji
      have := DGet.k (k := Sum.inr y) (s1 _ _ hd)
      rw [vj] at this
      exact this
    refine ⟨_, (pss_cons (ps_set (i := 1) sc_Web_ties.nd rfl (Or.inl rfl) (pe_lst pa_nil))
  (pss_cons (ps_for PassesOwn.never rfl (ki_any (K := K) rfl (k_fldU (K := K) rfl (pv 0) rfl)) (pg_name (i := 2) sc_Web_ties.nd rfl (Or.inl rfl))
  (pss_one (ps_for PassesOwn.never rfl (ki_any (K := K) rfl (pe_methQ QD_Web_beside (hm hr) (pv 0) (pa_cons (pv 2) pa_nil))) (pg_name (i := 3) sc_Web_ties.nd rfl (Or.inl rfl))
  (pss_one (ps_if (pt_cmpR op_lt (pe_ix (k_ixU (K := K) rfl hu) (k_fldU (K := K) rfl (pv 0) rfl) (pv 2) (fun _ _ => rfl)) (pe_ix (k_ixU (K := K) rfl hu) (k_fldU (K := K) rfl (pv 0) rfl) (pv 3) (fun _ _ => rfl)) (nomark _)) (pss_one (ps_expr (k_bm (K := K) rfl PySem.F.plainAttrs_list PySem.F.slot_list_append PySem.F.type_list_append mtR_append (pv 1) (pa_cons (pe_tup (pa_cons (pv 2) (pa_cons (pv 3) pa_nil))) pa_nil)))) pss_nil)))))
  (pss_one (ps_ret (pv 1))))), ?_⟩
    walk_at "vc"
    refine ⟨by decide, fun l hl => ?_⟩
    have s0 := Snew (L2.Same.refl H) (o := .lst []) hl
    walk_at "vc"
    refine .inl ⟨x, cw, dx, _, .ref ol, rfl, s0 _ _ hx, T.wcl, T.wo, lk_order, ?_⟩
    refine .inl ⟨⟨_, SqL.of (s0 _ _ ho)⟩, for_list (K := K) (fun i σ H' => ∃ (ts : List Addr) (x2 x3 : Option V), σ = [some (.ref x), some (.ref l), x2, x3] ∧ L2.Same H H' ∧ H' l = some (.lst (ts.map V.ref)) ∧ ts.length ≤ i * 14 ∧ All2 (PrAt H H' l) ts (tiesOf ss ns i))
      ⟨[], none, none, rfl, s0, upd_same, by simp, All2.nil⟩ (fun i σ H' _ hp => by obtain ⟨_, _, _, _, z, _⟩ := hp; exact SqL.of (z _ _ ho)) (fun i y σ H1 hy hp => ?_) fun σ H1 hp => ?_⟩
    · obtain ⟨ts, x2, x3, rfl, s1, hl1, hlen, hall⟩ := hp
      have hi : i < ss.length := by simpa using (List.getElem?_eq_some_iff.mp hy).1
      have gi : ss[i]? = some ss[i] := List.getElem?_eq_getElem hi
      generalize ss[i] = sy at gi
      have ey : y = .str sy := by rw [List.getElem?_map, gi] at hy; cases hy; rfl
      subst ey
      have hny := hw.nm sy (List.mem_of_getElem? gi)
      walk_at "vc"
      refine ⟨x, dx, _, rfl, s1 _ _ hx, lk_no (by decide +kernel), ?_⟩
      walk_at "vc"
      refine ⟨x, 0, x, ss, ns, .str sy, rfl, hW.same s1, Th.flat rfl (fun z e => by cases e; have := nameS_len hny; omega), (fun h => by rw [name_place (List.mem_of_getElem? gi) hny] at h; cases h), fun j gj _ H2 s2 b hb => ?_⟩
      have hji : j = i := nodup_inj hw.nd gj gi
      subst hji
      have s3 := s1.trans s2
      have s4 := Snew s3 (o := .lst ((inB ss 0 (ns.getD j 0)).map V.str)) hb
      have s24 := Snew s2 (o := .lst ((inB ss 0 (ns.getD j 0)).map V.str)) hb
      have eb : upd H2 b (.lst ((inB ss 0 (ns.getD j 0)).map V.str)) b = some (.lst ((inB ss 0 (ns.getD j 0)).map V.str)) := upd_same
      have nbl : b ≠ l := fun e => by rw [e, s2 _ _ hl1] at hb; cases hb
      have hb0 : H b = none := s3.free hb
      refine .inl ⟨⟨_, SqL.of upd_same⟩, ?_⟩
      generalize upd H2 b (.lst ((inB ss 0 (ns.getD j 0)).map V.str)) = H3 at s4 s24 eb ⊢
      have hmem : ∀ o, o ∈ inB ss 0 (ns.getD j 0) → o ∈ ss := fun o h => (inB_mem hw.nd h).1
      have hbl := inB_len (ns.getD j 0) ss 0
      have edef : tRow ss ns j = ((inB ss 0 (ns.getD j 0)).filter fun o => decide (j < ss.idxOf o)).map fun o => (ss.getD j "", o) := rfl
      have egd : ss.getD j "" = sy := by simp [List.getD, gi]
      rw [egd] at edef
      generalize hbs : inB ss 0 (ns.getD j 0) = bs at eb hmem hbl edef ⊢
      refine for_list (K := K) (fun k σ H' => ∃ (us : List Addr) (x3 : Option V), σ = [some (.ref x), some (.ref l), some (.str sy), x3] ∧ L2.Same H H' ∧ H' b = some (.lst (bs.map V.str)) ∧ H' l = some (.lst (us.map V.ref)) ∧ us.length ≤ j * 14 + k ∧ All2 (PrAt H H' l) us (tiesOf ss ns j ++ ((bs.take k).filter fun o => decide (j < ss.idxOf o)).map fun o => (sy, o)))
        ⟨ts, _, rfl, s4, eb, s24 _ _ hl1, hlen, by simpa using hall.mono fun _ _ h => h.same s24⟩ (fun k σ H' _ hp => by obtain ⟨_, _, _, _, z, _⟩ := hp; exact SqL.of z) (fun k u σ H5 hu5 hp => ?_) fun σ H5 hp => ?_
      · obtain ⟨us, x3, rfl, s5, eb5, hl5, hlen5, hall5⟩ := hp
        have hk : k < bs.length := by simpa using (List.getElem?_eq_some_iff.mp hu5).1
        have gk : bs[k]? = some bs[k] := List.getElem?_eq_getElem hk
        generalize bs[k] = so at gk
        have eu : u = .str so := by rw [List.getElem?_map, gk] at hu5; cases hu5; rfl
        subst eu
        have hso := hmem so (List.mem_of_getElem? gk)
        have hil := List.idxOf_lt_length_of_mem hso
        have gso : ss[ss.idxOf so]? = some so := by rw [List.getElem?_eq_getElem hil, List.getElem_idxOf]
        have htk : bs.take (k + 1) = bs.take k ++ [so] := by rw [List.take_add_one, gk]; rfl
        walk_at "vc"
        refine .inl ⟨x, cw, dx, _, .ref d, rfl, s5 _ _ hx, T.wcl, T.wn, lk_numbers, ?_⟩
        walk_at "vc"
        refine .inr ⟨d, .int j, rfl, num H5 sy j s5 gi, ?_⟩
        walk_at "vc"
        refine .inl ⟨x, cw, dx, _, .ref d, rfl, s5 _ _ hx, T.wcl, T.wn, lk_numbers, ?_⟩
        walk_at "vc"
        refine .inr ⟨d, .int (ss.idxOf so : Nat), rfl, num H5 so _ s5 gso, ?_⟩
        walk_at "vc"
        refine ite2 (fun hlt => ?_) fun hlt => ?_
        · have hlt' : j < ss.idxOf so := by have := of_decide_eq_true hlt; omega
          walk_at "vc"
          refine ⟨.inl ⟨rfl, _, SqL.of hl5⟩, ?_⟩
          walk_at "vc"
          refine ⟨by show 2 ≤ sizeLine; decide, fun t ht => ?_⟩
          have nlt : l ≠ t := ne_of_none hl5 ht
          have nbt : b ≠ t := ne_of_none eb5 ht
          have s6 := Snew (L2.Same.refl H5) (o := .tup [.str sy, .str so]) ht
          walk_at "vc"
          refine ⟨l, _, _, rfl, rfl, by rw [upd_ne nlt]; exact hl5, by rw [List.length_map]; exact small1000 (by have : j * 14 ≤ 14 * 14 := Nat.mul_le_mul_right 14 (by omega); omega), ?_⟩
          refine ⟨us ++ [t], _, rfl, Supd (s5.trans s6) hl, by rw [upd_ne nbl, upd_ne nbt]; exact eb5, by rw [upd_same, List.map_append]; rfl, by rw [List.length_append]; show us.length + 1 ≤ _; omega, ?_⟩
          rw [htk, List.filter_append, List.map_append, ← List.append_assoc]
          have e1 : ([so].filter fun o => decide (j < ss.idxOf o)).map (fun o => (sy, o)) = [(sy, so)] := by simp [hlt']
          rw [e1]
          refine All2.snoc (hall5.mono fun t' ab h => ⟨h.1, h.2.1, ?_⟩) ⟨s5.free ht, nlt.symm, ?_⟩
          · rw [upd_ne h.2.1]
            exact s6 _ _ h.2.2
          · rw [upd_ne nlt.symm, upd_same]
        · have hlt' : ¬ j < ss.idxOf so := fun h => hlt (decide_eq_true (by omega))
          refine ⟨us, _, rfl, s5, eb5, hl5, by omega, ?_⟩
          have e1 : ([so].filter fun o => decide (j < ss.idxOf o)).map (fun o => (sy, o)) = [] := by simp [hlt']
          rw [htk, List.filter_append, List.map_append, e1, List.append_nil]
          exact hall5
      · obtain ⟨us, x3, rfl, s5, eb5, hl5, hlen5, hall5⟩ := hp
        rw [List.length_map, List.take_length] at hall5
        rw [List.length_map] at hlen5
        refine ⟨us, _, _, rfl, s5, hl5, by omega, ?_⟩
        unfold tiesOf at hall5 ⊢
        rw [List.range_succ, List.flatMap_append]
        have e1 : [j].flatMap (tRow ss ns) = (bs.filter fun o => decide (j < ss.idxOf o)).map fun o => (sy, o) := by rw [← edef]; simp
        rw [e1]
        exact hall5
    · obtain ⟨ts, x2, x3, rfl, s1, hl1, hlen, hall⟩ := hp
      rw [List.length_map] at hlen hall
      walk_at "vc"
      exact q l ts H1 s1 hl hl1 (by have : ss.length * 14 ≤ 14 * 14 := Nat.mul_le_mul_right 14 few; omega) hall
theorem ok_told {f : Addr} {fd : FuncData} (F : Fun K "told" "Web.told" s_Web_told f fd) (T : Txt K mg cc cw) (D_Web_ties : MethOk P w K mg base CX0 7 cw "ties" ["self"] (spTs cw)) : FnOk P w K mg base CX0 8 f fd ["self"] (spTold cw) := by
  refine F.ok sc_Web_told (fun vs H Q E h => ?_) fun cdv A outer s H vs Q E hr h => ?_
  · obtain ⟨x, ss, ns, rfl, _⟩ := h; rfl
  · obtain ⟨x, ss, ns, rfl, hW, q⟩ := h
    obtain ⟨dx, d, ol, n, hx, hd, ho, hn, hw⟩ := id hW
    refine ⟨_, (pss_one (ps_ret (pe_tup (pa_cons (pe_callTy (k_tupleU (K := K) rfl) rfl T.b_tuple boot_tuple (pa_cons (k_fldU (K := K) rfl (pv 0) rfl) pa_nil)) (pa_cons (pe_callTy (k_tupleU (K := K) rfl) rfl T.b_tuple boot_tuple (pa_cons (pe_meth0Q D_Web_ties (hm hr) (pv 0)) pa_nil)) pa_nil))))), ?_⟩
    walk_at "vc"
    refine .inl ⟨x, cw, dx, _, .ref ol, rfl, hx, T.wcl, T.wo, lk_order, ?_⟩
    walk_at "vc"
    refine ⟨ol, _, rfl, .inl ⟨SqL.of ho, fun t1 h1 => ?_⟩⟩
    have s1 := Snew (L2.Same.refl H) (o := .tup (ss.map V.str)) h1
    have e1 : upd H t1 (.tup (ss.map V.str)) t1 = some (.tup (ss.map V.str)) := upd_same
    generalize upd H t1 (.tup (ss.map V.str)) = H1 at s1 e1 ⊢
    walk_at "vc"
    refine ⟨x, dx, _, rfl, s1 _ _ hx, lk_no (by decide +kernel), ?_⟩
    walk_at "vc"
    refine ⟨x, ss, ns, rfl, hW.same s1, fun l ts H2 s2 hl0 hl hts hall => ?_⟩
    walk_at "vc"
    refine ⟨l, _, rfl, .inl ⟨SqL.of hl, fun t2 h2 => ?_⟩⟩
    have s3 := Snew (L2.Same.refl H2) (o := .tup (ts.map V.ref)) h2
    have e2 : upd H2 t2 (.tup (ts.map V.ref)) t2 = some (.tup (ts.map V.ref)) := upd_same
    generalize upd H2 t2 (.tup (ts.map V.ref)) = H3 at s3 e2 ⊢
    walk_at "vc"
    refine ⟨by show 2 ≤ sizeLine; decide, fun t ht => ?_⟩
    have s4 := Snew (L2.Same.refl H3) (o := .tup [.ref t1, .ref t2]) ht
    exact q t t1 t2 l ts _ ((s1.trans s2).trans (s3.trans s4)) upd_same (s4 _ _ (s3 _ _ (s2 _ _ e1))) (s4 _ _ e2) (hall.mono fun t' ab h => ⟨s1.free h.1, h.2.1, s4 _ _ (s3 _ _ h.2.2)⟩)
end
/- _law_cell: calls []; cells [] -/
abbrev s_l_cell : Stmt := top 27
theorem sc_l_cell : FnScope ["_law_script", "_law_k"] ["_law_script", "_law_k"] (defScope s_l_cell) := ⟨rfl, rfl, rfl, by decide +kernel, rfl, by decide +kernel, by decide +kernel⟩
/- _law_box: calls []; cells [] -/
abbrev s_l_box : Stmt := top 28
theorem sc_l_box : FnScope ["_law_cell_here"] ["_law_cell_here"] (defScope s_l_box) := ⟨rfl, rfl, rfl, by decide +kernel, rfl, by decide +kernel, by decide +kernel⟩
/- _law_take: calls []; cells [] -/
abbrev s_l_take : Stmt := top 29
theorem sc_l_take : FnScope ["_law_box_here", "_law_many", "_law_number"] ["_law_box_here", "_law_many"] (defScope s_l_take) := ⟨rfl, rfl, rfl, by decide +kernel, rfl, by decide +kernel, by decide +kernel⟩
/- _law_fresh: calls []; cells ['_law_names_here'] -/
def Box (H : Hp) (p : Addr) : Prop := ∃ a b c : Int, H p = some (.lst [.int a, .int b, .int c])
def BB (p : Addr) (H H' : Hp) : Prop := (∀ b o, b ≠ p → H b = some o → H' b = some o) ∧ Box H' p
theorem BB.refl {p : Addr} {H : Hp} (h : Box H p) : BB p H H := ⟨fun _ _ _ e => e, h⟩
theorem BB.trans {p : Addr} {H H1 H2 : Hp} (a : BB p H H1) (b : BB p H1 H2) : BB p H H2 := ⟨fun c o n e => b.1 c o n (a.1 c o n e), b.2⟩
theorem BB.new {p l : Addr} {H H1 : Hp} {o : HO} (a : BB p H H1) (hl : H1 l = none) : BB p H (upd H1 l o) := by
  obtain ⟨x, y, z, hp⟩ := a.2
  refine ⟨fun c u n e => ?_, x, y, z, ?_⟩
  · have q := a.1 c u n e
    rw [upd_ne (ne_of_none q hl)]
    exact q
  · rw [upd_ne (ne_of_none hp hl)]
    exact hp
def spTake : Sp := fun vs H Q _ => ∃ (p : Addr) (m : Int), vs = [.ref p, .int m] ∧ Box H p ∧ 0 < m ∧ m < 1073741824 ∧ ∀ (r : Int) (H' : Hp), 0 ≤ r → r < m → BB p H H' → Q (.int r) H'
section
variable {P : Program} {w : World} {K : W.Frag} {mg : Str → Option Value} {base : Heap} {cc : Nat → Addr} {cw : Addr}
theorem ok_take {f : Addr} {fd : FuncData} (F : Fun K "_law_take" "_law_take" s_l_take f fd) : FnOk P w K mg base CX0 1 f fd ["_law_box_here", "_law_many"] spTake := by
  refine F.ok sc_l_take (fun vs H Q E h => ?_) fun cdv A outer s H vs Q E hr h => ?_
  · obtain ⟨p, m, rfl, _⟩ := h; rfl
  · obtain ⟨p, m, rfl, ⟨a, b, c, hp⟩, h0, h1, k⟩ := h
    have hu := u100 hr
    refine ⟨_, (pss_cons (ps_if (pt_cmpR op_gt (pe_ix (k_ixU (K := K) rfl hu) (pv 0) pe_int (fun _ _ => rfl)) pe_int (nomark _)) (pss_cons (ps_set (i := 2) sc_l_take.nd rfl (Or.inl rfl) (pe_op op_mod (pe_ix (k_ixU (K := K) rfl hu) (pv 0) pe_int (fun _ _ => rfl)) (pv 1)))
  (pss_cons (ps_asg (pe_op op_fdiv (pe_ix (k_ixU (K := K) rfl hu) (pv 0) pe_int (fun _ _ => rfl)) (pv 1)) (pg_sub (pv 0) pe_int (k_setU hu)))
  (pss_one (ps_ret (pv 2))))) pss_nil)
  (pss_cons (ps_asg (pe_op (k_add (K := K) rfl) (pe_ix (k_ixU (K := K) rfl hu) (pv 0) pe_int (fun _ _ => rfl)) pe_int) (pg_sub (pv 0) pe_int (k_setU hu)))
  (pss_cons (ps_set (i := 2) sc_l_take.nd rfl (Or.inl rfl) (pe_op op_mod (pe_op (k_add (K := K) rfl) (pe_op (k_add (K := K) rfl) (pe_op u_mul (pe_ix (k_ixU (K := K) rfl hu) (pv 0) pe_int (fun _ _ => rfl)) pe_int) (pe_op u_mul pe_int (pe_ix (k_ixU (K := K) rfl hu) (pv 0) pe_int (fun _ _ => rfl)))) pe_int) pe_int))
  (pss_cons (ps_set (i := 2) sc_l_take.nd rfl (Or.inl rfl) (pe_op op_mod (pe_op (k_add (K := K) rfl) (pe_op (k_add (K := K) rfl) (pe_op u_mul (pv 2) (pv 2)) (pe_op u_mul pe_int (pe_ix (k_ixU (K := K) rfl hu) (pv 0) pe_int (fun _ _ => rfl)))) pe_int) pe_int))
  (pss_one (ps_ret (pe_op op_mod (pe_op op_mod (pe_op u_mul (pv 2) (pe_op (k_add (K := K) rfl) (pv 2) pe_int)) pe_int) (pv 1)))))))), ?_⟩
    walk_at "vc"
    refine .inl (vIxL hp rfl ?_)
    walk_at "vc"
    refine ite2 (fun hc => ?_) (fun hc => ?_)
    · walk_at "vc"
      refine .inl (vIxL hp rfl ?_)
      walk_at "vc"
      refine vI h0 ?_
      walk_at "vc"
      refine .inl (vIxL hp rfl ?_)
      walk_at "vc"
      refine vI ⟨h0, h1⟩ ?_
      walk_at "vc"
      refine .inl (vSetL hp rfl ?_)
      walk_at "vc"
      exact k _ _ (Int.emod_nonneg _ (by omega)) (Int.emod_lt_of_pos _ h0) ⟨fun x o n e => by rw [upd_ne n]; exact e, _, _, _, upd_same⟩
    · walk_at "vc"
      refine .inl (vIxL hp rfl ?_)
      walk_at "vc"
      refine .inl (vSetL hp rfl ?_)
      walk_at "vc"
      refine .inl (vIxL upd_same rfl ?_)
      walk_at "vc"
      refine vMulI (.inr (by decide)) ?_
      walk_at "vc"
      refine .inl (vIxL upd_same rfl ?_)
      walk_at "vc"
      refine vMulI (.inl (by decide)) ?_
      walk_at "vc"
      refine vI (by decide) ?_
      walk_at "vc"
      have e1 := Int.emod_nonneg (b * 48271 + 7919 * (c + 1) + 101) (show (2147483647 : Int) ≠ 0 by decide)
      have e2 := Int.emod_lt_of_pos (b * 48271 + 7919 * (c + 1) + 101) (show (0 : Int) < 2147483647 by decide)
      refine vMulI (.inl ⟨by omega, by omega⟩) ?_
      walk_at "vc"
      refine .inl (vIxL upd_same rfl ?_)
      walk_at "vc"
      refine vMulI (.inl (by decide)) ?_
      walk_at "vc"
      refine vI (by decide) ?_
      walk_at "vc"
      generalize ((b * 48271 + 7919 * (c + 1) + 101) % 2147483647 * ((b * 48271 + 7919 * (c + 1) + 101) % 2147483647) + 104729 * (c + 1) + 7) = z
      have e3 := Int.emod_nonneg z (show (2147483629 : Int) ≠ 0 by decide)
      have e4 := Int.emod_lt_of_pos z (show (0 : Int) < 2147483629 by decide)
      refine vMulI (.inl ⟨by omega, by omega⟩) ?_
      walk_at "vc"
      refine vI (by decide) ?_
      walk_at "vc"
      refine vI h0 ?_
      exact k _ _ (Int.emod_nonneg _ (by omega)) (Int.emod_lt_of_pos _ h0) ⟨fun x o n e => by rw [upd_ne n]; exact e, _, _, _, upd_same⟩
def spCell (K : W.Frag) : Sp := fun vs H Q _ => ∃ (a : Addr) (ns : List Int) (k : Int), vs = [.ref a, .int k] ∧ SqL K H a (ns.map V.int) ∧ 0 ≤ k ∧ k < 1000 ∧ ∀ i : Int, Q (.int i) H
theorem ok_cell {f : Addr} {fd : FuncData} (F : Fun K "_law_cell" "_law_cell" s_l_cell f fd) (T : Txt K mg cc cw) : FnOk P w K mg base CX0 1 f fd ["_law_script", "_law_k"] (spCell K) := by
  refine F.ok sc_l_cell (fun vs H Q E h => ?_) fun cdv A outer s H vs Q E hr h => ?_
  · obtain ⟨a, ns, k, rfl, _⟩ := h; rfl
  · obtain ⟨a, ns, k, rfl, hS, h0, h1, q⟩ := h
    have hu := u100 hr
    refine ⟨_, (pss_cons (ps_if (pt_cmpR op_lt (pv 1) (pe_callB (k_len (K := K) rfl) rfl T.b_len boot_len (pa_cons (pv 0) pa_nil)) (nomark _)) (pss_one (ps_ret (pe_ix (k_ixU (K := K) rfl hu) (pv 0) (pv 1) (fun _ _ => rfl)))) pss_nil)
  (pss_one (ps_ret (pe_op (k_add (K := K) rfl) (pe_op u_mul pe_int (pv 1)) pe_int)))), ?_⟩
    walk_at "vc"
    refine vLenLs hS ?_
    walk_at "vc"
    refine ite2 (fun hc => ?_) (fun hc => ?_)
    · walk_at "vc"
      have hc' : k < (ns.map V.int).length := of_decide_eq_true hc
      obtain ⟨v, e1, e2⟩ := atI_lt h0 hc'
      rw [List.getElem?_map] at e2
      cases e3 : ns[k.toNat]? with
      | none => rw [e3] at e2; cases e2
      | some i =>
        rw [e3] at e2
        cases e2
        exact .inl (vIxLs hS e1 (q i))
    · walk_at "vc"
      refine vMulI (.inl (by decide)) ?_
      walk_at "vc"
      exact q _
def spBox : Sp := fun vs H Q _ => ∃ i : Int, vs = [.int i] ∧ ∀ (p : Addr) (a b c : Int), H p = none → Q (.ref p) (upd H p (.lst [.int a, .int b, .int c]))
theorem ok_box {f : Addr} {fd : FuncData} (F : Fun K "_law_box" "_law_box" s_l_box f fd) : FnOk P w K mg base CX0 1 f fd ["_law_cell_here"] spBox := by
  refine F.ok sc_l_box (fun vs H Q E h => ?_) fun cdv A outer s H vs Q E hr h => ?_
  · obtain ⟨i, rfl, _⟩ := h; rfl
  · obtain ⟨i, rfl, q⟩ := h
    have hu := u100 hr
    refine ⟨_, (pss_cons (ps_if (pt_cmpR op_ge (pv 0) (pe_op op_pow pe_int pe_int) (nomark _)) (pss_one (ps_ret (pe_lst (pa_cons (pv 0) (pa_cons (pe_op op_mod (pv 0) pe_int) (pa_cons pe_int pa_nil)))))) pss_nil)
  (pss_one (ps_ret (pe_lst (pa_cons pe_int (pa_cons (pe_op op_mod (pv 0) pe_int) (pa_cons pe_int pa_nil))))))), ?_⟩
    walk_at "vc"
    refine vI ⟨by decide, by decide, by decide⟩ ?_
    walk_at "vc"
    refine ite2 (fun hc => ?_) (fun hc => ?_)
    · walk_at "vc"
      refine vI (by decide) ?_
      walk_at "vc"
      exact ⟨by show 3 ≤ sizeLine; decide, fun p hp => q p _ _ _ hp⟩
    · walk_at "vc"
      refine vI (by decide) ?_
      walk_at "vc"
      exact ⟨by show 3 ≤ sizeLine; decide, fun p hp => q p _ _ _ hp⟩
theorem BB.apart {p l : Addr} {H H1 : Hp} (a : BB p H H1) (hl : H1 l = none) : l ≠ p := fun e => by subst e; obtain ⟨_, _, _, z⟩ := a.2; rw [z] at hl; cases hl
theorem BB.free {p l : Addr} {H H1 : Hp} (a : BB p H H1) (hl : H1 l = none) : H l = none := by
  cases q : H l with
  | none => rfl
  | some o => rw [a.1 l o (a.apart hl) q] at hl; cases hl
theorem BB.put {p l : Addr} {H H1 : Hp} {o : HO} (a : BB p H H1) (hl : H l = none) (np : l ≠ p) : BB p H (upd H1 l o) := by
  obtain ⟨x, y, z, hp⟩ := a.2
  exact ⟨fun c u n e => by rw [upd_ne (ne_of_none e hl)]; exact a.1 c u n e, x, y, z, by rw [upd_ne np.symm]; exact hp⟩
theorem BB.same {p : Addr} {H H1 H2 : Hp} (a : BB p H H1) (s : L2.Same H1 H2) : BB p H H2 := by
  obtain ⟨x, y, z, hp⟩ := a.2
  exact ⟨fun c u n e => s c u (a.1 c u n e), x, y, z, s _ _ hp⟩
theorem Box.apart {p l : Addr} {H : Hp} (h : Box H p) (hl : H l = none) : l ≠ p := (BB.refl h).apart hl
def NewH (H H' : Hp) : Hp := fun a => match H a with | none => H' a | some _ => none
theorem inV_str (c : Str) (ss : List Str) : inV (.str c) (ss.map V.str) = decide (c ∈ ss) := by
  unfold inV
  rw [List.any_map, Bool.eq_iff_iff, List.any_eq_true, decide_eq_true_iff]
  constructor
  · rintro ⟨y, hy, e⟩
    have : y = c := eq_of_beq e
    rw [← this]; exact hy
  · intro h
    exact ⟨c, h, beq_self_eq_true c⟩
theorem flat_strs (ss : List Str) : (ss.map V.str).all flatV = true := by rw [List.all_map]; exact List.all_eq_true.mpr fun _ _ => rfl
def signs : List Str := ("abcdefghijklmno" : Str).cps.toList.map fun c => ⟨#[c]⟩
theorem signs_len : signs.length = 15 := by decide +kernel
end
/- _law_names: calls ['_law_take']; cells ['_law_box_here', '_law_letters', '_law_shift', '_law_stem', '_law_step'] -/
abbrev s_l_names : Stmt := top 30
theorem sc_l_names : FnScope ["_law_box_here", "_law_many", "_law_letters", "_law_way", "_law_shift", "_law_step", "_law_stem", "_law_ahead", "_law_names_here", "_law_k", "_law_name"] ["_law_box_here", "_law_many"] (defScope s_l_names) := ⟨rfl, rfl, rfl, by decide +kernel, rfl, by decide +kernel, by decide +kernel⟩
theorem slice_ix (k n : Nat) : Builtin.Str.strSliceIndices none (some (k : Int)) 1 n = List.range (min k n) := by
  unfold Builtin.Str.strSliceIndices sliceRange
  simp only [show (1 : Int) > 0 by decide, if_true]
  rw [if_neg (show ¬ ((k : Int) < 0) by omega)]
  have e1 : max 0 (min (k : Int) n) = ((min k n : Nat) : Int) := by omega
  rw [e1]
  have e2 : (fun (j : Nat) => ((0 : Int) + 1 * (j : Int)).toNat) = id := by funext j; show _ = j; omega
  rw [e2, List.map_id]
  congr 1
  split
  · rw [Int.ediv_one]; omega
  · omega
theorem fm_take (a : Array Nat) : ∀ m, m ≤ a.size → (List.range m).filterMap (a[·]?) = a.toList.take m
  | 0, _ => rfl
  | m + 1, h => by
    rw [List.range_succ, List.filterMap_append, fm_take a m (by omega), List.take_add_one]
    congr 1
    have e : a[m]? = some a[m] := Array.getElem?_eq_getElem (by omega)
    have e' : a.toList[m]? = some a[m] := by rw [Array.getElem?_toList]; exact e
    rw [e', List.filterMap_cons, e]
    rfl
theorem slice_take (z : Str) (k : Nat) : (Txt.slice z none (some (k : Int))).cps.toList = z.cps.toList.take k := by
  unfold Txt.slice
  rw [slice_ix]
  have hz : z.length = z.cps.toList.length := by simp [Str.length]
  split
  · rename_i h
    rw [List.length_range] at h
    have : min k z.length = z.length := by simpa using h
    rw [List.take_of_length_le (by omega)]
  · show (List.filterMap _ _).toArray.toList = _
    rw [fm_take z.cps (min k z.length) (Nat.min_le_right _ _)]
    show z.cps.toList.take (min k z.length) = _
    by_cases hk : k ≤ z.length
    · rw [Nat.min_eq_left hk]
    · rw [Nat.min_eq_right (by omega), List.take_of_length_le (by omega), List.take_of_length_le (by omega)]
theorem app_list (a b : Str) : (a ++ b).cps.toList = a.cps.toList ++ b.cps.toList := by
  show (a.cps ++ b.cps).toList = _
  exact Array.toList_append
theorem join_all : ∀ {xs : List Str}, (∀ x ∈ xs, x.cps.toList.all sg = true) → (Str.join "" xs).cps.toList.all sg = true
  | [], _ => rfl
  | [x], h => h x (by simp)
  | x :: y :: r, h => by
    have e : Str.join "" (x :: y :: r) = x ++ "" ++ Str.join "" (y :: r) := rfl
    rw [e, app_list, app_list, List.all_append, List.all_append, h x (by simp), join_all fun z hz => h z (List.mem_cons_of_mem _ hz)]
    decide +kernel
theorem sg_of {c : Nat} (h : 97 ≤ c) (h2 : c ≤ 122) : sg c = true := by
  have key : ∀ i, i < 26 → sg (97 + i) = true := by decide +kernel
  have := key (c - 97) (by omega)
  rwa [show 97 + (c - 97) = c by omega] at this
theorem join_len {xs : List Str} (h : ∀ x ∈ xs, x.length = 1) : (Txt.join "" xs).length = xs.length := by
  have e : Txt.join "" xs = Str.join "" xs := beq_iff_eq.mp (join_plain_closes "" xs)
  rw [e]
  cases xs with
  | nil => rfl
  | cons a l =>
    rw [len_join_cons]
    have key : ∀ l : List Str, (∀ x ∈ l, x.length = 1) → (l.map (·.length)).sum = l.length := by
      intro l
      induction l with
      | nil => intro _; rfl
      | cons a l ih =>
        intro h
        rw [List.map_cons, List.sum_cons, h a List.mem_cons_self, ih fun x hx => h x (List.mem_cons_of_mem _ hx), List.length_cons]
        omega
    have z : ("" : Str).length = 0 := by decide +kernel
    rw [key _ h, z]
    omega
theorem sum_ones {xs : List Str} (h : ∀ x ∈ xs, x.length = 1) : (xs.map (·.length)).sum = xs.length := by
  induction xs with
  | nil => rfl
  | cons a l ih =>
    rw [List.map_cons, List.sum_cons, h a List.mem_cons_self, ih fun x hx => h x (List.mem_cons_of_mem _ hx), List.length_cons]
    omega
def Signs (p : Addr) (H : Hp) (i : Nat) (ys : List V) (H' : Hp) : Prop := BB p H H' ∧ ∃ xs : List Str, ys = xs.map V.str ∧ xs.length = i ∧ ∀ x ∈ xs, x.length = 1 ∧ x.cps.toList.all sg = true
theorem Signs.start {p : Addr} {H : Hp} (h : Box H p) : Signs p H 0 [] H := ⟨BB.refl h, [], rfl, rfl, fun _ h => by cases h⟩
theorem Signs.more {p : Addr} {H H1 H2 : Hp} {i : Nat} {ys : List V} {c : Nat} (h : Signs p H i ys H1) (b : BB p H1 H2) (hc : sg c = true) : Signs p H (i + 1) (ys ++ [.str ⟨#[c]⟩]) H2 := by
  obtain ⟨hb, xs, rfl, hl, h1⟩ := h
  refine ⟨hb.trans b, xs ++ [⟨#[c]⟩], by rw [List.map_append]; rfl, by rw [List.length_append, hl]; rfl, fun x hx => ?_⟩
  rcases List.mem_append.mp hx with z | z
  · exact h1 x z
  · rw [List.mem_singleton.mp z]; exact ⟨rfl, by simp [hc]⟩
theorem Signs.len {p : Addr} {H H1 : Hp} {i : Nat} {ys : List V} (h : Signs p H i ys H1) : ys.length = i := by
  obtain ⟨_, xs, rfl, hl, _⟩ := h
  rw [List.length_map, hl]
def L26 : Str := "abcdefghijklmnopqrstuvwxyz"
theorem L26_at {i : Int} (h0 : 0 ≤ i) (h1 : i < 26) : atI L26.cps.toList i = some (97 + i.toNat) := by
  obtain ⟨n, rfl⟩ := Int.eq_ofNat_of_zero_le h0
  have key : ∀ n, n < 26 → L26.cps.toList[n]? = some (97 + n) := by decide +kernel
  rw [Int.toNat_natCast]
  exact atI_nat (key n (by omega))
theorem nameS_of {x : Str} {l : List Nat} (e : x.cps.toList = l) (h1 : 1 ≤ l.length) (h6 : l.length ≤ 6) (h : l.all sg = true) : nameS x = true := by
  have hl : x.length = l.length := by rw [← e]; simp [Str.length]
  unfold nameS
  rw [if_pos ⟨by omega, by omega⟩, e]
  exact h
theorem nodup_key {ss : List Str} (h : ∀ (i j : Nat) (s : Str), ss[i]? = some s → ss[j]? = some s → i = j) : ss.Nodup := by
  refine List.pairwise_iff_getElem.mpr fun i j hi hj hij e => ?_
  have := h i j ss[j] (by rw [List.getElem?_eq_getElem hi, e]) (List.getElem?_eq_getElem hj)
  omega
theorem step_inj {step sh a b : Int} (hs : step ∈ [(1 : Int), 3, 5, 7, 9, 11, 15, 25]) (ha : 0 ≤ a) (hb : 0 ≤ b) (ha' : a < 26) (hb' : b < 26) (e : (sh + step * a) % 26 = (sh + step * b) % 26) : a = b := by
  simp only [List.mem_cons, List.not_mem_nil, or_false] at hs
  rcases hs with rfl | rfl | rfl | rfl | rfl | rfl | rfl | rfl <;> omega
def NL (p : Addr) (H' : Hp) (l : Addr) (ss : List Str) : Prop := H' l = some (.lst (ss.map V.str)) ∧ l ≠ p
structure NOk (ss : List Str) : Prop where
  few : ss.length ≤ 14
  nd : ss.Nodup
  nm : ∀ s ∈ ss, nameS s = true
def spNames : Sp := fun vs H Q _ => ∃ (p : Addr) (m : Int), vs = [.ref p, .int m] ∧ Box H p ∧ 0 ≤ m ∧ m ≤ 14 ∧ ∀ (l : Addr) (ss : List Str) (H' : Hp), BB p H H' → H l = none → NL p H' l ss → NOk ss → Q (.ref l) H'
section
variable {P : Program} {w : World} {K : W.Frag} {mg : Str → Option Value} {base : Heap} {cc : Nat → Addr} {cw : Addr}
theorem ok_names {f : Addr} {fd : FuncData} (F : Fun K "_law_names" "_law_names" s_l_names f fd) (T : Txt K mg cc cw) (D_l_take : DefOk P w K mg base CX0 1 "_law_take" ["_law_box_here", "_law_many"] spTake) : FnOk P w K mg base CX0 2 f fd ["_law_box_here", "_law_many"] spNames := by
  refine F.ok sc_l_names (fun vs H Q E h => ?_) fun cdv A outer s H vs Q E hr h => ?_
  · obtain ⟨p, m, rfl, _⟩ := h; rfl
  · obtain ⟨p, m, rfl, hB, m0, m14, q⟩ := h
    have hu := u100 hr
    refine ⟨_, (pss_cons (ps_set (i := 2) sc_l_names.nd rfl (Or.inr rfl) pe_str)
  (pss_cons (ps_set (i := 3) sc_l_names.nd rfl (Or.inl rfl) (pe_def D_l_take (hm hr) pass0 (pa_cons (pv 0) (pa_cons pe_int pa_nil))))
  (pss_cons (ps_set (i := 4) sc_l_names.nd rfl (Or.inr rfl) (pe_def D_l_take (hm hr) pass0 (pa_cons (pv 0) (pa_cons pe_int pa_nil))))
  (pss_cons (ps_set (i := 5) sc_l_names.nd rfl (Or.inr rfl) (pe_ix (k_ixU (K := K) rfl hu) (pe_lst (pa_cons pe_int (pa_cons pe_int (pa_cons pe_int (pa_cons pe_int (pa_cons pe_int (pa_cons pe_int (pa_cons pe_int (pa_cons pe_int pa_nil))))))))) (pe_def D_l_take (hm hr) pass0 (pa_cons (pv 0) (pa_cons pe_int pa_nil))) (fun _ _ => rfl)))
  (pss_cons (ps_set (i := 6) sc_l_names.nd rfl (Or.inr rfl) (k_bm (K := K) rfl PySem.F.plainAttrs_str PySem.F.slot_str_join PySem.F.type_str_join (k_join (K := K) rfl) pe_str (pa_cons (pe_comp (sc := defScope s_l_names) (XN := ["_law_box_here", "_law_many", "_law_letters", "_law_way", "_law_shift", "_law_step", "_law_stem", "_law_ahead", "_law_names_here", "_law_k", "_law_name"]) ["_law_k", "_law_letters", "_law_box_here"] 1 [2, 0] rfl rfl rfl (by decide +kernel) rfl (by decide +kernel)
   (pi_range1 rfl T.b_range (pa_cons pe_int pa_nil)) (fun _ _ _ _ => (pg_name (i := 0) (show (["_law_k", "_law_letters", "_law_box_here"] : List Str).Nodup by decide +kernel) rfl (Or.inl rfl))) gk_name
   (fun _ _ _ _ => pifs_nil)
   (fun _ _ _ _ => (pe_ix (k_ixU (K := K) rfl hu) (pv 1) (pe_def D_l_take (hm hr) pass0 (pa_cons (pv 2) (pa_cons pe_int pa_nil))) (fun _ _ => rfl)))) pa_nil)))
  (pss_cons (ps_if (pt_cmpR (k_eqZ (K := K) rfl hu) (pv 3) pe_int (nomark _)) (pss_one (ps_ret (pe_comp (sc := defScope s_l_names) (XN := ["_law_box_here", "_law_many", "_law_letters", "_law_way", "_law_shift", "_law_step", "_law_stem", "_law_ahead", "_law_names_here", "_law_k", "_law_name"]) ["_law_k", "_law_letters", "_law_stem", "_law_shift", "_law_step"] 1 [2, 6, 4, 5] rfl rfl rfl (by decide +kernel) rfl (by decide +kernel)
   (pi_range1 rfl T.b_range (pa_cons (pv 1) pa_nil)) (fun _ _ _ _ => (pg_name (i := 0) (show (["_law_k", "_law_letters", "_law_stem", "_law_shift", "_law_step"] : List Str).Nodup by decide +kernel) rfl (Or.inl rfl))) gk_name
   (fun _ _ _ _ => pifs_nil)
   (fun _ _ _ _ => (pe_op (k_add (K := K) rfl) (pe_ix (k_ixU (K := K) rfl hu) (pv 1) (pe_op op_mod (pe_op (k_add (K := K) rfl) (pv 3) (pe_op u_mul (pv 4) (pe_op op_fdiv (pv 0) pe_int))) pe_int) (fun _ _ => rfl)) (pe_slice (k_sl (K := K) rfl) (pv 2) po_none (po_some (pe_op op_mod (pv 0) pe_int)))))))) pss_nil)
  (pss_cons (ps_set (i := 7) sc_l_names.nd rfl (Or.inl rfl) (pe_def D_l_take (hm hr) pass0 (pa_cons (pv 0) (pa_cons pe_int pa_nil))))
  (pss_cons (ps_set (i := 8) sc_l_names.nd rfl (Or.inl rfl) (pe_lst pa_nil))
  (pss_cons (ps_for PassesOwn.never rfl (pi_range1 rfl T.b_range (pa_cons (pv 1) pa_nil)) (pg_name (i := 9) sc_l_names.nd rfl (Or.inl rfl))
  (pss_cons (ps_set (i := 10) sc_l_names.nd rfl (Or.inl rfl) (pe_op (k_add (K := K) rfl) (pe_slice (k_sl (K := K) rfl) (pv 6) po_none (po_some (pv 7))) (pe_ix (k_ixU (K := K) rfl hu) (pv 2) (pe_op op_mod (pe_op (k_add (K := K) rfl) (pv 4) (pe_op u_mul (pv 5) (pv 9))) pe_int) (fun _ _ => rfl))))
  (pss_one (ps_expr (k_bm (K := K) rfl PySem.F.plainAttrs_list PySem.F.slot_list_append PySem.F.type_list_append mtR_append (pv 8) (pa_cons (pe_op (k_add (K := K) rfl) (pv 10) (pe_slice (k_sl (K := K) rfl) (pv 6) po_none (po_some (pe_op u_mul (pe_def D_l_take (hm hr) pass0 (pa_cons (pv 0) (pa_cons (pe_op op_sub pe_int (pv 7)) pa_nil))) (pe_op op_sub (pv 3) pe_int))))) pa_nil))))))
  (pss_one (ps_ret (pv 8)))))))))))), ?_⟩
    walk_at "vc"
    refine ⟨p, 3, rfl, hB, by decide, by decide, fun way H1 w0 w1 b1 => ?_⟩
    walk_at "vc"
    refine ⟨p, 26, rfl, b1.2, by decide, by decide, fun shift H2 sh0 sh1 b2 => ?_⟩
    replace b2 := b1.trans b2
    walk_at "vc"
    refine ⟨by show 8 ≤ sizeLine; decide, fun l8 h8 => ?_⟩
    generalize hxs : [V.int 1, V.int 3, V.int 5, V.int 7, V.int 9, V.int 11, V.int 15, V.int 25] = xs
    have b3 := b2.new (o := .lst xs) h8
    have n8 := b2.apart h8
    have e8 : upd H2 l8 (.lst xs) l8 = some (.lst xs) := upd_same
    generalize upd H2 l8 (.lst xs) = H3 at b3 e8 ⊢
    walk_at "vc"
    refine ⟨p, 8, rfl, b3.2, by decide, by decide, fun r H4 r0 r1 b4 => ?_⟩
    replace e8 := b4.1 _ _ n8 e8
    replace b4 := b3.trans b4
    have hl8 : xs.length = 8 := by rw [← hxs]; rfl
    obtain ⟨v, ix, hv⟩ := atI_lt (xs := xs) r0 (by omega)
    obtain ⟨step, rfl, hst, st0, st1⟩ : ∃ i : Int, v = .int i ∧ i ∈ [(1 : Int), 3, 5, 7, 9, 11, 15, 25] ∧ 0 ≤ i ∧ i ≤ 25 := by
      have hm := List.mem_of_getElem? hv
      rw [← hxs] at hm
      simp only [List.mem_cons, List.not_mem_nil, or_false] at hm
      rcases hm with rfl | rfl | rfl | rfl | rfl | rfl | rfl | rfl <;> exact ⟨_, rfl, by decide, by decide, by decide⟩
    refine .inl (vIxL e8 ix ?_)
    clear hv ix hxs e8
    walk_at "vc"
    refine ⟨rfl, ?_⟩
    walk_at "vc"
    refine ⟨5, rfl, by decide, by decide, comp_range (lo := 0) (n := 5) (Signs p H4) (Signs.start b4.2) (fun i ys H' hi hs => ?_) fun ys H5 hs => ?_⟩
    · walk_at "vc"
      refine iteT ?_
      walk_at "vc"
      refine ⟨p, 26, rfl, hs.1.2, by decide, by decide, fun r H2' r0 r1 hb => ?_⟩
      refine .inl (vIxS (by decide +kernel) (L26_at r0 r1) ?_)
      exact ⟨by rw [hs.len]; exact small1000 (by omega), hs.more hb (sg_of (by omega) (by omega))⟩
    · refine ⟨by rw [hs.len]; decide, fun l5 h5 => ?_⟩
      obtain ⟨hb5, zs, rfl, hn, h1⟩ := hs
      replace b4 := (b4.trans hb5).new (o := .lst (zs.map V.str)) h5
      walk_at "vc"
      refine ⟨_, l5, zs, rfl, rfl, SqL.of upd_same, by rw [sum_ones fun x hx => (h1 x hx).1, show ("" : Str).length = 0 by decide +kernel]; omega, ?_⟩
      have lstem : (Txt.join "" zs).length = 5 := by rw [join_len fun x hx => (h1 x hx).1]; omega
      have astem : (Txt.join "" zs).cps.toList.all sg = true := by
        have e : Txt.join "" zs = Str.join "" zs := beq_iff_eq.mp (join_plain_closes "" zs)
        rw [e]
        exact join_all fun x hx => (h1 x hx).2
      generalize Txt.join "" zs = stem at lstem astem ⊢
      have lS : stem.cps.toList.length = 5 := by rw [← lstem]; simp [Str.length]
      have tkS : ∀ k, (stem.cps.toList.take k).all sg = true := fun k => List.all_eq_true.mpr fun c hc => List.all_eq_true.mp astem c (List.mem_of_mem_take hc)
      have hsl : ∀ k : Nat, (Txt.slice stem none (some (k : Int))).length = min k 5 := fun k => by
        have : (Txt.slice stem none (some (k : Int))).length = (Txt.slice stem none (some (k : Int))).cps.toList.length := by simp [Str.length]
        rw [this, slice_take, List.length_take, lS]
      generalize upd H5 l5 (.lst (zs.map V.str)) = H6 at b4 ⊢
      have letter : ∀ {i : Int} {H : Hp} {Q : VK}, 0 ≤ i → i < 26 → Q (.str ⟨#[97 + i.toNat]⟩) H → rIxU K (.str L26) (.int i) H Q := fun h0 h1 k => .inl (vIxS (by decide +kernel) (L26_at h0 h1) k)
      walk_at "vc"
      refine .inl (.inl (.inl ⟨rfl, rfl, ?_⟩))
      walk_at "vc"
      refine ite2 (fun hw => ?_) fun hw => ?_
      · walk_at "vc"
        refine ⟨m, rfl, by omega, by omega, comp_range (lo := 0) (fun i ys H' => H' = H6 ∧ ∃ ss : List Str, ys = ss.map V.str ∧ ss.length = i ∧ ∀ (j : Nat) s, ss[j]? = some s → s.cps.toList = (97 + ((shift + step * ((j : Int) / 6)) % 26).toNat) :: stem.cps.toList.take (j % 6)) ⟨rfl, [], rfl, rfl, by simp⟩ (fun i ys H' hi hs => ?_) fun ys H' hs => ?_⟩
        · obtain ⟨rfl, ss, rfl, hsl', hss⟩ := hs
          walk_at "vc"
          refine iteT ?_
          walk_at "vc"
          refine vI ⟨by decide, by decide⟩ ?_
          walk_at "vc"
          refine vMulI (.inl ⟨by omega, by omega⟩) ?_
          walk_at "vc"
          refine vI (by decide) ?_
          walk_at "vc"
          refine letter (Int.emod_nonneg _ (by decide)) (Int.emod_lt_of_pos _ (by decide)) ?_
          walk_at "vc"
          refine vI (by decide) ?_
          walk_at "vc"
          refine vSlS (Nat.le_trans (Nat.le_of_eq lstem) (by decide)) ?_
          rw [Int.zero_add, show ((i : Int) % 6) = ((i % 6 : Nat) : Int) by omega]
          refine vAddS (by rw [hsl]; show 1 + _ ≤ _; exact Nat.le_of_lt (small1000 (by omega))) ?_
          refine ⟨by rw [List.length_map, hsl']; exact small1000 (by omega), rfl, ss ++ [_], by rw [List.map_append]; rfl, by rw [List.length_append, hsl']; rfl, fun j s hj => ?_⟩
          by_cases hlt : j < ss.length
          · rw [List.getElem?_append_left hlt] at hj
            exact hss j s hj
          · rw [List.getElem?_append_right (by omega)] at hj
            have h0 : j - ss.length = 0 := by have := (List.getElem?_eq_some_iff.mp hj).1; simp at this; omega
            rw [h0] at hj
            cases hj
            have hji : j = i := by omega
            subst hji
            rw [app_list, slice_take]
            rfl
        · obtain ⟨rfl, ss, rfl, hsl', hss⟩ := hs
          refine ⟨by rw [List.length_map, hsl']; exact Nat.le_of_lt (small1000 (by omega)), fun l hl => ?_⟩
          refine q l ss _ (b4.new hl) (b4.free hl) ⟨upd_same, b4.apart hl⟩ ⟨by omega, nodup_key fun i j s hi hj => ?_, fun s hs => ?_⟩
          · have ei := hss i s hi
            have ej := hss j s hj
            have li := (List.getElem?_eq_some_iff.mp hi).1
            have lj := (List.getElem?_eq_some_iff.mp hj).1
            rw [ei, List.cons.injEq] at ej
            obtain ⟨e1, e2⟩ := ej
            have e3 := congrArg List.length e2
            rw [List.length_take, List.length_take, lS] at e3
            have e4 : (i : Int) / 6 = (j : Int) / 6 := step_inj (sh := shift) hst (by omega) (by omega) (by omega) (by omega) (by
              have p1 := Int.emod_nonneg (shift + step * ((i : Int) / 6)) (show (26 : Int) ≠ 0 by decide)
              have p2 := Int.emod_nonneg (shift + step * ((j : Int) / 6)) (show (26 : Int) ≠ 0 by decide)
              omega)
            omega
          · obtain ⟨j, hj, e⟩ := List.getElem_of_mem hs
            refine nameS_of (hss j s (by rw [List.getElem?_eq_getElem hj, e])) (by simp) (by simp [lS]; omega) ?_
            rw [List.all_cons, tkS, sg_of (by omega) (by have := Int.emod_lt_of_pos (shift + step * ((j : Int) / 6)) (show (0 : Int) < 26 by decide); omega)]
            rfl
      · walk_at "vc"
        refine ⟨p, 4, rfl, b4.2, by decide, by decide, fun ahead H7 a0 a1 b7 => ?_⟩
        obtain ⟨ah, rfl⟩ := Int.eq_ofNat_of_zero_le a0
        replace b7 := b4.trans b7
        walk_at "vc"
        refine ⟨by decide, fun l hl => ?_⟩
        have b8 := b7.new (o := .lst []) hl
        have nl := b7.apart hl
        have hl0 := b7.free hl
        walk_at "vc"
        refine ⟨m, rfl, by omega, by omega, for_range (fun i σ H' => BB p H H' ∧ ∃ (ss : List Str) (x9 x10 : Option V), σ = [some (.ref p), some (.int m), some (.str L26), some (.int way), some (.int shift), some (.int step), some (.str stem), some (.int (ah : Int)), some (.ref l), x9, x10] ∧ H' l = some (.lst (ss.map V.str)) ∧ ss.length = i ∧ ∀ (j : Nat) s, ss[j]? = some s → nameS s = true ∧ s.cps.toList[ah]? = some (97 + ((shift + step * (j : Int)) % 26).toNat))
          ⟨b8, [], none, none, rfl, upd_same, rfl, by simp⟩ (fun i σ H8 hi hp => ?_) fun σ H8 hp => ?_⟩
        · obtain ⟨b9, ss, x9, x10, rfl, hss, hsl', hk⟩ := hp
          walk_at "vc"
          refine vSlS (Nat.le_trans (Nat.le_of_eq lstem) (by decide)) ?_
          walk_at "vc"
          refine vMulI (.inl ⟨by omega, by omega⟩) ?_
          walk_at "vc"
          refine vI (by decide) ?_
          walk_at "vc"
          rw [Int.zero_add]
          refine letter (Int.emod_nonneg _ (by decide)) (Int.emod_lt_of_pos _ (by decide)) ?_
          refine vAddS (by rw [hsl]; show _ + 1 ≤ _; exact Nat.le_of_lt (small1000 (by omega))) ?_
          have eNm : (Txt.slice stem none (some (ah : Int)) ++ (⟨#[97 + ((shift + step * (i : Int)) % 26).toNat]⟩ : Str)).cps.toList = stem.cps.toList.take ah ++ [97 + ((shift + step * (i : Int)) % 26).toNat] := by rw [app_list, slice_take]
          have lNm : (Txt.slice stem none (some (ah : Int)) ++ (⟨#[97 + ((shift + step * (i : Int)) % 26).toNat]⟩ : Str)).length ≤ 6 := by
            have : (Txt.slice stem none (some (ah : Int)) ++ (⟨#[97 + ((shift + step * (i : Int)) % 26).toNat]⟩ : Str)).length = (Txt.slice stem none (some (ah : Int)) ++ (⟨#[97 + ((shift + step * (i : Int)) % 26).toNat]⟩ : Str)).cps.toList.length := by simp [Str.length]
            rw [this, eNm]
            simp [lS]
            omega
          generalize Txt.slice stem none (some (ah : Int)) ++ (⟨#[97 + ((shift + step * (i : Int)) % 26).toNat]⟩ : Str) = nm at eNm lNm ⊢
          walk_at "vc"
          refine ⟨.inl ⟨rfl, _, SqL.of hss⟩, ?_⟩
          walk_at "vc"
          refine ⟨p, _, rfl, b9.2, by omega, by omega, fun r H9 r0 r1 b10 => ?_⟩
          replace hss := b10.1 _ _ nl hss
          replace b10 := b9.trans b10
          walk_at "vc"
          refine vMulI (.inl ⟨by omega, by omega⟩) ?_
          walk_at "vc"
          refine vSlS (Nat.le_trans (Nat.le_of_eq lstem) (by decide)) ?_
          have hw12 : way = 1 ∨ way = 2 := by
            have : ¬ way = 0 := fun e => hw (by subst e; rfl)
            omega
          obtain ⟨k, hk5, ek⟩ : ∃ k : Nat, k ≤ 5 - ah ∧ r * (way - 1) = (k : Int) := by
            rcases hw12 with rfl | rfl
            · exact ⟨0, by omega, by omega⟩
            · exact ⟨r.toNat, by omega, by omega⟩
          rw [ek]
          refine vAddS (by rw [hsl]; exact Nat.le_of_lt (small1000 (by omega))) ?_
          refine ⟨l, _, _, rfl, rfl, hss, by rw [List.length_map, hsl']; exact small1000 (by omega), ?_⟩
          refine ⟨b10.put hl0 nl, ss ++ [_], _, _, rfl, by rw [upd_same, List.map_append]; rfl, by rw [List.length_append, hsl']; rfl, fun j s hj => ?_⟩
          by_cases hlt : j < ss.length
          · rw [List.getElem?_append_left hlt] at hj
            exact hk j s hj
          · rw [List.getElem?_append_right (by omega)] at hj
            have h0 : j - ss.length = 0 := by have := (List.getElem?_eq_some_iff.mp hj).1; simp at this; omega
            rw [h0] at hj
            cases hj
            have hji : j = i := by omega
            subst hji
            have eF : (nm ++ Txt.slice stem none (some (k : Int))).cps.toList = stem.cps.toList.take ah ++ [97 + ((shift + step * (j : Int)) % 26).toNat] ++ stem.cps.toList.take k := by rw [app_list, eNm, slice_take]
            have lt26 := Int.emod_lt_of_pos (shift + step * (j : Int)) (show (0 : Int) < 26 by decide)
            refine ⟨nameS_of eF (by simp; omega) (by simp [lS]; omega) ?_, ?_⟩
            · rw [List.all_append, List.all_append, tkS, tkS, List.all_cons, sg_of (by omega) (by omega)]
              rfl
            · rw [eF, List.append_assoc, List.getElem?_append_right (by rw [List.length_take]; omega)]
              have : ah - (stem.cps.toList.take ah).length = 0 := by rw [List.length_take, lS]; omega
              rw [this]
              rfl
        · obtain ⟨b9, ss, x9, x10, rfl, hss, hsl', hk⟩ := hp
          walk_at "vc"
          refine q l ss _ b9 hl0 ⟨hss, nl⟩ ⟨by omega, nodup_key fun i j s hi hj => ?_, fun s hs => ?_⟩
          · have ei := (hk i s hi).2
            have ej := (hk j s hj).2
            have li := (List.getElem?_eq_some_iff.mp hi).1
            have lj := (List.getElem?_eq_some_iff.mp hj).1
            rw [ei, Option.some.injEq] at ej
            have e4 : (i : Int) = (j : Int) := step_inj (sh := shift) hst (by omega) (by omega) (by omega) (by omega) (by
              have p1 := Int.emod_nonneg (shift + step * (i : Int)) (show (26 : Int) ≠ 0 by decide)
              have p2 := Int.emod_nonneg (shift + step * (j : Int)) (show (26 : Int) ≠ 0 by decide)
              omega)
            omega
          · obtain ⟨j, hj, e⟩ := List.getElem_of_mem hs
            exact (hk j s (by rw [List.getElem?_eq_getElem hj, e])).1
end
/- _law_ties: calls ['_law_take']; cells [] -/
abbrev s_l_ties : Stmt := top 31
theorem sc_l_ties : FnScope ["_law_box_here", "_law_names_here", "_law_found", "_law_base", "_law_k", "_law_j"] ["_law_box_here", "_law_names_here"] (defScope s_l_ties) := ⟨rfl, rfl, rfl, by decide +kernel, rfl, by decide +kernel, by decide +kernel⟩
/- _law_drawn: calls ['_law_take', '_law_names', '_law_ties']; cells [] -/
abbrev s_l_drawn : Stmt := top 32
theorem sc_l_drawn : FnScope ["_law_box_here", "_law_most", "_law_many", "_law_names_here"] ["_law_box_here", "_law_most"] (defScope s_l_drawn) := ⟨rfl, rfl, rfl, by decide +kernel, rfl, by decide +kernel, by decide +kernel⟩
theorem NL.bb {p l : Addr} {H H' : Hp} {ss : List Str} (h : NL p H l ss) (b : BB p H H') : NL p H' l ss := ⟨b.1 _ _ h.2 h.1, h.2⟩
theorem NL.same {p l : Addr} {H H' : Hp} {ss : List Str} (h : NL p H l ss) (s : L2.Same H H') : NL p H' l ss := ⟨s _ _ h.1, h.2⟩
def PrT (p : Addr) (H : Hp) (t : Addr) (ab : Str × Str) : Prop := t ≠ p ∧ H t = some (.tup [.str ab.1, .str ab.2])
def TL (p : Addr) (H : Hp) (l : Addr) (ts : List Addr) (tps : List (Str × Str)) : Prop := H l = some (.lst (ts.map V.ref)) ∧ l ≠ p ∧ All2 (PrT p H) ts tps
theorem TL.bb {p l : Addr} {H H' : Hp} {ts : List Addr} {tps : List (Str × Str)} (h : TL p H l ts tps) (b : BB p H H') : TL p H' l ts tps := ⟨b.1 _ _ h.2.1 h.1, h.2.1, h.2.2.mono fun t ab z => ⟨z.1, b.1 _ _ z.1 z.2⟩⟩
theorem TL.same {p l : Addr} {H H' : Hp} {ts : List Addr} {tps : List (Str × Str)} (h : TL p H l ts tps) (s : L2.Same H H') : TL p H' l ts tps := ⟨s _ _ h.1, h.2.1, h.2.2.mono fun t ab z => ⟨z.1, s _ _ z.2⟩⟩
theorem PrT.put {p l : Addr} {H : Hp} {t : Addr} {ab : Str × Str} {xs ys : List V} (h : PrT p H t ab) (hl : H l = some (.lst xs)) : PrT p (upd H l (.lst ys)) t ab := ⟨h.1, by rw [upd_ne (ne_of h.2 hl (by intro z; cases z))]; exact h.2⟩
theorem TL.more {p l t : Addr} {H : Hp} {ts : List Addr} {tps : List (Str × Str)} {ab : Str × Str} (h : TL p H l ts tps) (ht : PrT p H t ab) : TL p (upd H l (.lst (ts.map V.ref ++ [.ref t]))) l (ts ++ [t]) (tps ++ [ab]) :=
  ⟨by rw [upd_same, List.map_append]; rfl, h.2.1, (h.2.2.mono fun _ _ z => z.put h.1).snoc (ht.put h.1)⟩
structure TOk (ss : List Str) (tps : List (Str × Str)) : Prop where
  few : tps.length ≤ 30
  ok : ∀ ab ∈ tps, ∃ j k : Nat, j < k ∧ ss[j]? = some ab.1 ∧ ss[k]? = some ab.2
  nd : tps.Nodup
def spTies : Sp := fun vs H Q _ => ∃ (p n : Addr) (ss : List Str), vs = [.ref p, .ref n] ∧ Box H p ∧ NL p H n ss ∧ NOk ss ∧ ∀ (l : Addr) (ts : List Addr) (tps : List (Str × Str)) (H' : Hp), BB p H H' → H l = none → TL p H' l ts tps → TOk ss tps → Q (.ref l) H'
def spDrawn : Sp := fun vs H Q _ => ∃ (p : Addr) (m : Int), vs = [.ref p, .int m] ∧ 0 ≤ m ∧ m ≤ 14 ∧ Box H p ∧ ∀ (t n l : Addr) (ss : List Str) (ts : List Addr) (tps : List (Str × Str)) (H' : Hp), BB p H H' → H' t = some (.tup [.ref n, .ref l]) → H n = none → NL p H' n ss → NOk ss → H l = none → TL p H' l ts tps → TOk ss tps → Q (.ref t) H'
def Shuf (tps ups : List (Str × Str)) : Prop := ∃ qps, ups.Perm qps ∧ All2 (fun a b => b = a ∨ b = (a.2, a.1)) tps qps
section
variable {P : Program} {w : World} {K : W.Frag} {mg : Str → Option Value} {base : Heap} {cc : Nat → Addr} {cw : Addr}
theorem ok_ties {f : Addr} {fd : FuncData} (F : Fun K "_law_ties" "_law_ties" s_l_ties f fd) (T : Txt K mg cc cw) (D_l_take : DefOk P w K mg base CX0 1 "_law_take" ["_law_box_here", "_law_many"] spTake) : FnOk P w K mg base CX0 2 f fd ["_law_box_here", "_law_names_here"] spTies := by
  refine F.ok sc_l_ties (fun vs H Q E h => ?_) fun cdv A outer s H vs Q E hr h => ?_
  · obtain ⟨p, n, ss, rfl, _⟩ := h; rfl
  · obtain ⟨p, n, ss, rfl, hB, hN, hO, q⟩ := h
    have few := hO.few
    have hu := u100 hr
    refine ⟨_, (pss_cons (ps_set (i := 2) sc_l_ties.nd rfl (Or.inl rfl) (pe_lst pa_nil))
  (pss_cons (ps_set (i := 3) sc_l_ties.nd rfl (Or.inl rfl) (pe_ix (k_ixU (K := K) rfl hu) (pe_lst (pa_cons pe_int (pa_cons pe_int (pa_cons pe_int (pa_cons pe_int pa_nil))))) (pe_def D_l_take (hm hr) pass0 (pa_cons (pv 0) (pa_cons pe_int pa_nil))) (fun _ _ => rfl)))
  (pss_cons (ps_for PassesOwn.never rfl (pi_range1 rfl T.b_range (pa_cons (pe_callB (k_len (K := K) rfl) rfl T.b_len boot_len (pa_cons (pv 1) pa_nil)) pa_nil)) (pg_name (i := 4) sc_l_ties.nd rfl (Or.inl rfl))
  (pss_one (ps_for PassesOwn.never rfl (pi_range1 rfl T.b_range (pa_cons (pv 4) pa_nil)) (pg_name (i := 5) sc_l_ties.nd rfl (Or.inl rfl))
  (pss_one (ps_if (PW.pt (pw_and (pt_cmpR (k_eqZ (K := K) rfl hu) (pe_def D_l_take (hm hr) pass0 (pa_cons (pv 0) (pa_cons (pv 3) pa_nil))) pe_int (nomark _)) (pw_and1 (pt_cmpR op_lt (pe_callB (k_len (K := K) rfl) rfl T.b_len boot_len (pa_cons (pv 2) pa_nil)) pe_int (nomark _))))) (pss_one (ps_expr (k_bm (K := K) rfl PySem.F.plainAttrs_list PySem.F.slot_list_append PySem.F.type_list_append mtR_append (pv 2) (pa_cons (pe_tup (pa_cons (pe_ix (k_ixU (K := K) rfl hu) (pv 1) (pv 5) (fun _ _ => rfl)) (pa_cons (pe_ix (k_ixU (K := K) rfl hu) (pv 1) (pv 4) (fun _ _ => rfl)) pa_nil))) pa_nil)))) pss_nil)))))
  (pss_one (ps_ret (pv 2)))))), ?_⟩
    walk_at "vc"
    refine ⟨by decide, fun l hl => ?_⟩
    have b1 := (BB.refl hB).new (o := .lst []) hl
    have nl := hB.apart hl
    have t1 : TL p (upd H l (.lst [])) l [] [] := ⟨upd_same, nl, All2.nil⟩
    generalize upd H l (.lst []) = H1 at b1 t1 ⊢
    walk_at "vc"
    refine ⟨by show 4 ≤ sizeLine; decide, fun l4 h4 => ?_⟩
    generalize hxs : [V.int 2, V.int 2, V.int 3, V.int 5] = xs
    have b2 := b1.new (o := .lst xs) h4
    have n4 := b1.apart h4
    have e4 : upd H1 l4 (.lst xs) l4 = some (.lst xs) := upd_same
    replace t1 := t1.same (Snew (L2.Same.refl H1) (o := .lst xs) h4)
    generalize upd H1 l4 (.lst xs) = H2 at b2 e4 t1 ⊢
    walk_at "vc"
    refine ⟨p, 4, rfl, b2.2, by decide, by decide, fun r H3 r0 r1 b3 => ?_⟩
    replace e4 := b3.1 _ _ n4 e4
    replace t1 := t1.bb b3
    replace b3 := b2.trans b3
    have hl4 : xs.length = 4 := by rw [← hxs]; rfl
    obtain ⟨v, ix, hv⟩ := atI_lt (xs := xs) r0 (by omega)
    obtain ⟨bs, rfl, st0, st1⟩ : ∃ i : Int, v = .int i ∧ 0 < i ∧ i ≤ 25 := by
      have hm := List.mem_of_getElem? hv
      rw [← hxs] at hm
      simp only [List.mem_cons, List.not_mem_nil, or_false] at hm
      rcases hm with rfl | rfl | rfl | rfl <;> exact ⟨_, rfl, by decide, by decide⟩
    refine .inl (vIxL e4 ix ?_)
    clear hv ix hxs e4
    walk_at "vc"
    have hN3 : H3 n = some (.lst (ss.map V.str)) := b3.1 _ _ hN.2 hN.1
    refine vLenL hN3 ?_
    rw [List.length_map]
    refine ⟨_, rfl, by omega, by omega, for_range (fun i σ H' => BB p H H' ∧ ∃ (ts : List Addr) (tps : List (Str × Str)) (x4 x5 : Option V), σ = [some (.ref p), some (.ref n), some (.ref l), some (.int bs), x4, x5] ∧ TL p H' l ts tps ∧ tps.length ≤ 30 ∧ tps.Nodup ∧ ∀ ab ∈ tps, ∃ j k, j < k ∧ ss[j]? = some ab.1 ∧ ss[k]? = some ab.2 ∧ k < i)
      ⟨b3, [], [], none, none, rfl, t1, by simp, by simp, by simp⟩ (fun i σ H4 hi hp => ?_) fun σ H4 hp => ?_⟩
    · obtain ⟨b4, ts, tps, x4, x5, rfl, t4, l30, nd, ok⟩ := hp
      have hi' : i < ss.length := by omega
      walk_at "vc"
      refine ⟨_, rfl, by omega, by omega, for_range (fun j σ H' => BB p H H' ∧ ∃ (ts : List Addr) (tps : List (Str × Str)) (x5 : Option V), σ = [some (.ref p), some (.ref n), some (.ref l), some (.int bs), some (.int (0 + (i : Int))), x5] ∧ TL p H' l ts tps ∧ tps.length ≤ 30 ∧ tps.Nodup ∧ ∀ ab ∈ tps, ∃ a k, a < k ∧ ss[a]? = some ab.1 ∧ ss[k]? = some ab.2 ∧ (k < i ∨ (k = i ∧ a < j)))
        ⟨b4, ts, tps, _, rfl, t4, l30, nd, fun ab h => by obtain ⟨a, k, h1, h2, h3, h4⟩ := ok ab h; exact ⟨a, k, h1, h2, h3, .inl h4⟩⟩ (fun j σ H5 hj hp => ?_) fun σ H5 hp => ?_⟩
      · obtain ⟨b5, ts, tps, x5, rfl, t5, l30, nd, ok⟩ := hp
        have hj' : j < ss.length := by omega
        have hji : j < i := by omega
        have keep : ∀ ab ∈ tps, ∃ a k, a < k ∧ ss[a]? = some ab.1 ∧ ss[k]? = some ab.2 ∧ (k < i ∨ (k = i ∧ a < j + 1)) := fun ab h => by
          obtain ⟨a, k, h1, h2, h3, h4⟩ := ok ab h
          exact ⟨a, k, h1, h2, h3, by omega⟩
        walk_at "vc"
        refine ⟨p, _, rfl, b5.2, st0, by omega, fun r H6 r0 r1 b6 => ?_⟩
        replace t5 := t5.bb b6
        replace b6 := b5.trans b6
        walk_at "vc"
        refine .inl (.inl (.inl ⟨rfl, rfl, ?_⟩))
        walk_at "vc"
        refine ite2 (fun _ => ?_) fun _ => ?_
        · walk_at "vc"
          refine vLenL t5.1 ?_
          walk_at "vc"
          refine ite2 (fun h30 => ?_) fun _ => ?_
          · have few' : ts.length < 30 := by
              have := of_decide_eq_true h30
              rw [List.length_map] at this
              omega
            have hN6 : H6 n = some (.lst (ss.map V.str)) := b6.1 _ _ hN.2 hN.1
            have at_ : ∀ (k : Nat), k < ss.length → ∃ x, atI (ss.map V.str) (0 + (k : Int)) = some (.str x) ∧ ss[k]? = some x := fun k hk => by
              rw [Int.zero_add]
              exact ⟨ss[k], atI_nat (by rw [List.getElem?_map, List.getElem?_eq_getElem hk]; rfl), List.getElem?_eq_getElem hk⟩
            obtain ⟨x, ix, gx⟩ := at_ j hj'
            obtain ⟨y, iy, gy⟩ := at_ i hi'
            walk_at "vc"
            refine ⟨.inl ⟨rfl, _, SqL.of t5.1⟩, ?_⟩
            walk_at "vc"
            refine .inl (vIxL hN6 ix ?_)
            walk_at "vc"
            refine .inl (vIxL hN6 iy ?_)
            walk_at "vc"
            refine ⟨by show 2 ≤ sizeLine; decide, fun t ht => ?_⟩
            have nt := b6.apart ht
            have b7 := b6.new (o := .tup [.str x, .str y]) ht
            have t7 := t5.same (Snew (L2.Same.refl H6) (o := .tup [.str x, .str y]) ht)
            refine ⟨l, _, _, rfl, rfl, t7.1, by rw [List.length_map]; exact small1000 (by omega), ?_⟩
            refine ⟨b7.put hl nl, _, tps ++ [(x, y)], _, rfl, t7.more (ab := (x, y)) ⟨nt, upd_same⟩, by rw [List.length_append, ← t5.2.2.len]; show ts.length + 1 ≤ 30; omega, ?_, fun ab h => ?_⟩
            · refine List.nodup_append.mpr ⟨nd, by simp, fun ab h cd h2 e => ?_⟩
              rw [List.mem_singleton.mp h2] at e
              subst e
              obtain ⟨a, k, h1, h2, h3, h4⟩ := ok _ h
              have e1 : a = j := nodup_inj hO.nd h2 gx
              have e2 : k = i := nodup_inj hO.nd h3 gy
              omega
            · rcases List.mem_append.mp h with h | h
              · exact keep ab h
              · rw [List.mem_singleton.mp h]
                exact ⟨j, i, hji, gx, gy, .inr ⟨rfl, by omega⟩⟩
          · exact ⟨b6, ts, tps, _, rfl, t5, l30, nd, keep⟩
        · walk_at "vc"
          refine ite2 (fun h => by cases h) fun _ => ?_
          exact ⟨b6, ts, tps, _, rfl, t5, l30, nd, keep⟩
      · obtain ⟨b5, ts, tps, x5, rfl, t5, l30, nd, ok⟩ := hp
        exact ⟨b5, ts, tps, _, _, rfl, t5, l30, nd, fun ab h => by obtain ⟨a, k, h1, h2, h3, h4⟩ := ok ab h; exact ⟨a, k, h1, h2, h3, by omega⟩⟩
    · obtain ⟨b4, ts, tps, x4, x5, rfl, t4, l30, nd, ok⟩ := hp
      walk_at "vc"
      exact q l ts tps _ b4 hl t4 ⟨l30, fun ab h => by obtain ⟨a, k, h1, h2, h3, _⟩ := ok ab h; exact ⟨a, k, h1, h2, h3⟩, nd⟩
theorem ok_drawn {f : Addr} {fd : FuncData} (F : Fun K "_law_drawn" "_law_drawn" s_l_drawn f fd) (D_l_take : DefOk P w K mg base CX0 1 "_law_take" ["_law_box_here", "_law_many"] spTake) (D_l_names : DefOk P w K mg base CX0 2 "_law_names" ["_law_box_here", "_law_many"] spNames) (D_l_ties : DefOk P w K mg base CX0 2 "_law_ties" ["_law_box_here", "_law_names_here"] spTies) :
    FnOk P w K mg base CX0 3 f fd ["_law_box_here", "_law_most"] spDrawn := by
  refine F.ok sc_l_drawn (fun vs H Q E h => ?_) fun cdv A outer s H vs Q E hr h => ?_
  · obtain ⟨p, m, rfl, _⟩ := h; rfl
  · obtain ⟨p, mm, rfl, mm0, mm1, hB, q⟩ := h
    have hu := u100 hr
    refine ⟨_, (pss_cons (ps_set (i := 2) sc_l_drawn.nd rfl (Or.inl rfl) (pe_def D_l_take (hm hr) pass0 (pa_cons (pv 0) (pa_cons pe_int pa_nil))))
  (pss_cons (ps_if (pt_cmpR (k_eqZ (K := K) rfl hu) (pe_def D_l_take (hm hr) pass0 (pa_cons (pv 0) (pa_cons pe_int pa_nil))) pe_int (nomark _)) (pss_one (ps_set (i := 2) sc_l_drawn.nd rfl (Or.inl rfl) (pe_def D_l_take (hm hr) pass0 (pa_cons (pv 0) (pa_cons (pe_op (k_add (K := K) rfl) (pv 1) pe_int) pa_nil))))) pss_nil)
  (pss_cons (ps_set (i := 3) sc_l_drawn.nd rfl (Or.inl rfl) (pe_def D_l_names (hm hr) pass0 (pa_cons (pv 0) (pa_cons (pv 2) pa_nil))))
  (pss_one (ps_ret (pe_tup (pa_cons (pv 3) (pa_cons (pe_def D_l_ties (hm hr) pass0 (pa_cons (pv 0) (pa_cons (pv 3) pa_nil))) pa_nil)))))))), ?_⟩
    walk_at "vc"
    refine ⟨p, 8, rfl, hB, by decide, by decide, fun m H1 m0 m1 b1 => ?_⟩
    walk_at "vc"
    refine ⟨p, 8, rfl, b1.2, by decide, by decide, fun r H2 r0 r1 b2 => ?_⟩
    replace b2 := b1.trans b2
    walk_at "vc"
    refine .inl (.inl (.inl ⟨rfl, rfl, ?_⟩))
    walk_at "vc"
    have fin : ∀ (n : Addr) (ss : List Str) (H4 : Hp), BB p H H4 → H n = none → NL p H4 n ss → NOk ss → spTies [.ref p, .ref n] H4 (fun v H5 => 2 ≤ sizeLine ∧ ∀ t, H5 t = none → Q (.ref t) (upd H5 t (.tup [.ref n, v]))) E0 := fun n ss H4 b4 hn0 hN hO =>
      ⟨p, n, ss, rfl, b4.2, hN, hO, fun l ts tps H5 b5 hl0 tl hT => ⟨by decide, fun t ht => by
        have b6 := b4.trans b5
        have s6 := Snew (L2.Same.refl H5) (o := .tup [.ref n, .ref l]) ht
        have nlp := tl.2.1
        exact q t n l ss ts tps _ (b6.new ht) upd_same hn0 ((hN.bb b5).same s6) hO (b4.free hl0) (tl.same s6) hT⟩⟩
    refine ite2 (fun _ => ?_) fun _ => ?_
    · walk_at "vc"
      refine ⟨p, _, rfl, b2.2, by omega, by omega, fun m' H3 m0' m1' b3 => ?_⟩
      replace b3 := b2.trans b3
      walk_at "vc"
      refine ⟨p, m', rfl, b3.2, by omega, by omega, fun n ss H4 b4 hn0 nl few => ?_⟩
      walk_at "vc"
      exact fin n ss H4 (b3.trans b4) (b3.free hn0) nl few
    · walk_at "vc"
      refine ⟨p, m, rfl, b2.2, by omega, by omega, fun n ss H4 b4 hn0 nl few => ?_⟩
      walk_at "vc"
      exact fin n ss H4 (b2.trans b4) (b2.free hn0) nl few
end
/- _law_rising: calls []; cells ['_law_one', '_law_ties_here'] -/
abbrev s_l_rising : Stmt := top 35
theorem sc_l_rising : FnScope ["_law_names_here", "_law_ties_here", "_law_found", "_law_one"] ["_law_names_here", "_law_ties_here"] (defScope s_l_rising) := ⟨rfl, rfl, rfl, by decide +kernel, rfl, by decide +kernel, by decide +kernel⟩
theorem eqV_self {v : V} (h : flatV v = true) : eqV v v = true := by
  cases v <;> first | rfl | (simp [eqV]; done) | cases h
theorem all_true (n : Nat) : (List.range n).all (fun _ => true) = true := by simp
theorem pair_eqD {K : W.Frag} {H : Hp} {a b : Addr} {s t s' t' : Str} (hb : H b = some (.tup [.str s', .str t'])) (ha : H a = some (.tup [.str s, .str t])) : EqD K H 1 (.ref b) (.ref a) (decide ((s', t') = (s, t))) := by
  by_cases e : b = a
  · subst e
    rw [hb] at ha
    cases ha
    rw [decide_eq_true rfl]
    exact .self
  · have z := EqT.tup (K := K) (H := H) (n := 0) (e := fun j => if j = 0 then eqV (.str s') (.str s) else eqV (.str t') (.str t)) (SqT.of hb) (SqT.of ha) fun j x y hx hy => by
      match j, hx, hy with
      | 0, hx, hy => cases hx; cases hy; exact .flat rfl rfl
      | 1, hx, hy => cases hx; cases hy; exact .flat rfl rfl
    have ev : ((List.range (min [V.str s', V.str t'].length [V.str s, V.str t].length)).all (fun j => if j = 0 then eqV (.str s') (.str s) else eqV (.str t') (.str t)) && [V.str s', V.str t'].length == [V.str s, V.str t].length) = decide ((s', t') = (s, t)) := by
      show ((s' == s) && ((t' == t) && true) && true) = _
      rw [Bool.eq_iff_iff]
      simp
    rw [ev] at z
    exact .deep z e
def PL (H : Hp) (l : Addr) (ts : List Addr) (tps : List (Str × Str)) : Prop := H l = some (.lst (ts.map V.ref)) ∧ All2 (fun t ab => H t = some (.tup [.str ab.1, .str ab.2])) ts tps
theorem PL.same {l : Addr} {H H' : Hp} {ts : List Addr} {tps : List (Str × Str)} (h : PL H l ts tps) (s : L2.Same H H') : PL H' l ts tps := ⟨s _ _ h.1, h.2.mono fun _ _ z => s _ _ z⟩
theorem TL.pl {p l : Addr} {H : Hp} {ts : List Addr} {tps : List (Str × Str)} (h : TL p H l ts tps) : PL H l ts tps := ⟨h.1, h.2.2.mono fun _ _ z => z.2⟩
def contV (H : Hp) (z : V) : Option (Str × Str) := match z with
  | .ref t => (match H t with
    | some (.tup [.str a, .str b]) => some (a, b)
    | _ => none)
  | _ => none
theorem contV_at {H : Hp} {t : Addr} {a b : Str} (h : H t = some (.tup [.str a, .str b])) : contV H (.ref t) = some (a, b) := by
  unfold contV
  dsimp only
  rw [h]
theorem any_in {H : Hp} {ts : List Addr} {tps : List (Str × Str)} (h : All2 (fun t ab => H t = some (.tup [.str ab.1, .str ab.2])) ts tps) (st : Str × Str) : ((ts.map V.ref).any fun z => decide (contV H z = some st)) = decide (st ∈ tps) := by
  rw [Bool.eq_iff_iff, List.any_eq_true, decide_eq_true_iff]
  constructor
  · rintro ⟨z, hz, e⟩
    obtain ⟨t, ht, rfl⟩ := List.mem_map.mp hz
    obtain ⟨ab, hab, r⟩ := h.mem ht
    have e := of_decide_eq_true e
    rw [contV_at r] at e
    cases e
    exact hab
  · intro hm
    obtain ⟨k, hk, e⟩ := List.getElem_of_mem hm
    have hk' : k < ts.length := by rw [h.len]; exact hk
    have r := h.at_ k ts[k] tps[k] (List.getElem?_eq_getElem hk') (List.getElem?_eq_getElem hk)
    refine ⟨.ref ts[k], List.mem_map.mpr ⟨_, List.getElem_mem hk', rfl⟩, decide_eq_true ?_⟩
    rw [contV_at r, e]
theorem pl_in {K : W.Frag} {H : Hp} {l a : Addr} {ts : List Addr} {tps : List (Str × Str)} {s t : Str} {Q : VK} (h : PL H l ts tps) (ha : H a = some (.tup [.str s, .str t])) (q : Q (.bl (decide ((s, t) ∈ tps))) H) : rInU K false (.ref a) (.ref l) H Q := by
  refine .inr (.inr ⟨l, ts.map V.ref, fun z => decide (contV H z = some (s, t)), 1, rfl, SqL.of h.1, by decide, fun z hz => ?_, ?_⟩)
  · obtain ⟨b, hb, rfl⟩ := List.mem_map.mp hz
    obtain ⟨ab, _, r⟩ := h.2.mem hb
    have e := pair_eqD (K := K) r ha
    have ee : decide (contV H (.ref b) = some (s, t)) = decide ((ab.1, ab.2) = (s, t)) := by
      rw [contV_at r]
      apply decide_eq_decide.mpr
      rw [Option.some.injEq]
    show EqD K H 1 (.ref b) (.ref a) (decide (contV H (.ref b) = some (s, t)))
    rw [ee]
    exact e
  · rw [any_in h.2]
    exact q
def risRow (ss : List Str) (tps : List (Str × Str)) (one : Str) : List (Str × Str) := (ss.filter fun o => decide ((one, o) ∈ tps)).map fun o => (one, o)
def risOf (ss : List Str) (tps : List (Str × Str)) (l : List Str) : List (Str × Str) := l.flatMap (risRow ss tps)
def spRis : Sp := fun vs H Q _ => ∃ (n l : Addr) (ss : List Str) (ts : List Addr) (tps : List (Str × Str)), vs = [.ref n, .ref l] ∧ H n = some (.lst (ss.map V.str)) ∧ ss.length ≤ 14 ∧ PL H l ts tps ∧
  ∀ (r : Addr) (us : List Addr) (H' : Hp), L2.Same H H' → H r = none → H' r = some (.lst (us.map V.ref)) → us.length ≤ 196 → All2 (PrAt H H' r) us (risOf ss tps ss) → Q (.ref r) H'
theorem str_eq_list {ss : List Str} {i : Nat} {y : V} (hy : (ss.map V.str)[i]? = some y) : ∃ s, ss[i]? = some s ∧ y = .str s := by
  rw [List.getElem?_map] at hy
  cases h : ss[i]? with
  | none => rw [h] at hy; cases hy
  | some s => rw [h] at hy; cases hy; exact ⟨s, rfl, rfl⟩
section
variable {P : Program} {w : World} {K : W.Frag} {mg : Str → Option Value} {base : Heap} {cc : Nat → Addr} {cw : Addr}
theorem ok_ris {f : Addr} {fd : FuncData} (F : Fun K "_law_rising" "_law_rising" s_l_rising f fd) : FnOk P w K mg base CX0 1 f fd ["_law_names_here", "_law_ties_here"] spRis := by
  refine F.ok sc_l_rising (fun vs H Q E h => ?_) fun cdv A outer s H vs Q E hr h => ?_
  · obtain ⟨n, l, ss, ts, tps, rfl, _⟩ := h; rfl
  · obtain ⟨n, l, ss, ts, tps, rfl, hn, few, hpl, q⟩ := h
    have hu := u100 hr
    refine ⟨_, (pss_cons (ps_set (i := 2) sc_l_rising.nd rfl (Or.inl rfl) (pe_lst pa_nil))
  (pss_cons (ps_for PassesOwn.never rfl (ki_any (K := K) rfl (pv 0)) (pg_name (i := 3) sc_l_rising.nd rfl (Or.inr rfl))
  (pss_one (ps_expr (k_bm (K := K) rfl PySem.F.plainAttrs_list PySem.F.slot_list_extend PySem.F.type_list_extend mtR_extend (pv 2) (pa_cons (pe_comp (sc := defScope s_l_rising) (XN := ["_law_names_here", "_law_ties_here", "_law_found", "_law_one"]) ["_law_other", "_law_one", "_law_ties_here"] 1 [3, 1] rfl rfl rfl (by decide +kernel) rfl (by decide +kernel)
   (ki_any (K := K) rfl (pv 0)) (fun _ _ _ _ => (pg_name (i := 0) (show (["_law_other", "_law_one", "_law_ties_here"] : List Str).Nodup by decide +kernel) rfl (Or.inl rfl))) gk_name
   (fun _ _ _ _ => (pifs_one (pt_cmpR (k_inU (K := K) rfl hu) (pe_tup (pa_cons (pv 1) (pa_cons (pv 0) pa_nil))) (pv 2) (by with_unfolding_all rfl))))
   (fun _ _ _ _ => (pe_tup (pa_cons (pv 1) (pa_cons (pv 0) pa_nil))))) pa_nil)))))
  (pss_one (ps_ret (pv 2))))), ?_⟩
    walk_at "vc"
    refine ⟨by decide, fun r hr0 => ?_⟩
    have s0 := Snew (L2.Same.refl H) (o := .lst []) hr0
    walk_at "vc"
    refine .inl ⟨⟨_, SqL.of (s0 _ _ hn)⟩, for_list (K := K) (fun i σ H' => ∃ (us : List Addr) (x3 : Option V), σ = [some (.ref n), some (.ref l), some (.ref r), x3] ∧ L2.Same H H' ∧ H' r = some (.lst (us.map V.ref)) ∧ us.length ≤ i * 14 ∧ All2 (PrAt H H' r) us (risOf ss tps (ss.take i)))
      ⟨[], none, rfl, s0, upd_same, by simp, All2.nil⟩ (fun i σ H' _ hp => by obtain ⟨_, _, _, z, _⟩ := hp; exact SqL.of (z _ _ hn)) (fun i y σ H1 hy hp => ?_) fun σ H1 hp => ?_⟩
    · obtain ⟨us, x3, rfl, s1, hr1, hlen, hall⟩ := hp
      obtain ⟨one, gi, rfl⟩ := str_eq_list hy
      have htk : ss.take (i + 1) = ss.take i ++ [one] := by rw [List.take_add_one, gi]; rfl
      have hi14 : i < ss.length := (List.getElem?_eq_some_iff.mp gi).1
      walk_at "vc"
      refine ⟨.inl ⟨rfl, _, SqL.of hr1⟩, ?_⟩
      walk_at "vc"
      refine .inl ⟨⟨_, SqL.of (s1 _ _ hn)⟩, comp_list (K := K) (fun k ys H' => L2.Same H1 H' ∧ ∃ vs : List Addr, ys = vs.map V.ref ∧ vs.length ≤ k ∧ All2 (PrAt H1 H' r) vs (((ss.take k).filter fun o => decide ((one, o) ∈ tps)).map fun o => (one, o)))
        ⟨L2.Same.refl H1, [], rfl, Nat.le_refl _, All2.nil⟩ (fun k ys H' _ hp => SqL.of (hp.1 _ _ (s1 _ _ hn))) (fun k y ys H2 hy hp => ?_) fun ys H2 hp => ?_⟩
      · obtain ⟨s2, vs, rfl, hvl, hv⟩ := hp
        obtain ⟨o, gk, rfl⟩ := str_eq_list hy
        have hk14 : k < ss.length := (List.getElem?_eq_some_iff.mp gk).1
        have htk2 : ss.take (k + 1) = ss.take k ++ [o] := by rw [List.take_add_one, gk]; rfl
        walk_at "vc"
        refine ⟨by show 2 ≤ sizeLine; decide, fun a ha => ?_⟩
        have s3 := Snew (L2.Same.refl H2) (o := .tup [.str one, .str o]) ha
        have ea : upd H2 a (.tup [.str one, .str o]) a = some (.tup [.str one, .str o]) := upd_same
        generalize upd H2 a (.tup [.str one, .str o]) = H3 at s3 ea ⊢
        walk_at "vc"
        refine pl_in (((hpl.same s1).same s2).same s3) ea ?_
        walk_at "vc"
        refine ite2 (fun hm => ?_) fun hm => ?_
        · walk_at "vc"
          refine ⟨by show 2 ≤ sizeLine; decide, fun t ht => ?_⟩
          have s4 := Snew (L2.Same.refl H3) (o := .tup [.str one, .str o]) ht
          have nt : t ≠ r := fun e => by rw [e, s3 _ _ (s2 _ _ hr1)] at ht; cases ht
          refine ⟨by rw [List.length_map]; exact small1000 (by omega), (s2.trans s3).trans s4, vs ++ [t], by rw [List.map_append]; rfl, by rw [List.length_append]; show vs.length + 1 ≤ _; omega, ?_⟩
          have e1 : ([o].filter fun o => decide ((one, o) ∈ tps)).map (fun o => (one, o)) = [(one, o)] := by simp [of_decide_eq_true hm]
          rw [htk2, List.filter_append, List.map_append, e1]
          exact (hv.mono fun t' ab h => h.same (s3.trans s4)).snoc ⟨(s2.trans s3).free ht, nt, upd_same⟩
        · have e1 : ([o].filter fun o => decide ((one, o) ∈ tps)).map (fun o => (one, o)) = [] := by
            have : ¬ (one, o) ∈ tps := fun z => hm (decide_eq_true z)
            simp [this]
          refine ⟨s2.trans s3, vs, rfl, by omega, ?_⟩
          rw [htk2, List.filter_append, List.map_append, e1, List.append_nil]
          exact hv.mono fun t' ab h => h.same s3
      · obtain ⟨s2, vs, rfl, hvl, hv⟩ := hp
        rw [List.length_map] at hvl
        have etk : ss.take (ss.map V.str).length = ss := by rw [List.length_map, List.take_length]
        rw [etk] at hv
        refine ⟨by rw [List.length_map]; exact Nat.le_of_lt (small1000 (by omega)), fun b hb => ?_⟩
        walk_at "vc"
        have nb : r ≠ b := ne_of_none (s2 _ _ hr1) hb
        have s3 := Snew (L2.Same.refl H2) (o := .lst (vs.map V.ref)) hb
        have hi2 : i * 14 ≤ 14 * 14 := Nat.mul_le_mul_right 14 (by omega)
        refine ⟨r, b, _, _, rfl, rfl, s3 _ _ (s2 _ _ hr1), upd_same, by rw [List.length_map, List.length_map]; exact Nat.le_of_lt (small1000 (by omega)), ?_⟩
        refine ⟨us ++ vs, _, rfl, Supd ((s1.trans s2).trans s3) hr0, by rw [upd_same, List.map_append], by rw [List.length_append, Nat.add_mul]; omega, ?_⟩
        have step : ∀ (l1 : List Addr) (m1 : List (Str × Str)) (l2 : List Addr) (m2 : List (Str × Str)) (R : Addr → Str × Str → Prop), All2 R l1 m1 → All2 R l2 m2 → All2 R (l1 ++ l2) (m1 ++ m2) := fun l1 m1 l2 m2 R h1 h2 => by
          refine ⟨by rw [List.length_append, List.length_append, h1.len, h2.len], fun k a b ha hb => ?_⟩
          by_cases hk : k < l1.length
          · rw [List.getElem?_append_left hk] at ha
            rw [List.getElem?_append_left (by rw [← h1.len]; exact hk)] at hb
            exact h1.at_ k a b ha hb
          · rw [List.getElem?_append_right (by omega)] at ha
            rw [List.getElem?_append_right (by rw [← h1.len]; omega), ← h1.len] at hb
            exact h2.at_ _ a b ha hb
        have e2 : risOf ss tps (ss.take (i + 1)) = risOf ss tps (ss.take i) ++ (ss.filter fun o => decide ((one, o) ∈ tps)).map fun o => (one, o) := by
          unfold risOf
          rw [htk, List.flatMap_append]
          congr 1
          simp [risRow]
        rw [e2]
        refine step _ _ _ _ _ (hall.mono fun t ab h => ⟨h.1, h.2.1, ?_⟩) (hv.mono fun t ab h => ⟨s1.free h.1, h.2.1, ?_⟩)
        · rw [upd_ne h.2.1]; exact s3 _ _ (s2 _ _ h.2.2)
        · rw [upd_ne h.2.1]; exact s3 _ _ h.2.2
    · obtain ⟨us, x3, rfl, s1, hr1, hlen, hall⟩ := hp
      have etk : ss.take (ss.map V.str).length = ss := by rw [List.length_map, List.take_length]
      rw [etk] at hall
      rw [List.length_map] at hlen
      walk_at "vc"
      exact q r us H1 s1 hr0 hr1 (by have : ss.length * 14 ≤ 14 * 14 := Nat.mul_le_mul_right 14 few; omega) hall
end
def Adj (ss : List Str) (ns : List Nat) (tps : List (Str × Str)) : Prop := ∀ a b s t, ss[a]? = some s → ss[b]? = some t → ((ns.getD a 0).testBit b = true ↔ ((s, t) ∈ tps ∨ (t, s) ∈ tps))
theorem idx_get {ss : List Str} {s : Str} (h : s ∈ ss) : ss[ss.idxOf s]? = some s := by
  have hl := List.idxOf_lt_length_of_mem h
  rw [List.getElem?_eq_getElem hl, List.getElem_idxOf]
section
variable {P : Program} {w : World} {K : W.Frag} {mg : Str → Option Value} {base : Heap} {cc : Nat → Addr} {cw : Addr}
structure Wk (ss : List Str) (ns : List Nat) (k : Nat) (name : Str) (ps qs : List Str) : Prop where
  nd : ps.Nodup
  has : name ∈ ps
  rch : ∀ s ∈ ps, s ∈ ss ∧ Rch ns k (ss.idxOf s)
  sub : ∀ s ∈ qs, s ∈ ps
end
section
variable {P : Program} {w : World} {K : W.Frag} {mg : Str → Option Value} {base : Heap} {cc : Nat → Addr} {cw : Addr}
theorem eqD_flat {H : Hp} {n : Nat} {x : V} (h : flatV x = true) : EqD K H n x x true := by
  have e := EqD.flat (K := K) (H := H) (n := n) h h
  rw [eqV_self h] at e
  exact e
end
section
variable {P : Program} {w : World} {K : W.Frag} {mg : Str → Option Value} {base : Heap} {cc : Nat → Addr} {cw : Addr}
theorem strs_eqD {H : Hp} {m : Nat} {ss : List Str} : ∀ x ∈ ss.map V.str, EqD K H m x x true := fun x hx => by
  obtain ⟨s, _, rfl⟩ := List.mem_map.mp hx
  exact eqD_flat rfl
theorem eqT_tup2 {H : Hp} {a b : Addr} {xs ys : List V} {n : Nat} (ha : H a = some (.tup xs)) (hb : H b = some (.tup ys)) (hl : xs.length = ys.length) (h : ∀ (j : Nat) x y, xs[j]? = some x → ys[j]? = some y → EqD K H n x y true) : EqT K H (n + 1) a b true := by
  have z := EqT.tup (K := K) (H := H) (n := n) (e := fun _ => true) (SqT.of ha) (SqT.of hb) h
  rw [all_true, hl, beq_self_eq_true] at z
  exact z
theorem eqD_of {H : Hp} {a b : Addr} {n : Nat} (h : EqT K H n a b true) : EqD K H n (.ref a) (.ref b) true := by
  by_cases e : a = b
  · subst e; exact .self
  · exact .deep h e
theorem eqT_prs {H : Hp} {l r : Addr} {ts us : List Addr} {tps : List (Str × Str)} (hl : H l = some (.tup (ts.map V.ref))) (hr : H r = some (.tup (us.map V.ref))) (h : All2 (fun t ab => H t = some (.tup [.str ab.1, .str ab.2])) ts tps) (g : All2 (fun t ab => H t = some (.tup [.str ab.1, .str ab.2])) us tps) : EqT K H 2 l r true := by
  refine eqT_tup2 hl hr (by rw [List.length_map, List.length_map, h.len, g.len]) fun j x y hx hy => ?_
  rw [List.getElem?_map] at hx hy
  cases hx' : ts[j]? with
  | none => rw [hx'] at hx; cases hx
  | some t =>
    cases hy' : us[j]? with
    | none => rw [hy'] at hy; cases hy
    | some u =>
      rw [hx'] at hx
      rw [hy'] at hy
      cases hx
      cases hy
      have hj : j < tps.length := by rw [← h.len]; exact (List.getElem?_eq_some_iff.mp hx').1
      have e := pair_eqD (K := K) (h.at_ j t tps[j] hx' (List.getElem?_eq_getElem hj)) (g.at_ j u tps[j] hy' (List.getElem?_eq_getElem hj))
      rw [decide_eq_true rfl] at e
      exact e
end
theorem vAsgT {te : TE} {K : W.Frag} {n : Nat} {gs : TGs} {D : Ends} {σ : L2.St} {H : Hp} (h : te σ H fun x H1 => gTup K n gs x σ H1 D.nx) : tAsg te (gTup K n gs) D σ H := h
def UN (x y : Str × Str) : Prop := x ≠ y ∧ x ≠ (y.2, y.1)
theorem UN.symm {x y : Str × Str} (h : UN x y) : UN y x := ⟨fun e => h.1 e.symm, fun e => h.2 (by rw [e])⟩
theorem TOk.un {ss : List Str} {tps : List (Str × Str)} (hn : ss.Nodup) (h : TOk ss tps) : tps.Pairwise UN := by
  have nd := h.nd
  refine List.Pairwise.imp_of_mem (fun {a b} ha hb (hne : a ≠ b) => ⟨hne, fun e => ?_⟩) nd
  obtain ⟨j, k, h1, h2, h3⟩ := h.ok a ha
  obtain ⟨j', k', g1, g2, g3⟩ := h.ok b hb
  rw [e] at h2 h3
  have e1 := nodup_inj hn h2 g3
  have e2 := nodup_inj hn h3 g2
  omega
theorem Shuf.un {ss : List Str} {tps ups : List (Str × Str)} (hn : ss.Nodup) (h : TOk ss tps) (sh : Shuf tps ups) : ups.Pairwise UN := by
  obtain ⟨qps, hp, hA⟩ := sh
  have hu := h.un hn
  refine hp.symm.pairwise ?_ fun h => h.symm
  refine List.pairwise_iff_getElem.mpr fun i j hi hj hij => ?_
  have hi' : i < tps.length := by rw [hA.len]; exact hi
  have hj' : j < tps.length := by rw [hA.len]; exact hj
  have hu' := List.pairwise_iff_getElem.mp hu i j hi' hj' hij
  have ai := hA.at_ i tps[i] qps[i] (List.getElem?_eq_getElem hi') (List.getElem?_eq_getElem hi)
  have aj := hA.at_ j tps[j] qps[j] (List.getElem?_eq_getElem hj') (List.getElem?_eq_getElem hj)
  generalize tps[i] = a at hu' ai
  generalize tps[j] = b at hu' aj
  generalize qps[i] = c at ai
  generalize qps[j] = d at aj
  obtain ⟨a1, a2⟩ := a
  obtain ⟨b1, b2⟩ := b
  obtain ⟨h1, h2⟩ := hu'
  rcases ai with rfl | rfl <;> rcases aj with rfl | rfl <;> refine ⟨fun e => ?_, fun e => ?_⟩ <;> dsimp only at e h1 h2 <;> rw [Prod.mk.injEq] at e <;> simp only [ne_eq, Prod.mk.injEq] at h1 h2 <;> first | exact h1 ⟨e.1, e.2⟩ | exact h2 ⟨e.1, e.2⟩ | exact h1 ⟨e.2, e.1⟩ | exact h2 ⟨e.2, e.1⟩
theorem Shuf.mem {tps ups : List (Str × Str)} (sh : Shuf tps ups) (s t : Str) : ((s, t) ∈ ups ∨ (t, s) ∈ ups) ↔ ((s, t) ∈ tps ∨ (t, s) ∈ tps) := by
  obtain ⟨qps, hp, hA⟩ := sh
  rw [hp.mem_iff, hp.mem_iff]
  constructor
  · have key : ∀ c ∈ qps, c ∈ tps ∨ (c.2, c.1) ∈ tps := fun c hc => by
      obtain ⟨k, hk, e⟩ := List.getElem_of_mem hc
      have hk' : k < tps.length := by rw [hA.len]; exact hk
      have a := hA.at_ k tps[k] qps[k] (List.getElem?_eq_getElem hk') (List.getElem?_eq_getElem hk)
      rw [e] at a
      rcases a with a | a
      · rw [a]; exact .inl (List.getElem_mem hk')
      · rw [a]; exact .inr (List.getElem_mem hk')
    rintro (h | h)
    · exact key _ h
    · rcases key _ h with h | h
      · exact .inr h
      · exact .inl h
  · have key : ∀ c ∈ tps, c ∈ qps ∨ (c.2, c.1) ∈ qps := fun c hc => by
      obtain ⟨d, hd, r⟩ := hA.mem hc
      rcases r with r | r
      · rw [← r]; exact .inl hd
      · rw [← r]; exact .inr hd
    rintro (h | h)
    · exact key _ h
    · rcases key _ h with h | h
      · exact .inr h
      · exact .inl h
theorem Shuf.good {ss : List Str} {tps ups : List (Str × Str)} (h : TOk ss tps) (sh : Shuf tps ups) : ∀ ab ∈ ups, ab.1 ∈ ss ∧ ab.2 ∈ ss ∧ (ss.Nodup → ab.1 ≠ ab.2) := fun ab hab => by
  have := (sh.mem ab.1 ab.2).mp (.inl hab)
  rcases this with h' | h'
  · obtain ⟨j, k, h1, h2, h3⟩ := h.ok _ h'
    exact ⟨List.mem_of_getElem? h2, List.mem_of_getElem? h3, fun nd e => by dsimp only at h2 h3; rw [e] at h2; have := nodup_inj nd h2 h3; omega⟩
  · obtain ⟨j, k, h1, h2, h3⟩ := h.ok _ h'
    exact ⟨List.mem_of_getElem? h3, List.mem_of_getElem? h2, fun nd e => by dsimp only at h2 h3; rw [e] at h3; have := nodup_inj nd h2 h3; omega⟩
theorem Shuf.len {tps ups : List (Str × Str)} (sh : Shuf tps ups) : ups.length = tps.length := by
  obtain ⟨qps, hp, hA⟩ := sh
  rw [hp.length_eq, hA.len]
theorem dueN_ok : ∀ (l acc : List Str), (∀ s ∈ l, nameS s = true) → l.Nodup → (∀ s ∈ l, s ∉ acc) → dueN (l.map V.str) acc = none
  | [], _, _, _, _ => rfl
  | s :: r, acc, hn, nd, hd => by
    rw [List.map_cons, dueN_cons, if_pos (show nameV (.str s) = true from hn s List.mem_cons_self), if_neg (show ¬ strV (.str s) ∈ acc from hd s List.mem_cons_self)]
    show dueN (r.map V.str) (acc ++ [s]) = none
    rw [List.nodup_cons] at nd
    refine dueN_ok r _ (fun t ht => hn t (List.mem_cons_of_mem _ ht)) nd.2 fun t ht hm => ?_
    rcases List.mem_append.mp hm with h | h
    · exact hd t (List.mem_cons_of_mem _ ht) h
    · have : t = s := List.mem_singleton.mp h
      rw [this] at ht
      exact nd.1 ht
theorem tieV_ok {H : Hp} {ss : List Str} {t : Addr} {a b : Str} (e : H t = some (.tup [.str a, .str b])) (ha : placeV ss (.str a) = true) (hb : placeV ss (.str b) = true) (hne : a ≠ b) : tieV H ss (.ref t) = some (a, b) := by
  rw [tieV_tup e, if_pos]
  · rfl
  · unfold pairV
    rw [ha, hb]
    simp [strV, hne]
theorem goT_ok {H : Hp} {ss : List Str} : ∀ (us : List Addr) (ups seen : List (Str × Str)), us.length = ups.length → (∀ (k : Nat) t ab, us[k]? = some t → ups[k]? = some ab → tieV H ss (.ref t) = some ab) → (seen ++ ups).Pairwise UN → goT H ss (us.map V.ref) seen = none
  | [], _, _, _, _, _ => rfl
  | u :: us, [], _, hl, _, _ => by cases hl
  | u :: us, ab :: ups, seen, hl, hc, hp => by
    rw [List.map_cons, goT_on (hc 0 u ab rfl rfl), if_neg]
    · refine goT_ok us ups (seen ++ [ab]) (Nat.succ.inj hl) (fun k t cd h1 h2 => hc (k + 1) t cd (by simpa using h1) (by simpa using h2)) ?_
      rw [List.append_assoc]
      exact hp
    · rw [List.pairwise_append] at hp
      rintro (h | h)
      · exact (hp.2.2 ab h ab List.mem_cons_self).1 rfl
      · exact (hp.2.2 _ h ab List.mem_cons_self).2 rfl
theorem fm_ties {H : Hp} {ss : List Str} : ∀ (us : List Addr) (ups : List (Str × Str)), us.length = ups.length → (∀ (k : Nat) t ab, us[k]? = some t → ups[k]? = some ab → tieV H ss (.ref t) = some ab) → (us.map V.ref).filterMap (tieV H ss) = ups
  | [], [], _, _ => rfl
  | [], _ :: _, hl, _ => by cases hl
  | _ :: _, [], hl, _ => by cases hl
  | u :: us, ab :: ups, hl, hc => by
    rw [List.map_cons, List.filterMap_cons, hc 0 u ab rfl rfl]
    exact congrArg (ab :: ·) (fm_ties us ups (Nat.succ.inj hl) fun k t cd h1 h2 => hc (k + 1) t cd (by simpa using h1) (by simpa using h2))
theorem names_map (ss : List Str) : (ss.map V.str).map strV = ss := by
  rw [List.map_map]
  exact List.map_id ss
theorem make_ok {H : Hp} {ss : List Str} {v v2 : V} {us : List Addr} {tps ups : List (Str × Str)} (hO : NOk ss) (hT : TOk ss tps) (sh : Shuf tps ups) (hc : All2 (fun t ab => H t = some (.tup [.str ab.1, .str ab.2])) us ups) :
    outW H v (some (ss.map V.str)) v2 (some (us.map V.ref)) = none ∧ (us.map V.ref).filterMap (tieV H ss) = ups := by
  have pl : ∀ s, s ∈ ss → placeV ss (.str s) = true := fun s hs => name_place hs (hO.nm s hs)
  have tv : ∀ (k : Nat) t ab, us[k]? = some t → ups[k]? = some ab → tieV H ss (.ref t) = some ab := fun k t ab h1 h2 => by
    obtain ⟨g1, g2, g3⟩ := sh.good hT ab (List.mem_of_getElem? h2)
    exact tieV_ok (hc.at_ k t ab h1 h2) (pl _ g1) (pl _ g2) (g3 hO.nd)
  have hN : outN v (some (ss.map V.str)) = none := by
    show (if 14 < (ss.map V.str).length then _ else dueN (ss.map V.str) []) = none
    rw [if_neg (by rw [List.length_map]; have := hO.few; omega)]
    exact dueN_ok ss [] hO.nm hO.nd (by simp)
  refine ⟨?_, fm_ties us ups hc.len tv⟩
  unfold outW
  rw [hN]
  show outT H ((ss.map V.str).map strV) v2 (some (us.map V.ref)) = none
  rw [names_map]
  show (if 30 < (us.map V.ref).length then _ else (goT H ss (us.map V.ref) []).map _) = none
  rw [if_neg (by rw [List.length_map, hc.len, sh.len]; have := hT.few; omega), goT_ok us ups [] hc.len tv (by simpa using sh.un hO.nd hT)]
  rfl
theorem adj_of {ss : List Str} {ns : List Nat} {tps ups : List (Str × Str)} (sh : Shuf tps ups) (hb : BitsOk ss ns ups) : Adj ss ns tps := fun a b s t ga gb => by
  rw [hb.2.2 a b s t ga gb, decide_eq_true_iff]
  exact sh.mem s t
theorem mem_ris {ss : List Str} {tps : List (Str × Str)} (hT : TOk ss tps) (s t : Str) : (s, t) ∈ risOf ss tps ss ↔ (s, t) ∈ tps := by
  unfold risOf
  rw [List.mem_flatMap]
  constructor
  · rintro ⟨one, _, h⟩
    unfold risRow at h
    obtain ⟨o, ho, e⟩ := List.mem_map.mp h
    cases e
    exact of_decide_eq_true (List.mem_filter.mp ho).2
  · intro h
    obtain ⟨j, k, h1, h2, h3⟩ := hT.ok _ h
    refine ⟨s, List.mem_of_getElem? h2, ?_⟩
    unfold risRow
    exact List.mem_map.mpr ⟨t, List.mem_filter.mpr ⟨List.mem_of_getElem? h3, decide_eq_true h⟩, rfl⟩
theorem range_map (ss : List Str) : (List.range ss.length).map (fun i => ss.getD i "") = ss := by
  apply List.ext_getElem?
  intro i
  rw [List.getElem?_map]
  by_cases h : i < ss.length
  · rw [List.getElem?_range h, List.getElem?_eq_getElem h]
    simp [List.getD, h]
  · rw [List.getElem?_eq_none (by simpa using h), List.getElem?_eq_none (by omega)]
    rfl
theorem ties_ris {ss : List Str} {ns : List Nat} {tps : List (Str × Str)} (hw : WOk ss ns) (hT : TOk ss tps) (ha : Adj ss ns tps) : tiesOf ss ns ss.length = risOf ss tps ss := by
  have e : risOf ss tps ss = (List.range ss.length).flatMap fun i => risRow ss tps (ss.getD i "") := by
    unfold risOf
    conv => lhs; rw [← range_map ss]
    rw [List.flatMap_map]
    rw [range_map]
  rw [e]
  unfold tiesOf
  have key : ∀ i ∈ List.range ss.length, tRow ss ns i = risRow ss tps (ss.getD i "") := fun i hi => by
    have hi : i < ss.length := List.mem_range.mp hi
    have gi : ss[i]? = some (ss.getD i "") := by simp [List.getD, hi]
    unfold tRow risRow
    congr 1
    rw [inB_filter hw.nd, List.filter_filter]
    apply List.filter_congr
    intro o ho
    have go := idx_get ho
    rw [Bool.eq_iff_iff, Bool.and_eq_true, decide_eq_true_iff, decide_eq_true_iff, ha i _ _ o gi go]
    constructor
    · rintro ⟨h1, h2 | h2⟩
      · exact h2
      · obtain ⟨j, k, l1, l2, l3⟩ := hT.ok _ h2
        have e1 := nodup_inj hw.nd l2 go
        have e2 := nodup_inj hw.nd l3 gi
        omega
    · intro h
      obtain ⟨j, k, l1, l2, l3⟩ := hT.ok _ h
      have e1 := nodup_inj hw.nd l2 gi
      have e2 := nodup_inj hw.nd l3 go
      exact ⟨by omega, .inl h⟩
  have fmc : ∀ l : List Nat, (∀ i ∈ l, tRow ss ns i = risRow ss tps (ss.getD i "")) → l.flatMap (tRow ss ns) = l.flatMap fun i => risRow ss tps (ss.getD i "") := fun l => by
    induction l with
    | nil => intro _; rfl
    | cons a r ih =>
      intro h
      rw [List.flatMap_cons, List.flatMap_cons, h a List.mem_cons_self, ih fun i hi => h i (List.mem_cons_of_mem _ hi)]
  exact fmc _ key
theorem BB.out {p : Addr} {H H1 H2 : Hp} (s : L2.Same H H1) (hp : H p = none) (b : BB p H1 H2) : L2.Same H H2 := fun c o e => b.1 c o (fun z => by subst z; rw [hp] at e; cases e) (s c o e)
theorem But.out {x : Addr} {H H0 H' : Hp} (b : But x H0 H') (s : L2.Same H H0) (hx : H x = none) : L2.Same H H' := fun c o e => b c o (fun z => by subst z; rw [hx] at e; cases e) (s c o e)
def spLaw (K : W.Frag) : Sp := fun vs H Q _ => ∃ (a : Addr) (ns : List Int), vs = [.ref a] ∧ SqL K H a (ns.map V.int) ∧ ns.length ≤ 63 ∧ ∀ H', Q (.bl true) H'
theorem sum_le {xs : List Str} {b : Nat} (h : ∀ x ∈ xs, x.length ≤ b) : (xs.map (·.length)).sum ≤ xs.length * b := by
  induction xs with
  | nil => simp
  | cons x r ih =>
    have h1 := h x List.mem_cons_self
    have h2 := ih fun y hy => h y (List.mem_cons_of_mem _ hy)
    rw [List.map_cons, List.sum_cons, List.length_cons, Nat.add_mul]
    omega
theorem one_len : (" " : Str).length = 1 ∧ (":" : Str).length = 1 ∧ ("\n" : Str).length = 1 := by decide +kernel
section
variable {P : Program} {w : World} {K : W.Frag} {mg : Str → Option Value} {base : Heap} {cc : Nat → Addr} {cw : Addr}
end
/- first_words: calls ['is_name']; cells [] -/
abbrev s_first_words : Stmt := top 23
theorem sc_first_words : FnScope ["lines", "numbers", "at", "line", "parts", "word"] ["lines"] (defScope s_first_words) := ⟨rfl, rfl, rfl, by decide +kernel, rfl, by decide +kernel, by decide +kernel⟩
/- are_farther_below: calls []; cells [] -/
abbrev s_are_farther_below : Stmt := top 25
theorem sc_are_farther_below : FnScope ["names", "at", "numbers", "last", "name"] ["names", "at", "numbers"] (defScope s_are_farther_below) := ⟨rfl, rfl, rfl, by decide +kernel, rfl, by decide +kernel, by decide +kernel⟩
def pHead (l : Str) : Str := (PySem.Txt.partition l ":").1
def pMid (l : Str) : Str := (PySem.Txt.partition l ":").2.1
def pTail (l : Str) : Str := (PySem.Txt.partition l ":").2.2
def wds (l : Str) : List Str := PySem.Txt.split (pTail l) " "
def fw : List Str → Nat → List Str → Sum Nat (List Str)
  | [], _, acc => .inr acc
  | l :: r, k, acc => if pMid l = "" ∨ nameS (pHead l) = false ∨ pHead l ∈ acc ∨ 14 ≤ k then .inl k else fw r (k + 1) (acc ++ [pHead l])
def bel (ss : List Str) : List Str → Nat → Bool
  | [], _ => true
  | w :: r, k => if w ∈ ss ∧ k < ss.idxOf w then bel ss r (ss.idxOf w) else false
def rowT (l : Str) : List (Str × Str) := (wds l).tail.map fun o => (pHead l, o)
def ti (ss : List Str) : List Str → Nat → List (Str × Str) → Sum Nat (List (Str × Str))
  | [], _, acc => .inr acc
  | l :: r, k, acc => if (wds l).headD "" ≠ "" ∨ bel ss (wds l).tail k = false ∨ 30 < (acc ++ rowT l).length then .inl k else ti ss r (k + 1) (acc ++ rowT l)
theorem eqV_str (a b : Str) : eqV (.str a) (.str b) = decide (a = b) := by
  by_cases h : a = b
  · subst h
    rw [eqV_self rfl, decide_eq_true rfl]
  · rw [decide_eq_false h]
    cases e : eqV (.str a) (.str b)
    · rfl
    · have e' : decide (V.str a = V.str b) = true := by simpa [eqV] using e
      exact absurd (V.str.inj (of_decide_eq_true e')) h
theorem cut_tail (x : V) (xs : List V) : cutV (x :: xs) (some 1) none = xs := by
  unfold cutV
  have e1 : HT.sIx (x :: xs).length 0 (some 1) = 1 := by
    have := HT.sIx_nat (x :: xs).length 0 1
    rw [show ((1 : Nat) : Int) = 1 from rfl] at this
    rw [this, List.length_cons]
    omega
  rw [e1, HT.sIx_none, List.length_cons]
  simp
theorem wds_cons (l : Str) : wds l = (wds l).headD "" :: (wds l).tail := by
  have := split_pos (pTail l) " "
  unfold wds
  cases h : PySem.Txt.split (pTail l) " " with
  | nil => rw [h] at this; exact absurd this (by decide)
  | cons a r => rfl
theorem tail_len (l : Str) : (pTail l).length ≤ l.length ∧ (pHead l).length ≤ l.length := by
  have := fact_partition l ":"
  exact ⟨this.2.2, this.1⟩
theorem wds_len (l : Str) : (wds l).length ≤ l.length + 2 := Nat.le_trans (split_le _ _) (by have := (tail_len l).1; omega)
theorem drop_at {α : Type} {xs : List α} {i : Nat} {x : α} (hx : xs[i]? = some x) : xs.drop i = x :: xs.drop (i + 1) := by
  have hil : i < xs.length := (List.getElem?_eq_some_iff.mp hx).1
  rw [List.drop_eq_getElem_cons hil, (List.getElem?_eq_some_iff.mp hx).2]
def spFw (cc : Nat → Addr) : Sp := fun vs H Q E => ∃ (a : Addr) (ls : List Str), vs = [.ref a] ∧ H a = some (.lst (ls.map V.str)) ∧ (∀ l ∈ ls, l.length ≤ 100000) ∧ (∀ k : Nat, fw ls 0 [] = .inl k → Rz cc H E (5, .int k)) ∧
  ∀ ss, fw ls 0 [] = .inr ss → ∀ (d : Addr) (H' : Hp), L2.Same H H' → H d = none → H' d = some (.dK (numK ss 0)) → Q (.ref d) H'
def spBel : Sp := fun vs H Q _ => ∃ (b d : Addr) (ws ss : List Str) (k : Nat), vs = [.ref b, .int k, .ref d] ∧ H b = some (.lst (ws.map V.str)) ∧ H d = some (.dK (numK ss 0)) ∧ ss.Nodup ∧ Q (.bl (bel ss ws k)) H
def spTi (cc : Nat → Addr) : Sp := fun vs H Q E => ∃ (a d : Addr) (ls ss : List Str), vs = [.ref a, .ref d] ∧ H a = some (.lst (ls.map V.str)) ∧ (∀ l ∈ ls, l.length ≤ 100000) ∧ H d = some (.dK (numK ss 0)) ∧ ss.Nodup ∧ (∀ k : Nat, ti ss ls 0 [] = .inl k → Rz cc H E (5, .int k)) ∧
  ∀ tps, ti ss ls 0 [] = .inr tps → ∀ (l : Addr) (ts : List Addr) (H' : Hp), L2.Same H H' → H l = none → H' l = some (.lst (ts.map V.ref)) → All2 (PrAt H H' l) ts tps → Q (.ref l) H'
section
variable {P : Program} {w : World} {K : W.Frag} {mg : Str → Option Value} {base : Heap} {cc : Nat → Addr} {cw : Addr}
theorem ok_fw {f : Addr} {fd : FuncData} (F : Fun K "first_words" "first_words" s_first_words f fd) (T : Txt K mg cc cw) (D_is_name : DefOk P w K mg base CX0 1 "is_name" ["thing"] spName)
    (D_NoText : XMakeOk P w K mg base 2 (cc 5) "NoText" ["self", "at"] (spX (cc 5) (fldn 5))) : FnOk P w K mg base (CX1 P w) 4 f fd ["lines"] (spFw cc) := by
  refine F.ok1 sc_first_words (fun vs H Q E h => ?_) fun cdv A outer s H vs Q E hr h => ?_
  · obtain ⟨a, ls, rfl, _⟩ := h; rfl
  · obtain ⟨a, ls, rfl, ha, hlen, hz, q⟩ := h
    have hu := u100 hr
    refine ⟨_, (pss_cons (ps_set (i := 1) sc_first_words.nd rfl (Or.inl rfl) pe_dnewK)
  (pss_cons (ps_for PassesOwn.leaving rfl (pi_enum (K := K) rfl rfl T.b_enumerate (pa_cons (pv 0) pa_nil)) (pg_tup rfl (pgs_cons (pg_name (i := 2) sc_first_words.nd rfl (Or.inl rfl)) (pgs_cons (pg_name (i := 3) sc_first_words.nd rfl (Or.inl rfl)) pgs_nil)))
  (pss_cons (ps_set (i := 4) sc_first_words.nd rfl (Or.inl rfl) (k_bm (K := K) rfl PySem.F.plainAttrs_str PySem.F.slot_str_partition PySem.F.type_str_partition mt_partition (pv 3) (pa_cons pe_str pa_nil)))
  (pss_cons (ps_set (i := 5) sc_first_words.nd rfl (Or.inl rfl) (pe_ix (k_ixU (K := K) rfl hu) (pv 4) pe_int (fun _ _ => rfl)))
  (pss_cons (ps_if (PW.pt (pw_or (pt_cmpR (k_eqZ (K := K) rfl hu) (pe_ix (k_ixU (K := K) rfl hu) (pv 4) pe_int (fun _ _ => rfl)) pe_str (nomark _)) (pw_or (pt_not (pt_val (pe_def D_is_name (hm hr) pass0 (pa_cons (pv 5) pa_nil)))) (pw_or (pt_cmpR (k_inU (K := K) rfl hu) (pv 5) (pv 1) (by with_unfolding_all rfl)) (pw_or1 (pt_cmpR op_ge (pv 2) (pe_globI rfl T.g_MOST_PLACES) (nomark _))))))) (pss_one (k_raise (K := K) rfl xok_fn (pe_xm D_NoText (hm hr) (pa_cons (pv 2) pa_nil)))) pss_nil)
  (pss_one (ps_asg (pv 2) (pg_sub (pv 1) (pv 5) (k_setU hu))))))))
  (pss_one (ps_ret (pv 1))))), ?_⟩
    walk_at "vc"
    intro d hd
    have s0 := Snew (L2.Same.refl H) (o := .dK []) hd
    walk_at "vc"
    refine ⟨a, _, rfl, SqL.of (s0 _ _ ha), for_enum (K := K) (fun i σ H' => ∃ (acc : List Str) (x2 x3 x4 x5 : Option V), σ = [some (.ref a), some (.ref d), x2, x3, x4, x5] ∧ L2.Same H H' ∧ H' d = some (.dK (numK acc 0)) ∧ acc.length = i ∧ i ≤ 14 ∧ fw ls 0 [] = fw (ls.drop i) i acc)
      ⟨[], none, none, none, none, rfl, s0, upd_same, rfl, by decide, rfl⟩ (fun i σ H' _ hp => by obtain ⟨_, _, _, _, _, _, z, _⟩ := hp; exact SqL.of (z _ _ ha)) (fun i y t σ H1 hy ht hp => ?_) fun σ H1 hp => ?_⟩
    · obtain ⟨acc, x2, x3, x4, x5, rfl, s1, hk, hal, hi14, hdue⟩ := hp
      obtain ⟨l, gl, rfl⟩ := str_eq_list hy
      have hl := hlen l (List.mem_of_getElem? gl)
      rw [drop_at gl] at hdue
      have s2 := Snew s1 (o := .tup [.int i, .str l]) ht
      have s12 := Snew (L2.Same.refl H1) (o := .tup [.int i, .str l]) ht
      refine ⟨t, _, rfl, SqT.of upd_same, rfl, _, _, rfl, _, _, rfl, rfl, ?_⟩
      replace hk := s12 _ _ hk
      generalize upd H1 t (.tup [.int i, .str l]) = H2 at s2 hk ⊢
      walk_at "vc"
      refine ⟨rfl, ?_⟩
      walk_at "vc"
      refine ⟨l, _, rfl, rfl, by decide +kernel, Nat.le_trans hl (by decide), fun p hp => ?_⟩
      have s3 := Snew s2 (o := .tup [.str (pHead l), .str (pMid l), .str (pTail l)]) hp
      have s23 := Snew (L2.Same.refl H2) (o := .tup [.str (pHead l), .str (pMid l), .str (pTail l)]) hp
      have ep : upd H2 p (.tup [.str (pHead l), .str (pMid l), .str (pTail l)]) p = some (.tup [.str (pHead l), .str (pMid l), .str (pTail l)]) := upd_same
      replace hk := s23 _ _ hk
      show _
      change tSeq _ _ _ _ (upd H2 p (.tup [.str (pHead l), .str (pMid l), .str (pTail l)]))
      generalize upd H2 p (.tup [.str (pHead l), .str (pMid l), .str (pTail l)]) = H3 at s3 hk ep ⊢
      clear s23 s12
      walk_at "vc"
      refine .inl (vIxT ep rfl ?_)
      walk_at "vc"
      refine .inl (vIxT ep rfl ?_)
      refine .inl (.inl (.inl ⟨rfl, rfl, ?_⟩))
      rw [if_neg Bool.false_ne_true, eqV_str]
      walk_at "vc"
      have efw : fw (l :: ls.drop (i + 1)) i acc = if pMid l = "" ∨ nameS (pHead l) = false ∨ pHead l ∈ acc ∨ 14 ≤ i then .inl i else fw (ls.drop (i + 1)) (i + 1) (acc ++ [pHead l]) := rfl
      rw [efw] at hdue
      refine ite2 (fun h => ?_) fun h => ?_
      · refine iteT ?_
        walk_at "vc"
        rw [if_pos (.inl (of_decide_eq_true h))] at hdue
        exact raise_done (T.xat 5 (by decide)) ((hz i hdue).later s3)
      have h1 : ¬ pMid l = "" := fun z => h (decide_eq_true z)
      walk_at "vc"
      refine ⟨a, 0, .str (pHead l), rfl, Th.flat rfl (fun z e => by cases e; have := (tail_len l).2; omega), fun H4 s34 => ?_⟩
      have s4 := s3.trans s34
      walk_at "vc"
      refine ite2 (fun h => ?_) fun h => ?_
      · refine iteT ?_
        walk_at "vc"
        have h' : nameS (pHead l) = false := by simpa [nameV] using h
        rw [if_pos (.inr (.inl h'))] at hdue
        exact raise_done (T.xat 5 (by decide)) ((hz i hdue).later s4)
      have h2 : nameS (pHead l) = true := by simpa [nameV] using h
      walk_at "vc"
      refine .inr (.inl ⟨d, _, rfl, DGet.k (k := Sum.inr (pHead l)) (s34 _ _ hk), ?_⟩)
      rw [numK_isSome]
      walk_at "vc"
      refine ite2 (fun h => ?_) fun h => ?_
      · refine iteT ?_
        walk_at "vc"
        rw [if_pos (.inr (.inr (.inl (of_decide_eq_true h))))] at hdue
        exact raise_done (T.xat 5 (by decide)) ((hz i hdue).later s4)
      have h3 : pHead l ∉ acc := fun z => h (decide_eq_true z)
      walk_at "vc"
      refine ite2 (fun h => ?_) fun h => ?_
      · walk_at "vc"
        have h' : 14 ≤ i := by have := of_decide_eq_true h; omega
        rw [if_pos (.inr (.inr (.inr h')))] at hdue
        exact raise_done (T.xat 5 (by decide)) ((hz i hdue).later s4)
      have h4 : ¬ 14 ≤ i := fun z => h (decide_eq_true (by omega))
      rw [if_neg (fun z => by rcases z with z | z | z | z; exact h1 z; (rw [h2] at z; cases z); exact h3 z; exact h4 z)] at hdue
      walk_at "vc"
      refine .inr ⟨d, _, rfl, DPut.k (k := Sum.inr (pHead l)) (s34 _ _ hk) (small1000 (by rw [numK_length]; omega)), ?_⟩
      refine ⟨acc ++ [pHead l], _, _, _, _, rfl, Supd s4 hd, ?_, by rw [List.length_append, hal]; rfl, by omega, hdue⟩
      rw [upd_same, putK_new _ (numK_none h3), numK_snoc, hal, Nat.zero_add]
    · obtain ⟨acc, x2, x3, x4, x5, rfl, s1, hk, hal, hi14, hdue⟩ := hp
      rw [List.length_map, List.drop_length] at hdue
      walk_at "vc"
      exact q acc hdue d H1 s1 hd hk
theorem ok_bel {f : Addr} {fd : FuncData} (F : Fun K "are_farther_below" "are_farther_below" s_are_farther_below f fd) (T : Txt K mg cc cw) : FnOk P w K mg base CX0 1 f fd ["names", "at", "numbers"] spBel := by
  refine F.ok sc_are_farther_below (fun vs H Q E h => ?_) fun cdv A outer s H vs Q E hr h => ?_
  · obtain ⟨b, d, ws, ss, k, rfl, _⟩ := h; rfl
  · obtain ⟨b, d, ws, ss, k, rfl, hb, hd, hnd, q⟩ := h
    have hu := u100 hr
    refine ⟨_, (pss_cons (ps_set (i := 3) sc_are_farther_below.nd rfl (Or.inl rfl) (pv 1))
  (pss_cons (ps_for PassesOwn.never rfl (ki_any (K := K) rfl (pv 0)) (pg_name (i := 4) sc_are_farther_below.nd rfl (Or.inl rfl))
  (pss_cons (ps_if (pt_cmpR u_le (pe_dget2 (lt99 hu) (pv 2) (pv 4) (pe_un un_neg pe_int) ⟨rfl, rfl, rfl, rfl⟩) (pv 3) (nomark _)) (pss_one (ps_ret pe_bl)) pss_nil)
  (pss_one (ps_set (i := 3) sc_are_farther_below.nd rfl (Or.inl rfl) (pe_ix (k_ixU (K := K) rfl hu) (pv 2) (pv 4) (fun _ _ => rfl))))))
  (pss_one (ps_ret pe_bl)))), ?_⟩
    walk_at "vc"
    refine .inl ⟨⟨_, SqL.of hb⟩, for_list (K := K) (fun i σ H' => ∃ (k' : Nat) (x4 : Option V), σ = [some (.ref b), some (.int k), some (.ref d), some (.int k'), x4] ∧ H' = H ∧ bel ss ws k = bel ss (ws.drop i) k')
      ⟨k, none, rfl, rfl, rfl⟩ (fun i σ H' _ hp => by obtain ⟨_, _, _, z, _⟩ := hp; rw [z]; exact SqL.of hb) (fun i y σ H1 hy hp => ?_) fun σ H1 hp => ?_⟩
    · obtain ⟨k', x4, rfl, rfl, hdue⟩ := hp
      obtain ⟨o, go, rfl⟩ := str_eq_list hy
      rw [drop_at go] at hdue
      have eb : bel ss (o :: ws.drop (i + 1)) k' = if o ∈ ss ∧ k' < ss.idxOf o then bel ss (ws.drop (i + 1)) (ss.idxOf o) else false := rfl
      rw [eb] at hdue
      walk_at "vc"
      refine ⟨d, rfl, .inl ⟨_, .inl hd⟩, ?_⟩
      walk_at "vc"
      refine ⟨_, rfl, ?_⟩
      refine ⟨_, DGet.k (k := Sum.inr o) hd, ?_⟩
      by_cases ho : o ∈ ss
      · obtain ⟨j, hj, gj, vj⟩ := numK_some (i := 0) ho
        rw [Nat.zero_add] at vj
        have hji : ss.idxOf o = j := idx_at hnd gj
        subst hji
        rw [vj]
        walk_at "vc"
        show rLeU (.int (ss.idxOf o : Nat)) (.int k') _ _
        walk_at "vc"
        refine ite2 (fun h => ?_) fun h => ?_
        · walk_at "vc"
          rw [if_neg (fun z => by have := of_decide_eq_true h; omega)] at hdue
          rw [hdue] at q
          exact q
        · have h' : k' < ss.idxOf o := by
            by_cases hh : k' < ss.idxOf o
            · exact hh
            · exact absurd (decide_eq_true (by omega)) h
          rw [if_pos ⟨ho, h'⟩] at hdue
          walk_at "vc"
          refine .inr ⟨d, .int (ss.idxOf o : Nat), rfl, ?_, _, _, rfl, rfl, hdue⟩
          have := DGet.k (k := Sum.inr o) hd
          rw [vj] at this
          exact this
      · rw [numK_none ho]
        walk_at "vc"
        show rLeU (.int (-1)) (.int k') _ _
        walk_at "vc"
        refine ite2 (fun h => ?_) fun h => ?_
        · walk_at "vc"
          rw [if_neg (fun z => ho z.1)] at hdue
          rw [hdue] at q
          exact q
        · exact absurd (decide_eq_true (by omega)) h
    · obtain ⟨k', x4, rfl, rfl, hdue⟩ := hp
      rw [List.length_map, List.drop_length] at hdue
      walk_at "vc"
      rw [hdue] at q
      exact q
end
/- ties_in: calls ['are_farther_below']; cells ['parts'] -/
abbrev s_ties_in : Stmt := top 24
theorem sc_ties_in : FnScope ["lines", "numbers", "ties", "at", "line", "parts", "words"] ["lines", "numbers"] (defScope s_ties_in) := ⟨rfl, rfl, rfl, by decide +kernel, rfl, by decide +kernel, by decide +kernel⟩
theorem All2.cat {α β : Type} {R : α → β → Prop} {l1 l2 : List α} {m1 m2 : List β} (h1 : All2 R l1 m1) (h2 : All2 R l2 m2) : All2 R (l1 ++ l2) (m1 ++ m2) := by
  refine ⟨by rw [List.length_append, List.length_append, h1.len, h2.len], fun k a b ha hb => ?_⟩
  by_cases hk : k < l1.length
  · rw [List.getElem?_append_left hk] at ha
    rw [List.getElem?_append_left (by rw [← h1.len]; exact hk)] at hb
    exact h1.at_ k a b ha hb
  · rw [List.getElem?_append_right (by omega)] at ha
    rw [List.getElem?_append_right (by rw [← h1.len]; omega), ← h1.len] at hb
    exact h2.at_ _ a b ha hb
section
variable {P : Program} {w : World} {K : W.Frag} {mg : Str → Option Value} {base : Heap} {cc : Nat → Addr} {cw : Addr}
theorem ok_ti {f : Addr} {fd : FuncData} (F : Fun K "ties_in" "ties_in" s_ties_in f fd) (T : Txt K mg cc cw) (D_are_farther_below : DefOk P w K mg base CX0 1 "are_farther_below" ["names", "at", "numbers"] spBel)
    (D_NoText : XMakeOk P w K mg base 2 (cc 5) "NoText" ["self", "at"] (spX (cc 5) (fldn 5))) : FnOk P w K mg base (CX1 P w) 4 f fd ["lines", "numbers"] (spTi cc) := by
  refine F.ok1 sc_ties_in (fun vs H Q E h => ?_) fun cdv A outer s H vs Q E hr h => ?_
  · obtain ⟨a, d, ls, ss, rfl, _⟩ := h; rfl
  · obtain ⟨a, d, ls, ss, rfl, ha, hlen, hd, hnd, hz, q⟩ := h
    have hu := u100 hr
    refine ⟨_, (pss_cons (ps_set (i := 2) sc_ties_in.nd rfl (Or.inl rfl) (pe_lst pa_nil))
  (pss_cons (ps_for PassesOwn.leaving rfl (pi_enum (K := K) rfl rfl T.b_enumerate (pa_cons (pv 0) pa_nil)) (pg_tup rfl (pgs_cons (pg_name (i := 3) sc_ties_in.nd rfl (Or.inl rfl)) (pgs_cons (pg_name (i := 4) sc_ties_in.nd rfl (Or.inl rfl)) pgs_nil)))
  (pss_cons (ps_set (i := 5) sc_ties_in.nd rfl (Or.inr rfl) (k_bm (K := K) rfl PySem.F.plainAttrs_str PySem.F.slot_str_partition PySem.F.type_str_partition mt_partition (pv 4) (pa_cons pe_str pa_nil)))
  (pss_cons (ps_set (i := 6) sc_ties_in.nd rfl (Or.inl rfl) (k_bm (K := K) rfl PySem.F.plainAttrs_str PySem.F.slot_str_split PySem.F.type_str_split mt_split (pe_ix (k_ixU (K := K) rfl hu) (pv 5) pe_int (fun _ _ => rfl)) (pa_cons pe_str pa_nil)))
  (pss_cons (ps_if (PW.pt (pw_or (pt_cmpR (k_neU (K := K) rfl hu) (pe_ix (k_ixU (K := K) rfl hu) (pv 6) pe_int (fun _ _ => rfl)) pe_str (nomark _)) (pw_or1 (pt_not (pt_val (pe_def D_are_farther_below (hm hr) pass0 (pa_cons (pe_slice (k_sl (K := K) rfl) (pv 6) (po_some pe_int) po_none) (pa_cons (pv 3) (pa_cons (pv 1) pa_nil))))))))) (pss_one (k_raise (K := K) rfl xok_fn (pe_xm D_NoText (hm hr) (pa_cons (pv 3) pa_nil)))) pss_nil)
  (pss_cons (ps_expr (k_bm (K := K) rfl PySem.F.plainAttrs_list PySem.F.slot_list_extend PySem.F.type_list_extend mtR_extend (pv 2) (pa_cons (pe_comp (sc := defScope s_ties_in) (XN := ["lines", "numbers", "ties", "at", "line", "parts", "words"]) ["name", "parts"] 1 [5] rfl rfl rfl (by decide +kernel) rfl (by decide +kernel)
   (ki_any (K := K) rfl (pe_slice (k_sl (K := K) rfl) (pv 6) (po_some pe_int) po_none)) (fun _ _ _ _ => (pg_name (i := 0) (show (["name", "parts"] : List Str).Nodup by decide +kernel) rfl (Or.inl rfl))) gk_name
   (fun _ _ _ _ => pifs_nil)
   (fun _ _ _ _ => (pe_tup (pa_cons (pe_ix (k_ixU (K := K) rfl hu) (pv 1) pe_int (fun _ _ => rfl)) (pa_cons (pv 0) pa_nil))))) pa_nil)))
  (pss_one (ps_if (pt_cmpR op_gt (pe_callB (k_len (K := K) rfl) rfl T.b_len boot_len (pa_cons (pv 2) pa_nil)) (pe_globI rfl T.g_MOST_TIES) (nomark _)) (pss_one (k_raise (K := K) rfl xok_fn (pe_xm D_NoText (hm hr) (pa_cons (pv 3) pa_nil)))) pss_nil)))))))
  (pss_one (ps_ret (pv 2))))), ?_⟩
    walk_at "vc"
    refine ⟨by decide, fun r hr0 => ?_⟩
    have s0 := Snew (L2.Same.refl H) (o := .lst []) hr0
    walk_at "vc"
    refine ⟨a, _, rfl, SqL.of (s0 _ _ ha), for_enum (K := K) (fun i σ H' => ∃ (acc : List (Str × Str)) (us : List Addr) (x3 x4 x5 x6 : Option V), σ = [some (.ref a), some (.ref d), some (.ref r), x3, x4, x5, x6] ∧ L2.Same H H' ∧ H' r = some (.lst (us.map V.ref)) ∧ All2 (PrAt H H' r) us acc ∧ acc.length ≤ 30 ∧ ti ss ls 0 [] = ti ss (ls.drop i) i acc)
      ⟨[], [], none, none, none, none, rfl, s0, upd_same, All2.nil, by decide, rfl⟩ (fun i σ H' _ hp => by obtain ⟨_, _, _, _, _, _, _, z, _⟩ := hp; exact SqL.of (z _ _ ha)) (fun i y t σ H1 hy ht hp => ?_) fun σ H1 hp => ?_⟩
    · obtain ⟨acc, us, x3, x4, x5, x6, rfl, s1, hk, hall, hal, hdue⟩ := hp
      obtain ⟨l, gl, rfl⟩ := str_eq_list hy
      have hl := hlen l (List.mem_of_getElem? gl)
      rw [drop_at gl] at hdue
      have s2 := Snew s1 (o := .tup [.int i, .str l]) ht
      have s12 := Snew (L2.Same.refl H1) (o := .tup [.int i, .str l]) ht
      refine ⟨t, _, rfl, SqT.of upd_same, rfl, _, _, rfl, _, _, rfl, rfl, ?_⟩
      replace hk := s12 _ _ hk
      replace hall := hall.mono fun _ _ z => z.same s12
      generalize upd H1 t (.tup [.int i, .str l]) = H2 at s2 hk hall ⊢
      walk_at "vc"
      refine ⟨rfl, ?_⟩
      walk_at "vc"
      refine ⟨l, _, rfl, rfl, by decide +kernel, Nat.le_trans hl (by decide), fun p hp => ?_⟩
      have s3 := Snew s2 (o := .tup [.str (pHead l), .str (pMid l), .str (pTail l)]) hp
      have s23 := Snew (L2.Same.refl H2) (o := .tup [.str (pHead l), .str (pMid l), .str (pTail l)]) hp
      have ep : upd H2 p (.tup [.str (pHead l), .str (pMid l), .str (pTail l)]) p = some (.tup [.str (pHead l), .str (pMid l), .str (pTail l)]) := upd_same
      replace hk := s23 _ _ hk
      replace hall := hall.mono fun _ _ z => z.same s23
      change tSeq _ _ _ _ (upd H2 p (.tup [.str (pHead l), .str (pMid l), .str (pTail l)]))
      generalize upd H2 p (.tup [.str (pHead l), .str (pMid l), .str (pTail l)]) = H3 at s3 hk ep hall ⊢
      clear s23 s12
      walk_at "vc"
      refine .inl (vIxT ep rfl ?_)
      refine ⟨rfl, ?_⟩
      walk_at "vc"
      have htl := (tail_len l).1
      refine ⟨pTail l, _, rfl, rfl, by decide +kernel, Nat.le_trans (Nat.add_le_add_right (Nat.le_trans htl hl) 2) (by decide), fun g hg => ?_⟩
      have s4 := Snew s3 (o := .lst ((wds l).map V.str)) hg
      have s34 := Snew (L2.Same.refl H3) (o := .lst ((wds l).map V.str)) hg
      have eg : upd H3 g (.lst ((wds l).map V.str)) g = some (.lst ((wds l).map V.str)) := upd_same
      replace hk := s34 _ _ hk
      replace ep := s34 _ _ ep
      replace hall := hall.mono fun _ _ z => z.same s34
      change tSeq _ _ _ _ (upd H3 g (.lst ((wds l).map V.str)))
      generalize upd H3 g (.lst ((wds l).map V.str)) = H4 at s4 hk ep hall eg ⊢
      clear s34
      have ewl := wds_len l
      have ewc := wds_cons l
      have eti : ti ss (l :: ls.drop (i + 1)) i acc = if (wds l).headD "" ≠ "" ∨ bel ss (wds l).tail i = false ∨ 30 < (acc ++ rowT l).length then .inl i else ti ss (ls.drop (i + 1)) (i + 1) (acc ++ rowT l) := rfl
      rw [eti] at hdue
      have erow : rowT l = (wds l).tail.map fun o => (pHead l, o) := rfl
      generalize (wds l).tail = tl at ewc hdue erow
      generalize (wds l).headD "" = hd0 at ewc hdue
      rw [ewc] at eg ewl
      have etl : tl.length ≤ 100002 := by rw [List.length_cons] at ewl; omega
      walk_at "vc"
      refine .inl (vIxL eg (atI_nat (j := 0) rfl) ?_)
      refine .inl ⟨rfl, rfl, ?_⟩
      rw [if_pos rfl, eqV_str]
      walk_at "vc"
      refine ite2 (fun h => ?_) fun h => ?_
      · refine iteT ?_
        walk_at "vc"
        rw [if_pos (.inl (by simpa using h))] at hdue
        exact raise_done (T.xat 5 (by decide)) ((hz i hdue).later s4)
      have h1 : hd0 = "" := by simpa using h
      have cutE : ∀ (G : Hp) (X : VK), (∀ p, G p = none → X (.ref p) (upd G p (.lst (tl.map V.str)))) → G g = some (.lst ((hd0 :: tl).map V.str)) → rSlU K (.ref g) (some 1) none G X := fun G X h e => by
        refine .inl ⟨g, _, rfl, SqL.of e, fun p hp => ?_⟩
        rw [List.map_cons, cut_tail]
        exact h p hp
      walk_at "vc"
      refine cutE _ _ (fun c hc => ?_) eg
      have s5 := Snew s4 (o := .lst (tl.map V.str)) hc
      have s45 := Snew (L2.Same.refl H4) (o := .lst (tl.map V.str)) hc
      have ec : upd H4 c (.lst (tl.map V.str)) c = some (.lst (tl.map V.str)) := upd_same
      replace hk := s45 _ _ hk
      replace ep := s45 _ _ ep
      replace eg := s45 _ _ eg
      replace hall := hall.mono fun _ _ z => z.same s45
      generalize upd H4 c (.lst (tl.map V.str)) = H5 at s5 hk ep hall eg ec ⊢
      clear s45
      walk_at "vc"
      refine ⟨c, d, tl, ss, i, rfl, ec, s5 _ _ hd, hnd, ?_⟩
      walk_at "vc"
      refine ite2 (fun h => ?_) fun h => ?_
      · walk_at "vc"
        have h' : bel ss tl i = false := by simpa using h
        rw [if_pos (.inr (.inl h'))] at hdue
        exact raise_done (T.xat 5 (by decide)) ((hz i hdue).later s5)
      have h2 : bel ss tl i = true := by simpa using h
      walk_at "vc"
      refine ⟨.inl ⟨rfl, _, SqL.of hk⟩, ?_⟩
      walk_at "vc"
      refine cutE _ _ (fun c2 hc2 => ?_) eg
      have s6 := Snew s5 (o := .lst (tl.map V.str)) hc2
      have s56 := Snew (L2.Same.refl H5) (o := .lst (tl.map V.str)) hc2
      have ec2 : upd H5 c2 (.lst (tl.map V.str)) c2 = some (.lst (tl.map V.str)) := upd_same
      replace hk := s56 _ _ hk
      replace ep := s56 _ _ ep
      replace hall := hall.mono fun _ _ z => z.same s56
      refine .inl ⟨⟨_, SqL.of upd_same⟩, ?_⟩
      generalize upd H5 c2 (.lst (tl.map V.str)) = H6 at s6 hk ep hall ec2 ⊢
      clear s56
      refine comp_list (K := K) (fun k ys H' => L2.Same H6 H' ∧ ∃ vs : List Addr, ys = vs.map V.ref ∧ vs.length = k ∧ All2 (PrAt H H' r) vs ((tl.take k).map fun o => (pHead l, o)))
        ⟨L2.Same.refl H6, [], rfl, rfl, All2.nil⟩ (fun k ys H' _ hp => SqL.of (hp.1 _ _ ec2)) (fun k y ys H7 hy hp => ?_) fun ys H7 hp => ?_
      · obtain ⟨s67, vs, rfl, hvl, hv⟩ := hp
        obtain ⟨o, gk, rfl⟩ := str_eq_list hy
        have hk14 : k < tl.length := (List.getElem?_eq_some_iff.mp gk).1
        have htk2 : tl.take (k + 1) = tl.take k ++ [o] := by rw [List.take_add_one, gk]; rfl
        walk_at "vc"
        refine iteT ?_
        walk_at "vc"
        refine .inl (vIxT (s67 _ _ ep) rfl ?_)
        walk_at "vc"
        refine ⟨by show 2 ≤ sizeLine; decide, fun t' ht' => ?_⟩
        have s8 := Snew (L2.Same.refl H7) (o := .tup [.str (pHead l), .str o]) ht'
        have nt : t' ≠ r := fun e => by rw [e, s67 _ _ hk] at ht'; cases ht'
        refine ⟨by rw [List.length_map, hvl]; exact Nat.lt_of_lt_of_le hk14 (Nat.le_trans etl (by decide)), s67.trans s8, vs ++ [t'], by rw [List.map_append]; rfl, by rw [List.length_append, hvl]; rfl, ?_⟩
        rw [htk2, List.map_append]
        exact (hv.mono fun t' ab h => h.same s8).snoc ⟨(s6.trans s67).free ht', nt, upd_same⟩
      · obtain ⟨s67, vs, rfl, hvl, hv⟩ := hp
        rw [List.length_map] at hvl
        have etk : tl.take (tl.map V.str).length = tl := by rw [List.length_map, List.take_length]
        rw [etk, ← erow] at hv
        have hrl : (rowT l).length = tl.length := by rw [erow, List.length_map]
        have hul : us.length = acc.length := hall.len
        refine ⟨by rw [List.length_map, hvl]; exact Nat.le_trans etl (by decide), fun b hb => ?_⟩
        walk_at "vc"
        have s8 := Snew (L2.Same.refl H7) (o := .lst (vs.map V.ref)) hb
        have nb : r ≠ b := ne_of_none (s67 _ _ hk) hb
        refine ⟨r, b, _, _, rfl, rfl, s8 _ _ (s67 _ _ hk), upd_same, by rw [List.length_map, List.length_map, hvl, hul]; exact Nat.le_trans (Nat.add_le_add hal etl) (by decide), ?_⟩
        have sN : L2.Same H (upd (upd H7 b (.lst (vs.map V.ref))) r (.lst (us.map V.ref ++ vs.map V.ref))) := Supd ((s6.trans s67).trans s8) hr0
        have er : upd (upd H7 b (.lst (vs.map V.ref))) r (.lst (us.map V.ref ++ vs.map V.ref)) r = some (.lst ((us ++ vs).map V.ref)) := by rw [upd_same, List.map_append]
        have hallN : All2 (PrAt H (upd (upd H7 b (.lst (vs.map V.ref))) r (.lst (us.map V.ref ++ vs.map V.ref))) r) (us ++ vs) (acc ++ rowT l) := All2.cat (hall.mono fun t ab h => ⟨h.1, h.2.1, by rw [upd_ne h.2.1]; exact s8 _ _ (s67 _ _ h.2.2)⟩) (hv.mono fun t ab h => ⟨h.1, h.2.1, by rw [upd_ne h.2.1]; exact s8 _ _ h.2.2⟩)
        generalize upd (upd H7 b (.lst (vs.map V.ref))) r (.lst (us.map V.ref ++ vs.map V.ref)) = H8 at sN er hallN ⊢
        walk_at "vc"
        refine vLenL er ?_
        rw [List.length_map]
        walk_at "vc"
        have elen : (us ++ vs).length = (acc ++ rowT l).length := hallN.len
        refine ite2 (fun h => ?_) fun h => ?_
        · walk_at "vc"
          have h' : 30 < (acc ++ rowT l).length := by have := of_decide_eq_true h; rw [← elen]; omega
          rw [if_pos (.inr (.inr h'))] at hdue
          exact raise_done (T.xat 5 (by decide)) ((hz i hdue).later sN)
        · have h' : ¬ 30 < (acc ++ rowT l).length := fun z => h (decide_eq_true (by rw [elen]; omega))
          rw [if_neg (fun z => by rcases z with z | z | z; exact z h1; (rw [h2] at z; cases z); exact h' z)] at hdue
          exact ⟨acc ++ rowT l, us ++ vs, _, _, _, _, rfl, sN, er, hallN, by omega, hdue⟩
    · obtain ⟨acc, us, x3, x4, x5, x6, rfl, s1, hk, hall, hal, hdue⟩ := hp
      rw [List.length_map, List.drop_length] at hdue
      walk_at "vc"
      exact q acc hdue r us H1 s1 hr0 hk hall
end
/- read_web: calls ['first_words', 'ties_in']; cells [] -/
abbrev s_read_web : Stmt := top 22
theorem sc_read_web : FnScope ["text", "lines", "numbers"] ["text"] (defScope s_read_web) := ⟨rfl, rfl, rfl, by decide +kernel, rfl, by decide +kernel, by decide +kernel⟩
theorem fw_ok : ∀ {ls : List Str} {k : Nat} {acc ss : List Str}, fw ls k acc = .inr ss → acc.length = k → k ≤ 14 → acc.Nodup → (∀ s ∈ acc, nameS s = true) → ss = acc ++ ls.map pHead ∧ NOk ss
  | [], k, acc, ss, h, hl, h14, hn, hm => by
    have h : Sum.inr acc = Sum.inr ss := h
    cases h
    exact ⟨by simp, ⟨by omega, hn, hm⟩⟩
  | l :: r, k, acc, ss, h, hl, h14, hn, hm => by
    have h : (if pMid l = "" ∨ nameS (pHead l) = false ∨ pHead l ∈ acc ∨ 14 ≤ k then Sum.inl k else fw r (k + 1) (acc ++ [pHead l])) = Sum.inr ss := h
    split at h
    · cases h
    · rename_i hc
      have h2 : nameS (pHead l) = true := by
        cases e : nameS (pHead l)
        · exact absurd (.inr (.inl e)) hc
        · rfl
      have h3 : pHead l ∉ acc := fun z => hc (.inr (.inr (.inl z)))
      have h4 : ¬ 14 ≤ k := fun z => hc (.inr (.inr (.inr z)))
      obtain ⟨e1, e2⟩ := fw_ok h (by rw [List.length_append, hl]; rfl) (by omega) (by
        rw [List.nodup_append]
        exact ⟨hn, by simp, fun a ha b hb => by rw [List.mem_singleton.mp hb]; exact fun z => h3 (z ▸ ha)⟩) fun s hs => by
          rcases List.mem_append.mp hs with z | z
          · exact hm s z
          · rw [List.mem_singleton.mp z]; exact h2
      exact ⟨by rw [e1, List.append_assoc]; rfl, e2⟩
theorem bel_ok {ss : List Str} : ∀ {tl : List Str} {k : Nat}, bel ss tl k = true → (∀ o ∈ tl, o ∈ ss ∧ k < ss.idxOf o) ∧ tl.Nodup
  | [], _, _ => ⟨by simp, by simp⟩
  | w :: r, k, h => by
    have h : (if w ∈ ss ∧ k < ss.idxOf w then bel ss r (ss.idxOf w) else false) = true := h
    split at h
    · rename_i hc
      obtain ⟨i1, i2⟩ := bel_ok h
      refine ⟨fun o ho => ?_, ?_⟩
      · rcases List.mem_cons.mp ho with rfl | ho
        · exact hc
        · exact ⟨(i1 o ho).1, Nat.lt_trans hc.2 (i1 o ho).2⟩
      · rw [List.nodup_cons]
        exact ⟨fun z => Nat.lt_irrefl _ (i1 w z).2, i2⟩
    · cases h
theorem ti_ok {ss : List Str} (hnd : ss.Nodup) : ∀ {ls : List Str} {k : Nat} {acc tps : List (Str × Str)}, ti ss ls k acc = .inr tps → ss.drop k = ls.map pHead → TOk ss acc → (∀ ab ∈ acc, ∃ j, j < k ∧ ss[j]? = some ab.1) → TOk ss tps
  | [], k, acc, tps, h, hd, hT, _ => by
    have h : Sum.inr acc = Sum.inr tps := h
    cases h
    exact hT
  | l :: r, k, acc, tps, h, hd, hT, hF => by
    have h : (if (wds l).headD "" ≠ "" ∨ bel ss (wds l).tail k = false ∨ 30 < (acc ++ rowT l).length then Sum.inl k else ti ss r (k + 1) (acc ++ rowT l)) = Sum.inr tps := h
    split at h
    · cases h
    · rename_i hc
      have h2 : bel ss (wds l).tail k = true := by
        cases e : bel ss (wds l).tail k
        · exact absurd (.inr (.inl e)) hc
        · rfl
      have h3 : ¬ 30 < (acc ++ rowT l).length := fun z => hc (.inr (.inr z))
      obtain ⟨b1, b2⟩ := bel_ok h2
      have gk : ss[k]? = some (pHead l) := by
        have e := congrArg (fun x : List Str => x[0]?) hd
        simpa using e
      have hrow : ∀ ab ∈ rowT l, ab.1 = pHead l ∧ ab.2 ∈ (wds l).tail := fun ab hab => by
        obtain ⟨o, ho, rfl⟩ := List.mem_map.mp hab
        exact ⟨rfl, ho⟩
      refine ti_ok hnd h ?_ ⟨by omega, fun ab hab => ?_, ?_⟩ fun ab hab => ?_
      · have e := congrArg List.tail hd
        rw [List.tail_drop] at e
        exact e
      · rcases List.mem_append.mp hab with z | z
        · exact hT.ok ab z
        · obtain ⟨e1, e2⟩ := hrow ab z
          exact ⟨k, ss.idxOf ab.2, (b1 _ e2).2, by rw [e1]; exact gk, idx_get (b1 _ e2).1⟩
      · rw [List.nodup_append]
        refine ⟨hT.nd, ?_, fun a ha b hb e => ?_⟩
        · exact List.Pairwise.map _ (fun x y hxy e => hxy (Prod.mk.inj e).2) b2
        · obtain ⟨j, hj, gj⟩ := hF a ha
          rw [e, (hrow b hb).1] at gj
          have := nodup_inj hnd gj gk
          omega
      · rcases List.mem_append.mp hab with z | z
        · obtain ⟨j, hj, gj⟩ := hF ab z
          exact ⟨j, by omega, gj⟩
        · exact ⟨k, by omega, by rw [(hrow ab z).1]; exact gk⟩
def rdT (z : Str) : Sum Nat (List Str × List (Str × Str)) := if z = "" then .inr ([], []) else match fw (PySem.Txt.split z "\n") 0 [] with
  | .inl k => .inl k
  | .inr ss => match ti ss (PySem.Txt.split z "\n") 0 [] with
    | .inl k => .inl k
    | .inr tps => .inr (ss, tps)
theorem Shuf.self (tps : List (Str × Str)) : Shuf tps tps := ⟨tps, List.Perm.refl _, rfl, fun k a b h1 h2 => by rw [h1] at h2; cases h2; exact .inl rfl⟩
theorem WebN.old {H0 H1 : Hp} {cw : Addr} {H : Hp} {x : Addr} {ss : List Str} {ns : List Nat} (h : WebN H1 cw H x ss ns) (s : L2.Same H0 H1) : WebN H0 cw H x ss ns := by
  obtain ⟨dx, d, ol, n, h1, h2, h3, h4, h5, a2, a3, a4⟩ := h
  exact ⟨dx, d, ol, n, h1, h2, h3, h4, h5, s.free a2, s.free a3, s.free a4⟩
theorem web_made {cc : Nat → Addr} {cw : Addr} {G : Hp} {c1 l' x dx : Addr} {ss : List Str} {us : List Addr} {tps ups : List (Str × Str)} {Q : VK} {E : XK} (h1 : G c1 = some (.lst (ss.map V.str))) (h2 : G l' = some (.lst (us.map V.ref))) (hA : All2 (fun t ab => G t = some (.tup [.str ab.1, .str ab.2])) us ups)
    (hO : NOk ss) (hT : TOk ss tps) (sh : Shuf tps ups) (hx0 : G x = none) (hdx : G dx = none) (hne : x ≠ dx) (q : ∀ ns H', L2.Same G H' → WebN G cw H' x ss ns → BitsOk ss ns ups → Q .non H') :
    spWeb cc cw [.ref x, .ref c1, .ref l'] (upd (upd G dx (.own x)) x (.ins cw dx [])) Q E := by
  have s0 : L2.Same G (upd (upd G dx (.own x)) x (.ins cw dx [])) := Snew (Snew (L2.Same.refl G) hdx) (by rw [upd_ne hne]; exact hx0)
  have hl0 := hA.mono fun t ab z => s0 _ _ z
  have mk0 := make_ok (H := upd (upd G dx (.own x)) x (.ins cw dx [])) (v := .ref c1) (v2 := .ref l') hO hT sh hl0
  have nx : ∀ {a : Addr} {o : HO}, G a = some o → a ≠ x := fun e z => by rw [z, hx0] at e; cases e
  refine ⟨x, x, dx, .ref c1, some (ss.map V.str), .ref l', some (us.map V.ref), rfl, upd_same, .lst (s0 _ _ h1) (nx h1) (fun v hv => ?_) (by rw [List.length_map]; have := hO.few; omega), .lst (s0 _ _ h2) (nx h2) (fun v hv => ?_) (by rw [List.length_map, hA.len, sh.len]; have := hT.few; omega), (fun r e => by rw [mk0.1] at e; cases e), fun _ ns H' b hWN hbits => ?_⟩
  · obtain ⟨s, hs, rfl⟩ := List.mem_map.mp hv
    exact Th.flat rfl fun z e => by cases e; have := nameS_len (hO.nm _ hs); omega
  · obtain ⟨u, hu', rfl⟩ := List.mem_map.mp hv
    obtain ⟨ab, hab, eu⟩ := hA.mem hu'
    obtain ⟨g1, g2, _⟩ := sh.good hT ab hab
    refine (Th.tup (n := 1) (s0 _ _ eu) (nx eu) (fun z hz => ?_) (by show 2 ≤ 1000; decide))
    simp only [List.mem_cons, List.not_mem_nil, or_false] at hz
    rcases hz with rfl | rfl
    · exact Th.flat rfl fun z e => by cases e; have := nameS_len (hO.nm _ g1); omega
    · exact Th.flat rfl fun z e => by cases e; have := nameS_len (hO.nm _ g2); omega
  · have e1 : ((some (ss.map V.str)).getD []).map strV = ss := names_map ss
    rw [e1] at hbits hWN
    have e2 : ((some (us.map V.ref)).getD []).filterMap (tieV (upd (upd G dx (.own x)) x (.ins cw dx [])) ss) = ups := mk0.2
    rw [e2] at hbits
    exact q ns H' (b.out s0 hx0) (hWN.old s0) hbits
def spRead (cc : Nat → Addr) (cw : Addr) : Sp := fun vs H Q E => ∃ (p : Addr) (n : Nat) (v : V), vs = [v] ∧ Th p H n v ∧ ((∀ z, v ≠ .str z) → Rz cc H E (5, .int 0)) ∧ ∀ z, v = .str z → (∀ k : Nat, rdT z = .inl k → Rz cc H E (5, .int k)) ∧
  ∀ ss tps, rdT z = .inr (ss, tps) → NOk ss → TOk ss tps → ∀ (x : Addr) (ns : List Nat) (H' : Hp), L2.Same H H' → H x = none → WebN H cw H' x ss ns → BitsOk ss ns tps → Q (.ref x) H'
section
variable {P : Program} {w : World} {K : W.Frag} {mg : Str → Option Value} {base : Heap} {cc : Nat → Addr} {cw : Addr}
theorem ok_read {f : Addr} {fd : FuncData} (F : Fun K "read_web" "read_web" s_read_web f fd) (T : Txt K mg cc cw) (D_first_words : DefOk P w K mg base (CX1 P w) 4 "first_words" ["lines"] (spFw cc)) (D_ties_in : DefOk P w K mg base (CX1 P w) 4 "ties_in" ["lines", "numbers"] (spTi cc)) (D_Web : MakeOk P w K mg base (CX1 P w) 5 cw "Web" ["self", "names", "ties"] (spWeb cc cw))
    (D_NoText : XMakeOk P w K mg base 2 (cc 5) "NoText" ["self", "at"] (spX (cc 5) (fldn 5))) : FnOk P w K mg base (CX1 P w) 7 f fd ["text"] (spRead cc cw) := by
  refine F.ok1 sc_read_web (fun vs H Q E h => ?_) fun cdv A outer s H vs Q E hr h => ?_
  · obtain ⟨p, n, v, rfl, _⟩ := h; rfl
  · obtain ⟨p, n, v, rfl, hv, hz0, hq⟩ := h
    have hu := u100 hr
    refine ⟨_, (pss_cons (ps_if (pt_not (pt_val (pe_callB (k_isiU (K := K) rfl) rfl T.b_isinstance boot_isinstance (pa_cons (pv 0) (pa_cons (pe_bltn (v := .ty "str") rfl T.b_str boot_str rfl) pa_nil))))) (pss_one (k_raise (K := K) rfl xok_fn (pe_xm D_NoText (hm hr) (pa_cons pe_int pa_nil)))) pss_nil)
  (pss_cons (ps_if (pt_cmpR (k_eqZ (K := K) rfl hu) (pv 0) pe_str (nomark _)) (pss_one (ps_ret (pe_makeS D_Web (hm hr) xok_fn (pa_cons (pe_lst pa_nil) (pa_cons (pe_lst pa_nil) pa_nil))))) pss_nil)
  (pss_cons (ps_set (i := 1) sc_read_web.nd rfl (Or.inl rfl) (k_bm (K := K) rfl PySem.F.plainAttrs_str PySem.F.slot_str_split PySem.F.type_str_split mt_split (pv 0) (pa_cons pe_str pa_nil)))
  (pss_cons (ps_set (i := 2) sc_read_web.nd rfl (Or.inl rfl) (pe_defS D_first_words (hm hr) xok_fn (pa_cons (pv 1) pa_nil)))
  (pss_one (ps_ret (pe_makeS D_Web (hm hr) xok_fn (pa_cons (pe_callTy (k_listU (K := K) rfl rfl) rfl T.b_list boot_list (pa_cons (pv 2) pa_nil)) (pa_cons (pe_defS D_ties_in (hm hr) xok_fn (pa_cons (pv 1) (pa_cons (pv 2) pa_nil))) pa_nil))))))))), ?_⟩
    walk_at "vc"
    obtain ⟨t, ht, ty, hs, hn, _, _, _⟩ := hv.ty (K := K)
    refine vIsiU (.inl ty) rfl (kit_tab K t ht "str" (by simp)) ?_
    walk_at "vc"
    refine ite2 (fun h => ?_) fun h => ?_
    · walk_at "vc"
      refine raise_done (T.xat 5 (by decide)) (hz0 fun z e => ?_)
      subst e
      cases ty
      exact absurd h (by decide)
    obtain ⟨z, rfl, hz5⟩ := hs (by simpa using h)
    obtain ⟨hz, q⟩ := hq z rfl
    clear hq hz0 h hs hn ty ht hv
    walk_at "vc"
    refine .inl (.inl (.inl ⟨rfl, rfl, ?_⟩))
    rw [if_neg Bool.false_ne_true, eqV_str]
    walk_at "vc"
    refine ite2 (fun h => ?_) fun h => ?_
    · have hz0 : z = "" := of_decide_eq_true h
      have erd : rdT z = .inr ([], []) := by unfold rdT; rw [if_pos hz0]
      walk_at "vc"
      refine ⟨by decide, fun c1 hc1 => ?_⟩
      have s1 := Snew (L2.Same.refl H) (o := .lst []) hc1
      have e1 : upd H c1 (.lst []) c1 = some (.lst []) := upd_same
      generalize upd H c1 (.lst []) = H1 at s1 e1 ⊢
      walk_at "vc"
      refine ⟨by decide, fun c2 hc2 => ?_⟩
      have s2 := Snew s1 (o := .lst []) hc2
      have e2 : upd H1 c2 (.lst []) c2 = some (.lst []) := upd_same
      have e1' := Snew (L2.Same.refl H1) (o := .lst []) hc2 _ _ e1
      generalize upd H1 c2 (.lst []) = H2 at s2 e1' e2 ⊢
      walk_at "vc"
      intro x dx hx hdx hne
      exact web_made (ss := []) (us := []) (tps := []) (ups := []) e1' e2 All2.nil ⟨by decide, by simp, by simp⟩ ⟨by decide, by simp, by simp⟩ (Shuf.self []) hx hdx hne.symm fun ns H' s' hW hb => ⟨rfl, q [] [] erd ⟨by decide, by simp, by simp⟩ ⟨by decide, by simp, by simp⟩ x ns H' (s2.trans s') (s2.free hx) (hW.old s2) hb⟩
    · have hz0 : ¬ z = "" := fun e => h (decide_eq_true e)
      walk_at "vc"
      refine ⟨rfl, ?_⟩
      walk_at "vc"
      refine ⟨z, _, rfl, rfl, by decide +kernel, Nat.le_trans (Nat.add_le_add_right hz5 2) (by decide), fun g hg => ?_⟩
      have hll : ∀ l ∈ PySem.Txt.split z "\n", l.length ≤ 100000 := fun l hl => Nat.le_trans (part_short hl) hz5
      have erd : rdT z = match fw (PySem.Txt.split z "\n") 0 [] with
          | .inl k => .inl k
          | .inr ss => match ti ss (PySem.Txt.split z "\n") 0 [] with
            | .inl k => .inl k
            | .inr tps => .inr (ss, tps) := by unfold rdT; rw [if_neg hz0]
      change tSeq _ _ _ _ (upd H g (.lst ((PySem.Txt.split z "\n").map V.str)))
      generalize PySem.Txt.split z "\n" = ls at hll erd ⊢
      have s1 := Snew (L2.Same.refl H) (o := .lst (ls.map V.str)) hg
      have eg : upd H g (.lst (ls.map V.str)) g = some (.lst (ls.map V.str)) := upd_same
      generalize upd H g (.lst (ls.map V.str)) = H1 at s1 eg ⊢
      walk_at "vc"
      refine ⟨g, ls, rfl, eg, hll, fun k e => ((hz k (by rw [erd, e])).later s1), fun ss e d H2 s12 hd0 hd => ?_⟩
      rw [e] at erd
      dsimp only at erd
      obtain ⟨ess, hO⟩ := fw_ok e rfl (by decide) (by simp) (by simp)
      rw [List.nil_append] at ess
      have s2 := s1.trans s12
      walk_at "vc"
      refine .inr (.inl ⟨d, _, rfl, hd, fun c1 hc1 => ?_⟩)
      have s3 := Snew s2 (o := .lst ((numK ss 0).map fun kv => kV kv.1)) hc1
      have s23 := Snew (L2.Same.refl H2) (o := .lst ((numK ss 0).map fun kv => kV kv.1)) hc1
      have ec1 : upd H2 c1 (.lst ((numK ss 0).map fun kv => kV kv.1)) c1 = some (.lst ((numK ss 0).map fun kv => kV kv.1)) := upd_same
      rw [numK_keys] at s3 s23 ec1 ⊢
      generalize upd H2 c1 (.lst (ss.map V.str)) = H3 at s3 s23 ec1 ⊢
      walk_at "vc"
      refine ⟨g, d, ls, ss, rfl, s23 _ _ (s12 _ _ eg), hll, s23 _ _ hd, hO.nd, fun k e => ((hz k (by rw [erd, e])).later s3), fun tps e l ts H4 s34 hl0 hl hall => ?_⟩
      rw [e] at erd
      dsimp only at erd
      have hT : TOk ss tps := ti_ok hO.nd e (by rw [List.drop_zero]; exact ess) ⟨by decide, by simp, by simp⟩ (by simp)
      have s4 := s3.trans s34
      walk_at "vc"
      intro x dx hx hdx hne
      exact web_made (s34 _ _ ec1) hl (hall.mono fun _ _ z => z.2.2) hO hT (Shuf.self tps) hx hdx hne.symm fun ns H' s' hW hb => ⟨rfl, q ss tps erd hO hT x ns H' (s4.trans s') (s4.free hx) (hW.old s4) hb⟩
end
def lawLine (dps : List (Str × Str)) (name : Str) : Str := PySem.Txt.join " " ((name ++ ":") :: (dps.filter fun t => decide (t.1 = name)).map (·.2))
def lawT (ss : List Str) (dps : List (Str × Str)) : Str := PySem.Txt.join "\n" (ss.map (lawLine dps))
theorem t_colon : (":" : Str) = ⟨#[58]⟩ := by decide +kernel
theorem t_blank : (" " : Str) = ⟨#[32]⟩ := by decide +kernel
theorem t_no : ("" : Str).cps.toList = [] := by decide +kernel
theorem idx_inc {ss : List Str} (hn : ss.Nodup) : ss.Pairwise (fun a b => ss.idxOf a < ss.idxOf b) := by
  rw [List.pairwise_iff_getElem]
  intro i j hi hj hij
  rw [idx_at hn (List.getElem?_eq_getElem hi), idx_at hn (List.getElem?_eq_getElem hj)]
  exact hij
theorem pair_len : ∀ {l m : List (Str × Str)}, l.Nodup → (∀ x ∈ l, x ∈ m) → l.length ≤ m.length
  | [], _, _, _ => Nat.zero_le _
  | x :: r, m, hn, h => by
    obtain ⟨h1, h2⟩ := List.nodup_cons.mp hn
    have hx := h x List.mem_cons_self
    have ih := pair_len (l := r) (m := m.erase x) h2 fun y hy => (List.mem_erase_of_ne (fun e => h1 (by rw [← e]; exact hy))).mpr (h y (List.mem_cons_of_mem _ hy))
    rw [List.length_erase_of_mem hx] at ih
    have : 0 < m.length := List.length_pos_of_mem hx
    simp only [List.length_cons]
    omega
theorem TOk.ris {ss : List Str} {tps : List (Str × Str)} (hn : ss.Nodup) (hT : TOk ss tps) : TOk ss (risOf ss tps ss) := by
  have hnd : (risOf ss tps ss).Nodup := by
    unfold risOf
    show List.Pairwise _ _
    rw [List.pairwise_flatMap]
    refine ⟨fun a _ => ?_, List.Pairwise.imp (fun {a b} hab x hx y hy e => ?_) hn⟩
    · exact List.Pairwise.map _ (fun x y hxy e => hxy (Prod.mk.inj e).2) (hn.filter _)
    · unfold risRow at hx hy
      obtain ⟨o, _, rfl⟩ := List.mem_map.mp hx
      obtain ⟨o', _, rfl⟩ := List.mem_map.mp hy
      exact hab (Prod.mk.inj e).1
  have hsub : ∀ ab ∈ risOf ss tps ss, ab ∈ tps := fun ab h => (mem_ris hT ab.1 ab.2).mp h
  exact ⟨Nat.le_trans (pair_len hnd hsub) hT.few, fun ab h => hT.ok ab (hsub ab h), hnd⟩
/- _law_lines: calls []; cells ['_law_name'] -/
abbrev s_l_lines : Stmt := top 36
theorem sc_l_lines : FnScope ["_law_names_here", "_law_ties_here", "_law_lines_here", "_law_name"] ["_law_names_here", "_law_ties_here"] (defScope s_l_lines) := ⟨rfl, rfl, rfl, by decide +kernel, rfl, by decide +kernel, by decide +kernel⟩
def spLns : Sp := fun vs H Q _ => ∃ (n dl : Addr) (ss : List Str) (ds : List Addr) (dps : List (Str × Str)), vs = [.ref n, .ref dl] ∧ H n = some (.lst (ss.map V.str)) ∧ ss.length ≤ 15 ∧ (∀ s ∈ ss, s.length ≤ 6) ∧ PL H dl ds dps ∧ dps.length ≤ 200 ∧ (∀ ab ∈ dps, ab.2.length ≤ 6) ∧
  ∀ (r : Addr) (H' : Hp), L2.Same H H' → H r = none → H' r = some (.lst ((ss.map (lawLine dps)).map V.str)) → Q (.ref r) H'
section
variable {P : Program} {w : World} {K : W.Frag} {mg : Str → Option Value} {base : Heap} {cc : Nat → Addr} {cw : Addr}
theorem ok_lns {f : Addr} {fd : FuncData} (F : Fun K "_law_lines" "_law_lines" s_l_lines f fd) : FnOk P w K mg base CX0 1 f fd ["_law_names_here", "_law_ties_here"] spLns := by
  refine F.ok sc_l_lines (fun vs H Q E h => ?_) fun cdv A outer s H vs Q E hr h => ?_
  · obtain ⟨n, dl, ss, ds, dps, rfl, _⟩ := h; rfl
  · obtain ⟨n, dl, ss, ds, dps, rfl, hn, few, hs6, hD, d200, hd6, q⟩ := h
    have hu := u100 hr
    refine ⟨_, (pss_cons (ps_set (i := 2) sc_l_lines.nd rfl (Or.inl rfl) (pe_lst pa_nil))
  (pss_cons (ps_for PassesOwn.never rfl (ki_any (K := K) rfl (pv 0)) (pg_name (i := 3) sc_l_lines.nd rfl (Or.inr rfl))
  (pss_one (ps_expr (k_bm (K := K) rfl PySem.F.plainAttrs_list PySem.F.slot_list_append PySem.F.type_list_append mtR_append (pv 2) (pa_cons (k_bm (K := K) rfl PySem.F.plainAttrs_str PySem.F.slot_str_join PySem.F.type_str_join (k_join (K := K) rfl) pe_str (pa_cons (pe_op (k_add (K := K) rfl) (pe_lst (pa_cons (pe_op (k_add (K := K) rfl) (pv 3) pe_str) pa_nil)) (pe_comp (sc := defScope s_l_lines) (XN := ["_law_names_here", "_law_ties_here", "_law_lines_here", "_law_name"]) ["_law_tie", "_law_name"] 1 [3] rfl rfl rfl (by decide +kernel) rfl (by decide +kernel)
   (ki_any (K := K) rfl (pv 1)) (fun _ _ _ _ => (pg_name (i := 0) (show (["_law_tie", "_law_name"] : List Str).Nodup by decide +kernel) rfl (Or.inl rfl))) gk_name
   (fun _ _ _ _ => (pifs_one (pt_cmpR (k_eqZ (K := K) rfl hu) (pe_ix (k_ixU (K := K) rfl hu) (pv 0) pe_int (fun _ _ => rfl)) (pv 1) (nomark _))))
   (fun _ _ _ _ => (pe_ix (k_ixU (K := K) rfl hu) (pv 0) pe_int (fun _ _ => rfl))))) pa_nil)) pa_nil)))))
  (pss_one (ps_ret (pv 2))))), ?_⟩
    walk_at "vc"
    refine ⟨by decide, fun r hr0 => ?_⟩
    have s0 := Snew (L2.Same.refl H) (o := .lst []) hr0
    walk_at "vc"
    refine .inl ⟨⟨_, SqL.of (s0 _ _ hn)⟩, for_list (K := K) (fun i σ H' => ∃ x3 : Option V, σ = [some (.ref n), some (.ref dl), some (.ref r), x3] ∧ L2.Same H H' ∧ H' r = some (.lst (((ss.take i).map (lawLine dps)).map V.str)))
      ⟨none, rfl, s0, upd_same⟩ (fun i σ H' _ hp => by obtain ⟨_, _, z, _⟩ := hp; exact SqL.of (z _ _ hn)) (fun i y σ H1 hy hp => ?_) fun σ H1 hp => ?_⟩
    · obtain ⟨x3, rfl, s1, hr1⟩ := hp
      obtain ⟨name, gi, rfl⟩ := str_eq_list hy
      have htk : ss.take (i + 1) = ss.take i ++ [name] := by rw [List.take_add_one, gi]; rfl
      have hi15 : i < ss.length := (List.getElem?_eq_some_iff.mp gi).1
      have n6 := hs6 name (List.mem_of_getElem? gi)
      walk_at "vc"
      refine ⟨.inl ⟨rfl, _, SqL.of hr1⟩, ?_⟩
      walk_at "vc"
      refine ⟨rfl, ?_⟩
      walk_at "vc"
      refine vAddS (by rw [one_len.2.1]; exact Nat.le_of_lt (small1000 (by omega))) ?_
      walk_at "vc"
      refine ⟨by show 1 ≤ sizeLine; decide, fun e he => ?_⟩
      have s12 := Snew (L2.Same.refl H1) (o := .lst [.str (name ++ ":")]) he
      have ee : upd H1 e (.lst [.str (name ++ ":")]) e = some (.lst [.str (name ++ ":")]) := upd_same
      generalize upd H1 e (.lst [.str (name ++ ":")]) = H2 at s12 ee ⊢
      have s2 := s1.trans s12
      have hD2 := hD.same s2
      walk_at "vc"
      refine .inl ⟨⟨_, SqL.of hD2.1⟩, comp_list (K := K) (fun k ys H' => L2.Same H2 H' ∧ ys = (((dps.take k).filter fun t => decide (t.1 = name)).map (·.2)).map V.str) ⟨L2.Same.refl H2, by simp⟩ (fun k ys H' _ hp => SqL.of (hp.1 _ _ hD2.1)) (fun k y ys H3 hy hp => ?_) fun ys H3 hp => ?_⟩
      · obtain ⟨s23, rfl⟩ := hp
        rw [List.getElem?_map] at hy
        cases hx' : ds[k]? with
        | none => rw [hx'] at hy; cases hy
        | some t =>
          rw [hx'] at hy
          cases hy
          have hk : k < dps.length := by rw [← hD.2.len]; exact (List.getElem?_eq_some_iff.mp hx').1
          have gk : dps[k]? = some dps[k] := List.getElem?_eq_getElem hk
          have et := s23 _ _ (hD2.2.at_ k t dps[k] hx' gk)
          generalize dps[k] = ab at gk et
          have htk2 : dps.take (k + 1) = dps.take k ++ [ab] := by rw [List.take_add_one, gk]; rfl
          walk_at "vc"
          refine .inl (vIxT et rfl ?_)
          walk_at "vc"
          refine .inl (.inl (.inl ⟨rfl, rfl, ?_⟩))
          rw [if_neg Bool.false_ne_true, eqV_str]
          walk_at "vc"
          refine ite2 (fun hc => ?_) fun hc => ?_
          · walk_at "vc"
            refine .inl (vIxT et rfl ?_)
            refine ⟨by rw [List.length_map, List.length_map]; exact small1000 (Nat.le_trans (List.length_filter_le _ _) (by rw [List.length_take]; omega)), s23, ?_⟩
            rw [htk2, List.filter_append, List.map_append, List.map_append]
            simp [of_decide_eq_true hc]
          · refine ⟨s23, ?_⟩
            have hc' : ¬ ab.1 = name := fun z => hc (decide_eq_true z)
            rw [htk2, List.filter_append, List.map_append, List.map_append]
            simp [hc']
      · obtain ⟨s23, rfl⟩ := hp
        have etk : dps.take (ds.map V.ref).length = dps := by rw [List.length_map, hD.2.len, List.take_length]
        rw [etk]
        have el : lawLine dps name = PySem.Txt.join " " ((name ++ ":") :: (dps.filter fun t => decide (t.1 = name)).map (·.2)) := rfl
        have os6 : ∀ o ∈ (dps.filter fun t => decide (t.1 = name)).map (·.2), o.length ≤ 6 := fun o ho => by
          obtain ⟨ab, hab, rfl⟩ := List.mem_map.mp ho
          exact hd6 ab (List.mem_filter.mp hab).1
        have osl : ((dps.filter fun t => decide (t.1 = name)).map (·.2)).length ≤ 200 := by rw [List.length_map]; exact Nat.le_trans (List.length_filter_le _ _) d200
        generalize (dps.filter fun t => decide (t.1 = name)).map (·.2) = os at el os6 osl ⊢
        refine ⟨by rw [List.length_map]; exact Nat.le_of_lt (small1000 (by omega)), fun c hc => ?_⟩
        have s34 := Snew (L2.Same.refl H3) (o := .lst (os.map V.str)) hc
        have ec : upd H3 c (.lst (os.map V.str)) c = some (.lst (os.map V.str)) := upd_same
        generalize upd H3 c (.lst (os.map V.str)) = H4 at s34 ec ⊢
        have s24 := s23.trans s34
        walk_at "vc"
        refine .inl ⟨e, c, _, _, rfl, rfl, s24 _ _ ee, ec, by rw [List.length_map]; exact Nat.le_of_lt (small1000 (by simp; omega)), fun g hg => ?_⟩
        have s45 := Snew (L2.Same.refl H4) (o := .lst ([.str (name ++ ":")] ++ os.map V.str)) hg
        walk_at "vc"
        have hsum := sum_le os6
        refine ⟨_, g, (name ++ ":") :: os, rfl, rfl, SqL.of upd_same, ?_, ?_⟩
        · rw [one_len.1, List.length_cons, List.map_cons, List.sum_cons, Str.length_append, one_len.2.1]
          have : os.length * 6 ≤ 200 * 6 := Nat.mul_le_mul_right 6 osl
          omega
        have sN := (s2.trans s24).trans s45
        have hrN := s45 _ _ (s24 _ _ (s12 _ _ hr1))
        generalize upd H4 g (.lst ([.str (name ++ ":")] ++ os.map V.str)) = H5 at sN hrN ⊢
        walk_at "vc"
        refine ⟨r, _, _, rfl, rfl, hrN, by rw [List.length_map, List.length_map, List.length_take]; exact small1000 (by omega), ?_⟩
        refine ⟨_, rfl, Supd sN hr0, ?_⟩
        rw [upd_same, htk, List.map_append, List.map_append, ← el]
        rfl
    · obtain ⟨x3, rfl, s1, hr1⟩ := hp
      have etk : ss.take (ss.map V.str).length = ss := by rw [List.length_map, List.take_length]
      rw [etk] at hr1
      walk_at "vc"
      exact q r H1 s1 hr0 hr1
end
/- _law_is_name: calls []; cells [] -/
abbrev s_l_is_name : Stmt := top 37
theorem sc_l_is_name : FnScope ["_law_word"] ["_law_word"] (defScope s_l_is_name) := ⟨rfl, rfl, rfl, by decide +kernel, rfl, by decide +kernel, by decide +kernel⟩
/- _law_tail: calls []; cells [] -/
abbrev s_l_tail : Stmt := top 38
theorem sc_l_tail : FnScope ["_law_words", "_law_at", "_law_line", "_law_tail_here", "_law_last", "_law_names_here", "_law_name"] ["_law_words", "_law_at", "_law_line"] (defScope s_l_tail) := ⟨rfl, rfl, rfl, by decide +kernel, rfl, by decide +kernel, by decide +kernel⟩
theorem cp_len (z : Str) : z.length = z.cps.toList.length := by simp [Str.length]
theorem split_none : PySem.Txt.split "" " " = [("" : Str)] := by
  have h := split_of (c := 32) (ls := [("" : Str)]) (by simp) (fun l hl => by rw [List.mem_singleton.mp hl, t_no]; simp)
  rw [← t_blank] at h
  have e : PySem.Txt.join " " [("" : Str)] = "" := by decide +kernel
  rw [e] at h
  exact h
theorem split_on {t u : Str} (h : t.cps.toList = 32 :: u.cps.toList) : PySem.Txt.split t " " = ("" : Str) :: PySem.Txt.split u " " := by
  have hp := split_pos u " "
  have hj := StrLaws.join_split u " "
  have hf := StrLaws.split_free u 32
  rw [← t_blank] at hf
  cases hs : PySem.Txt.split u " " with
  | nil => rw [hs] at hp; exact absurd hp (by decide)
  | cons a r =>
    rw [hs] at hj hf
    have h2 := split_of (c := 32) (ls := ("" : Str) :: a :: r) (by simp) (fun l hl => by
      rcases List.mem_cons.mp hl with rfl | hl
      · rw [t_no]; simp
      · exact hf l hl)
    rw [← t_blank] at h2
    have e : PySem.Txt.join " " (("" : Str) :: a :: r) = t := by
      apply str_ext
      have e1 := join_jl " " (a :: r)
      rw [hj] at e1
      rw [join_eq, join_jl, h, e1, List.map_cons, t_no, t_blank]
      rfl
    rw [e] at h2
    exact h2
theorem split_off {t : Str} (h0 : t ≠ "") (h : t.cps.toList.head? ≠ some 32) : (PySem.Txt.split t " ").headD "" ≠ "" := by
  have e := split_first t 32
  rw [← t_blank] at e
  rw [e]
  have hp := part_cases t 32
  rw [← t_blank] at hp
  rcases hp with ⟨_, hq⟩ | ⟨a, b, h', _, hq⟩
  · rw [hq]; exact h0
  · rw [hq]
    intro ea
    have ea : a = "" := ea
    rw [ea, t_no] at h'
    exact h (by rw [h']; rfl)
theorem count_all {p : Nat → Bool} : ∀ {l : List Nat}, ((l.filter p).length = l.length) ↔ l.all p = true
  | [] => by simp
  | c :: r => by
    have ih := count_all (p := p) (l := r)
    have hle := List.length_filter_le p r
    rw [List.filter_cons, List.all_cons]
    cases h : p c
    · simp only [Bool.false_and, Bool.false_eq_true, if_false, List.length_cons, iff_false]
      omega
    · simp only [if_true, List.length_cons, Bool.true_and, Nat.add_right_cancel_iff]
      exact ih
def spIsN : Sp := fun vs H Q _ => ∃ z : Str, vs = [.str z] ∧ z.length ≤ 100000 ∧ ∀ H', L2.Same H H' → Q (.bl (nameS z)) H'
def bad6 (ss ws : List Str) (k : Nat) : Prop := ws.headD "" ≠ "" ∨ bel ss ws.tail k = false
def spTail : Sp := fun vs H Q _ => ∃ (a : Addr) (ss : List Str) (k : Nat) (h line t : Str), vs = [.ref a, .int k, .str line] ∧ H a = some (.lst (ss.map V.str)) ∧ ss[k]? = some h ∧ line.length ≤ 100000 ∧ h.length ≤ 100000 ∧ t.cps.toList = line.cps.toList.drop (h.length + 1) ∧
  (bad6 ss (PySem.Txt.split t " ") k → ∀ H', L2.Same H H' → Q .non H') ∧ (¬ bad6 ss (PySem.Txt.split t " ") k → ∀ (r : Addr) (H' : Hp), L2.Same H H' → H r = none → H' r = some (.lst ((PySem.Txt.split t " ").tail.map V.str)) → Q (.ref r) H')
section
variable {P : Program} {w : World} {K : W.Frag} {mg : Str → Option Value} {base : Heap} {cc : Nat → Addr} {cw : Addr}
theorem ok_isn {f : Addr} {fd : FuncData} (F : Fun K "_law_is_name" "_law_is_name" s_l_is_name f fd) (T : Txt K mg cc cw) : FnOk P w K mg base CX0 1 f fd ["_law_word"] spIsN := by
  refine F.ok sc_l_is_name (fun vs H Q E h => ?_) fun cdv A outer s H vs Q E hr h => ?_
  · obtain ⟨z, rfl, _⟩ := h; rfl
  · obtain ⟨z, rfl, hz, q⟩ := h
    have hu := u100 hr
    have hsz : z.length ≤ sizeLine := Nat.le_trans hz (by decide)
    have hno : ¬ (1 ≤ z.length ∧ z.length ≤ 6) → Q (.bl false) H := fun h => by
      have := q H (L2.Same.refl H)
      unfold nameS at this
      rw [if_neg h] at this
      exact this
    refine ⟨_, (pss_one (ps_ret (pe_and (pe_chain op_lt op_lt pe_int (pe_callB (k_len (K := K) rfl) rfl T.b_len boot_len (pa_cons (pv 0) pa_nil)) pe_int) (pe_one (pe_cmpR (k_eqZ (K := K) rfl hu) (pe_callB (k_len (K := K) rfl) rfl T.b_len boot_len (pa_cons (pe_comp (sc := defScope s_l_is_name) (XN := ["_law_word"]) ["_law_sign_here"] 1 [] rfl rfl rfl (by decide +kernel) rfl (by decide +kernel)
   (ki_any (K := K) rfl (pv 0)) (fun _ _ _ _ => (pg_name (i := 0) (show (["_law_sign_here"] : List Str).Nodup by decide +kernel) rfl (Or.inl rfl))) gk_name
   (fun _ _ _ _ => (pifs_one (pt_chain u_le u_le pe_str (pv 0) pe_str)))
   (fun _ _ _ _ => (pv 0))) pa_nil)) (pe_callB (k_len (K := K) rfl) rfl T.b_len boot_len (pa_cons (pv 0) pa_nil)) (nomark _)))))), ?_⟩
    walk_at "vc"
    refine vLenS hsz ?_
    walk_at "vc"
    refine ite2 (fun h1 => ?_) fun h1 => ?_
    · walk_at "vc"
      refine ite2 (fun h2 => ?_) fun h2 => ?_
      · have hin : 1 ≤ z.length ∧ z.length ≤ 6 := by have := of_decide_eq_true h1; have := of_decide_eq_true h2; omega
        walk_at "vc"
        refine comp_str (fun i ys H' => H' = H ∧ ys = (((z.cps.toList.take i).filter sg).map fun c => (⟨#[c]⟩ : Str)).map V.str) ⟨rfl, by simp⟩ (fun i c ys H' hc hp => ?_) fun ys H' hp => ?_
        · obtain ⟨rfl, rfl⟩ := hp
          have e' : z.cps.toList[i]? = some c := by simpa using hc
          have htk : z.cps.toList.take (i + 1) = z.cps.toList.take i ++ [c] := by rw [List.take_add_one, e']; rfl
          have hl : ((((z.cps.toList.take i).filter sg).map fun c => (⟨#[c]⟩ : Str)).map V.str).length < sizeLine := by
            rw [List.length_map, List.length_map]
            exact small1000 (Nat.le_trans (List.length_filter_le _ _) (by rw [List.length_take, ← cp_len]; omega))
          walk_at "vc"
          refine ite2 (fun h3 => ?_) fun h3 => ?_
          · walk_at "vc"
            refine ite2 (fun h4 => ?_) fun h4 => ?_
            · walk_at "vc"
              refine ⟨hl, rfl, ?_⟩
              have hs : sg c = true := by unfold sg; rw [if_pos h3]; exact h4
              rw [htk, List.filter_append, List.map_append, List.map_append]
              simp [hs]
            · refine ⟨rfl, ?_⟩
              have hs : sg c = false := by unfold sg; rw [if_pos h3]; simpa using h4
              rw [htk, List.filter_append]
              simp [hs]
          · walk_at "vc"
            refine ite2 (fun h => by cases h) fun _ => ?_
            refine ⟨rfl, ?_⟩
            have hs : sg c = false := by unfold sg; rw [if_neg h3]
            rw [htk, List.filter_append]
            simp [hs]
        · obtain ⟨rfl, rfl⟩ := hp
          have ht : z.cps.toList.take z.cps.size = z.cps.toList := by rw [← Array.length_toList, List.take_length]
          rw [ht]
          refine ⟨by rw [List.length_map, List.length_map]; exact Nat.le_of_lt (small1000 (Nat.le_trans (List.length_filter_le _ _) (by rw [← cp_len]; omega))), fun l hl => ?_⟩
          have s1 := Snew (L2.Same.refl H') (o := .lst ((((z.cps.toList).filter sg).map fun c => (⟨#[c]⟩ : Str)).map V.str)) hl
          walk_at "vc"
          refine vLenL upd_same ?_
          walk_at "vc"
          refine vLenS hsz ?_
          refine .inl (.inl (.inl ⟨rfl, rfl, ?_⟩))
          have z2 := q _ s1
          unfold nameS at z2
          rw [if_pos hin] at z2
          have e : (if false = true then !eqV (V.int ((((z.cps.toList).filter sg).map fun c => (⟨#[c]⟩ : Str)).map V.str).length) (V.int z.length) else eqV (V.int ((((z.cps.toList).filter sg).map fun c => (⟨#[c]⟩ : Str)).map V.str).length) (V.int z.length)) = z.cps.toList.all sg := by
            rw [if_neg Bool.false_ne_true, List.length_map, List.length_map, Bool.eq_iff_iff, ← count_all]
            have e2 : eqV (V.int ((z.cps.toList.filter sg).length : Int)) (V.int (z.length : Int)) = (((z.cps.toList.filter sg).length : Int) == (z.length : Int)) := by simp [eqV]
            rw [e2, beq_iff_eq, cp_len]
            omega
          rw [e]
          exact z2
      · walk_at "vc"
        exact hno fun h => h2 (decide_eq_true (by omega))
    · walk_at "vc"
      refine ite2 (fun h => by cases h) fun _ => ?_
      exact hno fun h => h1 (decide_eq_true (by omega))
theorem ok_tail {f : Addr} {fd : FuncData} (F : Fun K "_law_tail" "_law_tail" s_l_tail f fd) (T : Txt K mg cc cw) : FnOk P w K mg base CX0 1 f fd ["_law_words", "_law_at", "_law_line"] spTail := by
  refine F.ok sc_l_tail (fun vs H Q E h => ?_) fun cdv A outer s H vs Q E hr h => ?_
  · obtain ⟨a, ss, k, h, line, t, rfl, _⟩ := h; rfl
  · obtain ⟨a, ss, k, hd, line, t, rfl, ha, gk, hl5, hh5, et, qn, qy⟩ := h
    have hu := u100 hr
    have hk : (ss.map V.str)[k]? = some (.str hd) := by rw [List.getElem?_map, gk]; rfl
    refine ⟨_, (pss_cons (ps_set (i := 3) sc_l_tail.nd rfl (Or.inl rfl) (pe_slice (k_sl (K := K) rfl) (pv 2) (po_some (pe_op (k_add (K := K) rfl) (pe_callB (k_len (K := K) rfl) rfl T.b_len boot_len (pa_cons (pe_ix (k_ixU (K := K) rfl hu) (pv 0) (pv 1) (fun _ _ => rfl)) pa_nil)) pe_int)) po_none))
  (pss_cons (ps_if (pt_cmpR (k_eqZ (K := K) rfl hu) (pv 3) pe_str (nomark _)) (pss_one (ps_ret (pe_lst pa_nil))) pss_nil)
  (pss_cons (ps_if (pt_cmpR (k_neU (K := K) rfl hu) (pe_ix (k_ixU (K := K) rfl hu) (pv 3) pe_int (fun _ _ => rfl)) pe_str (nomark _)) (pss_one (ps_ret pe_non)) pss_nil)
  (pss_cons (ps_set (i := 4) sc_l_tail.nd rfl (Or.inl rfl) (pv 1))
  (pss_cons (ps_set (i := 5) sc_l_tail.nd rfl (Or.inl rfl) (k_bm (K := K) rfl PySem.F.plainAttrs_str PySem.F.slot_str_split PySem.F.type_str_split mt_split (pe_slice (k_sl (K := K) rfl) (pv 3) (po_some pe_int) po_none) (pa_cons pe_str pa_nil)))
  (pss_cons (ps_for PassesOwn.never rfl (ki_any (K := K) rfl (pv 5)) (pg_name (i := 6) sc_l_tail.nd rfl (Or.inl rfl))
  (pss_cons (ps_if (PW.pt (pw_or (pt_cmpR (k_notinU (K := K) rfl hu) (pv 6) (pv 0) (by with_unfolding_all rfl)) (pw_or1 (pt_cmpR u_le (k_bm (K := K) rfl PySem.F.plainAttrs_list PySem.F.slot_list_index PySem.F.type_list_index (k_index (K := K) rfl) (pv 0) (pa_cons (pv 6) pa_nil)) (pv 4) (nomark _))))) (pss_one (ps_ret pe_non)) pss_nil)
  (pss_one (ps_set (i := 4) sc_l_tail.nd rfl (Or.inl rfl) (k_bm (K := K) rfl PySem.F.plainAttrs_list PySem.F.slot_list_index PySem.F.type_list_index (k_index (K := K) rfl) (pv 0) (pa_cons (pv 6) pa_nil))))))
  (pss_one (ps_ret (pv 5))))))))), ?_⟩
    walk_at "vc"
    refine .inl (vIxL ha (atI_nat hk) ?_)
    walk_at "vc"
    refine vLenS (Nat.le_trans hh5 (by decide)) ?_
    walk_at "vc"
    refine ⟨Nat.le_trans hl5 (by decide), ?_⟩
    have ets : PySem.Txt.slice line (some ((hd.length : Int) + 1)) none = t := by
      apply str_ext
      have := slice_drop line (hd.length + 1)
      rw [show ((hd.length + 1 : Nat) : Int) = (hd.length : Int) + 1 from rfl] at this
      rw [this, et]
    rw [ets]
    have ht5 : t.length ≤ 100000 := by rw [cp_len, et, List.length_drop, ← cp_len]; omega
    clear ets et
    walk_at "vc"
    refine .inl (.inl (.inl ⟨rfl, rfl, ?_⟩))
    rw [if_neg Bool.false_ne_true, eqV_str]
    walk_at "vc"
    refine ite2 (fun h => ?_) fun h => ?_
    · have h0 : t = "" := of_decide_eq_true h
      subst h0
      rw [split_none] at qn qy
      walk_at "vc"
      refine ⟨by decide, fun r hr0 => ?_⟩
      exact qy (fun z => by rcases z with z | z; exact z rfl; cases z) r _ (Snew (L2.Same.refl H) hr0) hr0 upd_same
    have h0 : t ≠ "" := fun z => h (decide_eq_true z)
    obtain ⟨c, r, ecr⟩ : ∃ c r, t.cps.toList = c :: r := by
      cases e : t.cps.toList with
      | nil => exact absurd (str_ext (e.trans t_no.symm)) h0
      | cons c r => exact ⟨c, r, rfl⟩
    walk_at "vc"
    refine .inl (vIxS (Nat.le_trans ht5 (by decide)) (atI_nat (j := 0) (by rw [ecr]; rfl)) ?_)
    walk_at "vc"
    refine .inl ⟨rfl, rfl, ?_⟩
    rw [if_pos rfl, eqV_str]
    walk_at "vc"
    refine ite2 (fun h => ?_) fun h => ?_
    · walk_at "vc"
      refine qn (.inl (split_off h0 fun e => ?_)) H (L2.Same.refl H)
      rw [ecr] at e
      have e : c = 32 := Option.some.inj e
      rw [e, t_blank] at h
      simp at h
    have hc : c = 32 := by
      have : (⟨#[c]⟩ : Str) = " " := by simpa using h
      rw [t_blank] at this
      have := congrArg (fun z : Str => z.cps.toList) this
      simpa using this
    subst hc
    walk_at "vc"
    refine ⟨Nat.le_trans ht5 (by decide), ?_⟩
    have hu1 : (PySem.Txt.slice t (some 1) none).cps.toList = r := by
      have := slice_drop t 1
      rw [show ((1 : Nat) : Int) = 1 from rfl] at this
      rw [this, ecr]; rfl
    have hul := slice_len t (some 1) none
    generalize PySem.Txt.slice t (some 1) none = u at hu1 hul ⊢
    have hsp := split_on (t := t) (u := u) (by rw [ecr, hu1])
    rw [hsp] at qn qy
    have hw5 : (PySem.Txt.split u " ").length ≤ 100002 := Nat.le_trans (split_le _ _) (by omega)
    refine ⟨rfl, ?_⟩
    walk_at "vc"
    refine ⟨u, _, rfl, rfl, by decide +kernel, Nat.le_trans (Nat.add_le_add_right (Nat.le_trans hul ht5) 2) (by decide), fun g hg => ?_⟩
    change tSeq _ _ _ _ (upd H g (.lst ((PySem.Txt.split u " ").map V.str)))
    generalize PySem.Txt.split u " " = ws at qn qy hw5 ⊢
    have s1 := Snew (L2.Same.refl H) (o := .lst (ws.map V.str)) hg
    have eg : upd H g (.lst (ws.map V.str)) g = some (.lst (ws.map V.str)) := upd_same
    generalize upd H g (.lst (ws.map V.str)) = H1 at s1 eg ⊢
    have qn' : bel ss ws k = false → ∀ H', L2.Same H H' → Q .non H' := fun h => qn (.inr h)
    have qy' : bel ss ws k = true → ∀ (r : Addr) (H' : Hp), L2.Same H H' → H r = none → H' r = some (.lst (ws.map V.str)) → Q (.ref r) H' := fun h => qy fun z => by
      rcases z with z | z
      · exact z rfl
      · have z : bel ss ws k = false := z
        rw [h] at z
        cases z
    walk_at "vc"
    refine .inl ⟨⟨_, SqL.of eg⟩, for_list (K := K) (fun i σ H' => ∃ (k' : Nat) (x6 : Option V), σ = [some (.ref a), some (.int k), some (.str line), some (.str t), some (.int k'), some (.ref g), x6] ∧ H' = H1 ∧ bel ss ws k = bel ss (ws.drop i) k')
      ⟨k, none, rfl, rfl, rfl⟩ (fun i σ H' _ hp => by obtain ⟨_, _, _, z, _⟩ := hp; rw [z]; exact SqL.of eg) (fun i y σ H2 hy hp => ?_) fun σ H2 hp => ?_⟩
    · obtain ⟨k', x6, rfl, rfl, hdue⟩ := hp
      obtain ⟨o, go, rfl⟩ := str_eq_list hy
      rw [drop_at go] at hdue
      have eb : bel ss (o :: ws.drop (i + 1)) k' = if o ∈ ss ∧ k' < ss.idxOf o then bel ss (ws.drop (i + 1)) (ss.idxOf o) else false := rfl
      rw [eb] at hdue
      have ha2 := s1 _ _ ha
      walk_at "vc"
      refine .inl ⟨a, _, rfl, .inl (SqL.of ha2), rfl, flat_strs ss, ?_⟩
      rw [inV_str]
      walk_at "vc"
      refine ite2 (fun h => ?_) fun h => ?_
      · refine iteT ?_
        walk_at "vc"
        have ho : ¬ o ∈ ss := by simpa using h
        rw [if_neg (fun z => ho z.1)] at hdue
        exact qn' hdue _ s1
      have ho : o ∈ ss := by simpa using h
      walk_at "vc"
      refine ⟨.inl ⟨rfl, _, SqL.of ha2⟩, ?_⟩
      walk_at "vc"
      refine ⟨a, ss, o, rfl, rfl, SqL.of ha2, ho, ?_⟩
      walk_at "vc"
      refine ite2 (fun h => ?_) fun h => ?_
      · walk_at "vc"
        rw [if_neg (fun z => by have := of_decide_eq_true h; omega)] at hdue
        exact qn' hdue _ s1
      have hlt : k' < ss.idxOf o := by
        by_cases hh : k' < ss.idxOf o
        · exact hh
        · exact absurd (decide_eq_true (by omega)) h
      rw [if_pos ⟨ho, hlt⟩] at hdue
      walk_at "vc"
      refine ⟨.inl ⟨rfl, _, SqL.of ha2⟩, ?_⟩
      walk_at "vc"
      exact ⟨a, ss, o, rfl, rfl, SqL.of ha2, ho, _, _, rfl, rfl, hdue⟩
    · obtain ⟨k', x6, rfl, rfl, hdue⟩ := hp
      rw [List.length_map, List.drop_length] at hdue
      walk_at "vc"
      exact qy' hdue g _ s1 hg eg
end
/- _law_due: calls ['_law_is_name', '_law_tail']; cells ['_law_at', '_law_words'] -/
abbrev s_l_due : Stmt := top 39
theorem sc_l_due : FnScope ["_law_text", "_law_lines_here", "_law_words", "_law_at", "_law_ties_here", "_law_names_here"] ["_law_text"] (defScope s_l_due) := ⟨rfl, rfl, rfl, by decide +kernel, rfl, by decide +kernel, by decide +kernel⟩
theorem mid_iff (l : Str) : pMid l = "" ↔ 58 ∉ l.cps.toList := by
  have h := part_cases l 58
  unfold pMid
  rw [← t_colon] at h
  rcases h with ⟨h1, h2⟩ | ⟨a, b, h1, _, h2⟩
  · rw [h2]; exact ⟨fun _ => h1, fun _ => (show (Str.empty : Str) = "" by decide +kernel)⟩
  · rw [h2]
    constructor
    · intro z; exact absurd z (show ¬ (":" : Str) = "" by decide +kernel)
    · intro z; exact absurd (by rw [h1]; simp) z
theorem drop_cut {c : Nat} : ∀ (a b : List Nat), (a ++ c :: b).drop (a.length + 1) = b
  | [], _ => rfl
  | _ :: r, b => drop_cut r b
theorem vIsN {nm : Addr} {H : Hp} {Q : VK} (h : Q (.bl false) H) : rIsU (.ref nm) .non H Q := by
  show Q (.bl (decide (V.ref nm = V.non))) H
  rw [decide_eq_false (by intro e; cases e)]
  exact h
theorem vIsNN {H : Hp} {Q : VK} (h : Q (.bl true) H) : rIsU .non .non H Q := by
  show Q (.bl (decide (V.non = V.non))) H
  rw [decide_eq_true rfl]
  exact h
theorem mid_tail {l : Str} (h : 58 ∈ l.cps.toList) : (pTail l).cps.toList = l.cps.toList.drop ((pHead l).length + 1) := by
  have hp := part_cases l 58
  unfold pTail pHead
  rw [← t_colon] at hp
  rcases hp with ⟨h1, _⟩ | ⟨a, b, h1, _, h2⟩
  · exact absurd h h1
  · rw [h2, h1]
    show b.cps.toList = (a.cps.toList ++ 58 :: b.cps.toList).drop (a.length + 1)
    rw [cp_len, drop_cut]
theorem fw_mid : ∀ {ls : List Str} {k : Nat} {acc ss : List Str}, fw ls k acc = .inr ss → ∀ l ∈ ls, 58 ∈ l.cps.toList
  | [], _, _, _, _, l, hl => by cases hl
  | l :: r, k, acc, ss, h, x, hx => by
    have h : (if pMid l = "" ∨ nameS (pHead l) = false ∨ pHead l ∈ acc ∨ 14 ≤ k then Sum.inl k else fw r (k + 1) (acc ++ [pHead l])) = Sum.inr ss := h
    split at h
    · cases h
    · rename_i hc
      rcases List.mem_cons.mp hx with rfl | hx
      · by_cases hm : 58 ∈ x.cps.toList
        · exact hm
        · exact absurd (.inl ((mid_iff x).mpr hm)) hc
      · exact fw_mid h x hx
theorem first_word (l : Str) : (PySem.Txt.split l ":").headD "" = pHead l := by
  have := split_first l 58
  rw [← t_colon] at this
  exact this
theorem found_colon (l : Str) : (!(!(Builtin.Str.occurrences l ":" 0 l.length 1).isEmpty)) = !decide (58 ∈ l.cps.toList) := by
  rw [t_colon, StrLaws.found_one]
def spDue : Sp := fun vs H Q _ => ∃ z : Str, vs = [.str z] ∧ z.length ≤ 100000 ∧ (∀ k : Nat, rdT z = .inl k → ∀ H', L2.Same H H' → Q (.int k) H') ∧
  ∀ ss tps, rdT z = .inr (ss, tps) → ∀ (t t1 t2 : Addr) (ts : List Addr) (H' : Hp), L2.Same H H' → H' t = some (.tup [.ref t1, .ref t2]) → H' t1 = some (.tup (ss.map V.str)) → H' t2 = some (.tup (ts.map V.ref)) → All2 (fun t ab => H' t = some (.tup [.str ab.1, .str ab.2])) ts tps → Q (.ref t) H'
section
variable {P : Program} {w : World} {K : W.Frag} {mg : Str → Option Value} {base : Heap} {cc : Nat → Addr} {cw : Addr}
theorem ok_due {f : Addr} {fd : FuncData} (F : Fun K "_law_due" "_law_due" s_l_due f fd) (T : Txt K mg cc cw) (D_l_is_name : DefOk P w K mg base CX0 1 "_law_is_name" ["_law_word"] spIsN) (D_l_tail : DefOk P w K mg base CX0 1 "_law_tail" ["_law_words", "_law_at", "_law_line"] spTail) : FnOk P w K mg base CX0 2 f fd ["_law_text"] spDue := by
  refine F.ok sc_l_due (fun vs H Q E h => ?_) fun cdv A outer s H vs Q E hr h => ?_
  · obtain ⟨z, rfl, _⟩ := h; rfl
  · obtain ⟨z, rfl, hz5, qn, qy⟩ := h
    have hu := u100 hr
    refine ⟨_, (pss_cons (ps_if (pt_cmpR (k_eqZ (K := K) rfl hu) (pv 0) pe_str (nomark _)) (pss_one (ps_ret (pe_tup (pa_cons (pe_tup pa_nil) (pa_cons (pe_tup pa_nil) pa_nil))))) pss_nil)
  (pss_cons (ps_set (i := 1) sc_l_due.nd rfl (Or.inl rfl) (k_bm (K := K) rfl PySem.F.plainAttrs_str PySem.F.slot_str_split PySem.F.type_str_split mt_split (pv 0) (pa_cons pe_str pa_nil)))
  (pss_cons (ps_set (i := 2) sc_l_due.nd rfl (Or.inr rfl) (pe_comp (sc := defScope s_l_due) (XN := ["_law_text", "_law_lines_here", "_law_words", "_law_at", "_law_ties_here", "_law_names_here"]) ["_law_line"] 1 [] rfl rfl rfl (by decide +kernel) rfl (by decide +kernel)
   (ki_any (K := K) rfl (pv 1)) (fun _ _ _ _ => (pg_name (i := 0) (show (["_law_line"] : List Str).Nodup by decide +kernel) rfl (Or.inl rfl))) gk_name
   (fun _ _ _ _ => pifs_nil)
   (fun _ _ _ _ => (pe_ix (k_ixU (K := K) rfl hu) (k_bm (K := K) rfl PySem.F.plainAttrs_str PySem.F.slot_str_split PySem.F.type_str_split mt_split (pv 0) (pa_cons pe_str pa_nil)) pe_int (fun _ _ => rfl)))))
  (pss_cons (ps_for PassesOwn.never rfl (pi_range1 rfl T.b_range (pa_cons (pe_callB (k_len (K := K) rfl) rfl T.b_len boot_len (pa_cons (pv 1) pa_nil)) pa_nil)) (pg_name (i := 3) sc_l_due.nd rfl (Or.inr rfl))
  (pss_one (ps_if (PW.pt (pw_or (pt_cmpR k_notinS pe_str (pe_ix (k_ixU (K := K) rfl hu) (pv 1) (pv 3) (fun _ _ => rfl)) (by with_unfolding_all rfl)) (pw_or (pt_not (pt_val (pe_def D_l_is_name (hm hr) pass0 (pa_cons (pe_ix (k_ixU (K := K) rfl hu) (pv 2) (pv 3) (fun _ _ => rfl)) pa_nil)))) (pw_or (pt_cmpR (k_inU (K := K) rfl hu) (pe_ix (k_ixU (K := K) rfl hu) (pv 2) (pv 3) (fun _ _ => rfl)) (pe_slice (k_sl (K := K) rfl) (pv 2) po_none (po_some (pv 3))) (by with_unfolding_all rfl)) (pw_or1 (pt_cmpR op_gt (pv 3) pe_int (nomark _))))))) (pss_one (ps_ret (pv 3))) pss_nil)))
  (pss_cons (ps_set (i := 4) sc_l_due.nd rfl (Or.inl rfl) (pe_lst pa_nil))
  (pss_cons (ps_for PassesOwn.never rfl (pi_range1 rfl T.b_range (pa_cons (pe_callB (k_len (K := K) rfl) rfl T.b_len boot_len (pa_cons (pv 1) pa_nil)) pa_nil)) (pg_name (i := 3) sc_l_due.nd rfl (Or.inr rfl))
  (pss_cons (ps_set (i := 5) sc_l_due.nd rfl (Or.inl rfl) (pe_def D_l_tail (hm hr) pass0 (pa_cons (pv 2) (pa_cons (pv 3) (pa_cons (pe_ix (k_ixU (K := K) rfl hu) (pv 1) (pv 3) (fun _ _ => rfl)) pa_nil)))))
  (pss_cons (ps_if (PW.pt (pw_or (pt_cmpR u_is (pv 5) pe_non (nomark _)) (pw_or1 (pt_cmpR op_gt (pe_op (k_add (K := K) rfl) (pe_callB (k_len (K := K) rfl) rfl T.b_len boot_len (pa_cons (pv 4) pa_nil)) (pe_callB (k_len (K := K) rfl) rfl T.b_len boot_len (pa_cons (pv 5) pa_nil))) pe_int (nomark _))))) (pss_one (ps_ret (pv 3))) pss_nil)
  (pss_one (ps_expr (k_bm (K := K) rfl PySem.F.plainAttrs_list PySem.F.slot_list_extend PySem.F.type_list_extend mtR_extend (pv 4) (pa_cons (pe_comp (sc := defScope s_l_due) (XN := ["_law_text", "_law_lines_here", "_law_words", "_law_at", "_law_ties_here", "_law_names_here"]) ["_law_name", "_law_words", "_law_at"] 1 [2, 3] rfl rfl rfl (by decide +kernel) rfl (by decide +kernel)
   (ki_any (K := K) rfl (pv 5)) (fun _ _ _ _ => (pg_name (i := 0) (show (["_law_name", "_law_words", "_law_at"] : List Str).Nodup by decide +kernel) rfl (Or.inl rfl))) gk_name
   (fun _ _ _ _ => pifs_nil)
   (fun _ _ _ _ => (pe_tup (pa_cons (pe_ix (k_ixU (K := K) rfl hu) (pv 1) (pv 2) (fun _ _ => rfl)) (pa_cons (pv 0) pa_nil))))) pa_nil)))))))
  (pss_one (ps_ret (pe_tup (pa_cons (pe_callTy (k_tupleU (K := K) rfl) rfl T.b_tuple boot_tuple (pa_cons (pv 2) pa_nil)) (pa_cons (pe_callTy (k_tupleU (K := K) rfl) rfl T.b_tuple boot_tuple (pa_cons (pv 4) pa_nil)) pa_nil))))))))))), ?_⟩
    walk_at "vc"
    refine .inl (.inl (.inl ⟨rfl, rfl, ?_⟩))
    rw [if_neg Bool.false_ne_true, eqV_str]
    walk_at "vc"
    refine ite2 (fun h => ?_) fun h => ?_
    · have hz0 : z = "" := of_decide_eq_true h
      have erd : rdT z = .inr ([], []) := by unfold rdT; rw [if_pos hz0]
      walk_at "vc"
      refine ⟨by decide, fun t1 h1 => ?_⟩
      have s1 := Snew (L2.Same.refl H) (o := .tup []) h1
      have e1 : upd H t1 (.tup []) t1 = some (.tup []) := upd_same
      generalize upd H t1 (.tup []) = H1 at s1 e1 ⊢
      walk_at "vc"
      refine ⟨by decide, fun t2 h2 => ?_⟩
      have s12 := Snew (L2.Same.refl H1) (o := .tup []) h2
      have e2 : upd H1 t2 (.tup []) t2 = some (.tup []) := upd_same
      generalize upd H1 t2 (.tup []) = H2 at s12 e2 ⊢
      walk_at "vc"
      refine ⟨by show 2 ≤ sizeLine; decide, fun t ht => ?_⟩
      have s23 := Snew (L2.Same.refl H2) (o := .tup [.ref t1, .ref t2]) ht
      exact qy [] [] erd t t1 t2 [] _ ((s1.trans s12).trans s23) upd_same (s23 _ _ (s12 _ _ e1)) (s23 _ _ e2) All2.nil
    have hz0 : ¬ z = "" := fun e => h (decide_eq_true e)
    walk_at "vc"
    refine ⟨rfl, ?_⟩
    walk_at "vc"
    refine ⟨z, _, rfl, rfl, by decide +kernel, Nat.le_trans (Nat.add_le_add_right hz5 2) (by decide), fun g hg => ?_⟩
    have hll : ∀ l ∈ PySem.Txt.split z "\n", l.length ≤ 100000 := fun l hl => Nat.le_trans (part_short hl) hz5
    have hlen : (PySem.Txt.split z "\n").length ≤ 100002 := Nat.le_trans (split_le _ _) (by omega)
    have erd : rdT z = match fw (PySem.Txt.split z "\n") 0 [] with
        | .inl k => .inl k
        | .inr ss => match ti ss (PySem.Txt.split z "\n") 0 [] with
          | .inl k => .inl k
          | .inr tps => .inr (ss, tps) := by unfold rdT; rw [if_neg hz0]
    change tSeq _ _ _ _ (upd H g (.lst ((PySem.Txt.split z "\n").map V.str)))
    generalize PySem.Txt.split z "\n" = ls at hll hlen erd ⊢
    have s1 := Snew (L2.Same.refl H) (o := .lst (ls.map V.str)) hg
    have eg : upd H g (.lst (ls.map V.str)) g = some (.lst (ls.map V.str)) := upd_same
    generalize upd H g (.lst (ls.map V.str)) = H1 at s1 eg ⊢
    walk_at "vc"
    refine .inl ⟨⟨_, SqL.of eg⟩, comp_list (K := K) (fun k ys H' => L2.Same H1 H' ∧ ys = ((ls.take k).map pHead).map V.str) ⟨L2.Same.refl H1, by simp⟩ (fun k ys H' _ hp => SqL.of (hp.1 _ _ eg)) (fun k y ys H2 hy hp => ?_) fun ys H2 hp => ?_⟩
    · obtain ⟨s12, rfl⟩ := hp
      obtain ⟨l, gl, rfl⟩ := str_eq_list hy
      have hk : k < ls.length := (List.getElem?_eq_some_iff.mp gl).1
      have hl := hll l (List.mem_of_getElem? gl)
      have htk : ls.take (k + 1) = ls.take k ++ [l] := by rw [List.take_add_one, gl]; rfl
      walk_at "vc"
      refine iteT ?_
      walk_at "vc"
      refine ⟨rfl, ?_⟩
      walk_at "vc"
      refine ⟨l, _, rfl, rfl, by decide +kernel, Nat.le_trans (Nat.add_le_add_right hl 2) (by decide), fun c hc => ?_⟩
      have s23 := Snew s12 (o := .lst ((PySem.Txt.split l ":").map V.str)) hc
      obtain ⟨w0, wr, ew⟩ : ∃ w0 wr, PySem.Txt.split l ":" = w0 :: wr := by
        have := split_pos l ":"
        cases h : PySem.Txt.split l ":" with
        | nil => rw [h] at this; exact absurd this (by decide)
        | cons a r => exact ⟨a, r, rfl⟩
      have ehd : w0 = pHead l := by have := first_word l; rw [ew] at this; exact this
      refine .inl (vIxL upd_same (atI_nat (j := 0) (by rw [ew]; rfl)) ?_)
      refine ⟨by rw [List.length_map, List.length_map, List.length_take]; exact Nat.lt_of_le_of_lt (Nat.min_le_right _ _) (Nat.lt_of_le_of_lt hlen (by decide)), s23, ?_⟩
      rw [htk, List.map_append, List.map_append, ehd]
      rfl
    obtain ⟨s12, rfl⟩ := hp
    have etk : ls.take (ls.map V.str).length = ls := by rw [List.length_map, List.take_length]
    rw [etk]
    refine ⟨by rw [List.length_map, List.length_map]; exact Nat.le_trans hlen (by decide), fun c hc => ?_⟩
    have hwl : (ls.map pHead).length = ls.length := List.length_map _
    have hwd : ∀ i l, ls[i]? = some l → (ls.map pHead)[i]? = some (pHead l) := fun i l h => by rw [List.getElem?_map, h]; rfl
    have htw : ∀ i, (ls.map pHead).take i = (ls.take i).map pHead := fun i => List.map_take.symm
    have hw5 : ∀ l ∈ ls, (pHead l).length ≤ 100000 := fun l hl => Nat.le_trans (tail_len l).2 (hll l hl)
    have ews : ls.map pHead = ls.map pHead := rfl
    generalize hws : ls.map pHead = ws at hwl hwd htw ews ⊢
    have s23 := Snew s12 (o := .lst (ws.map V.str)) hc
    have ec : upd H2 c (.lst (ws.map V.str)) c = some (.lst (ws.map V.str)) := upd_same
    generalize upd H2 c (.lst (ws.map V.str)) = H3 at s23 ec ⊢
    have s3 := s1.trans s23
    have eg3 := s23 _ _ eg
    walk_at "vc"
    refine vLenL eg3 ?_
    rw [List.length_map]
    walk_at "vc"
    refine ⟨_, rfl, by omega, by omega, ?_⟩
    rw [Int.toNat_natCast]
    refine for_range (fun i σ H' => ∃ x3 : Option V, σ = [some (.str z), some (.ref g), some (.ref c), x3, none, none] ∧ L2.Same H3 H' ∧ fw ls 0 [] = fw (ls.drop i) i (ws.take i)) ⟨none, rfl, L2.Same.refl H3, rfl⟩ (fun i σ H4 hi hp => ?_) fun σ H4 hp => ?_
    · obtain ⟨x3, rfl, s34, hdue⟩ := hp
      have gl : ls[i]? = some ls[i] := List.getElem?_eq_getElem hi
      generalize ls[i] = l at gl
      have gw := hwd i l gl
      have hl := hll l (List.mem_of_getElem? gl)
      rw [drop_at gl] at hdue
      have efw : fw (l :: ls.drop (i + 1)) i (ws.take i) = if pMid l = "" ∨ nameS (pHead l) = false ∨ pHead l ∈ ws.take i ∨ 14 ≤ i then .inl i else fw (ls.drop (i + 1)) (i + 1) (ws.take i ++ [pHead l]) := rfl
      rw [efw] at hdue
      have glV : (ls.map V.str)[i]? = some (.str l) := by rw [List.getElem?_map, gl]; rfl
      have gwV : (ws.map V.str)[i]? = some (.str (pHead l)) := by rw [List.getElem?_map, gw]; rfl
      have ret : ∀ G, L2.Same H3 G → fw ls 0 [] = .inl i → Q (.int (0 + (i : Int))) G := fun G sG e => by
        rw [Int.zero_add]
        exact qn i (by rw [erd, e]) G (s3.trans sG)
      walk_at "vc"
      refine .inl (vIxL (s34 _ _ eg3) (by rw [Int.zero_add]; exact atI_nat glV) ?_)
      refine ⟨_, _, rfl, rfl, ?_⟩
      rw [show (Str.ofString ":") = (":" : Str) from rfl, found_colon]
      walk_at "vc"
      refine ite2 (fun h => ?_) fun h => ?_
      · refine iteT ?_
        walk_at "vc"
        have h' : 58 ∉ l.cps.toList := by simpa using h
        rw [if_pos (.inl ((mid_iff l).mpr h'))] at hdue
        exact ret _ s34 hdue
      have h1 : ¬ pMid l = "" := fun e => by
        have := (mid_iff l).mp e
        simp [this] at h
      walk_at "vc"
      refine .inl (vIxL (s34 _ _ ec) (by rw [Int.zero_add]; exact atI_nat gwV) ?_)
      walk_at "vc"
      refine ⟨pHead l, rfl, hw5 l (List.mem_of_getElem? gl), fun H5 s45 => ?_⟩
      have s35 := s34.trans s45
      walk_at "vc"
      refine ite2 (fun h => ?_) fun h => ?_
      · refine iteT ?_
        walk_at "vc"
        have h' : nameS (pHead l) = false := by simpa using h
        rw [if_pos (.inr (.inl h'))] at hdue
        exact ret _ s35 hdue
      have h2 : nameS (pHead l) = true := by simpa using h
      walk_at "vc"
      refine .inl (vIxL (s35 _ _ ec) (by rw [Int.zero_add]; exact atI_nat gwV) ?_)
      walk_at "vc"
      refine .inl ⟨c, _, rfl, SqL.of (s35 _ _ ec), fun e he => ?_⟩
      have ecut : cutV (ws.map V.str) none (some (0 + (i : Int))) = (ws.take i).map V.str := by rw [Int.zero_add, cutV_take, List.map_take]
      rw [ecut]
      have s56 := Snew s35 (o := .lst ((ws.take i).map V.str)) he
      refine .inl ⟨e, _, rfl, .inl (SqL.of upd_same), rfl, flat_strs _, ?_⟩
      rw [inV_str]
      generalize upd H5 e (.lst ((ws.take i).map V.str)) = H6 at s56 ⊢
      walk_at "vc"
      refine ite2 (fun h => ?_) fun h => ?_
      · refine iteT ?_
        walk_at "vc"
        rw [if_pos (.inr (.inr (.inl (by simpa using h))))] at hdue
        exact ret _ s56 hdue
      have h3 : pHead l ∉ ws.take i := by simpa using h
      walk_at "vc"
      refine ite2 (fun h => ?_) fun h => ?_
      · walk_at "vc"
        have h' : 14 ≤ i := by have := of_decide_eq_true h; omega
        rw [if_pos (.inr (.inr (.inr h')))] at hdue
        exact ret _ s56 hdue
      have h4 : ¬ 14 ≤ i := fun z => h (decide_eq_true (by omega))
      rw [if_neg (fun z => by rcases z with z | z | z | z; exact h1 z; (rw [h2] at z; cases z); exact h3 z; exact h4 z)] at hdue
      refine ⟨_, rfl, s56, ?_⟩
      rw [hdue, List.take_add_one, gw]
      rfl
    obtain ⟨x3, rfl, s34, hdue⟩ := hp
    rw [List.drop_length, ← hwl, List.take_length] at hdue
    have hfw : fw ls 0 [] = .inr ws := hdue
    clear hdue
    have hmid := fw_mid hfw
    rw [hfw] at erd
    dsimp only at erd
    walk_at "vc"
    refine ⟨by decide, fun r hr0 => ?_⟩
    have s45 := Snew (L2.Same.refl H4) (o := .lst []) hr0
    have er0 : upd H4 r (.lst []) r = some (.lst []) := upd_same
    generalize upd H4 r (.lst []) = H5 at s45 er0 ⊢
    have s35 := s34.trans s45
    have s5 := s3.trans s35
    walk_at "vc"
    refine vLenL (s35 _ _ eg3) ?_
    rw [List.length_map]
    walk_at "vc"
    refine ⟨_, rfl, by omega, by omega, ?_⟩
    rw [Int.toNat_natCast]
    refine for_range (fun i σ H' => ∃ (acc : List (Str × Str)) (us : List Addr) (y3 y5 : Option V), σ = [some (.str z), some (.ref g), some (.ref c), y3, some (.ref r), y5] ∧ L2.Same H4 H' ∧ H' r = some (.lst (us.map V.ref)) ∧ All2 (PrAt H4 H' r) us acc ∧ acc.length ≤ 30 ∧ ti ws ls 0 [] = ti ws (ls.drop i) i acc)
      ⟨[], [], _, _, rfl, s45, er0, All2.nil, by decide, rfl⟩ (fun i σ H6 hi hp => ?_) fun σ H6 hp => ?_
    · obtain ⟨acc, us, y3, y5, rfl, s46, hk, hall, hal, hdue⟩ := hp
      have gl : ls[i]? = some ls[i] := List.getElem?_eq_getElem hi
      generalize ls[i] = l at gl
      have gw := hwd i l gl
      have hlm := List.mem_of_getElem? gl
      have hl := hll l hlm
      rw [drop_at gl] at hdue
      have eti : ti ws (l :: ls.drop (i + 1)) i acc = if (wds l).headD "" ≠ "" ∨ bel ws (wds l).tail i = false ∨ 30 < (acc ++ rowT l).length then .inl i else ti ws (ls.drop (i + 1)) (i + 1) (acc ++ rowT l) := rfl
      rw [eti] at hdue
      have glV : (ls.map V.str)[i]? = some (.str l) := by rw [List.getElem?_map, gl]; rfl
      have gwV : (ws.map V.str)[i]? = some (.str (pHead l)) := by rw [List.getElem?_map, gw]; rfl
      have s36 := s34.trans s46
      have ret : ∀ G, L2.Same H4 G → ti ws ls 0 [] = .inl i → Q (.int (0 + (i : Int))) G := fun G sG e => by
        rw [Int.zero_add]
        exact qn i (by rw [erd, e]) G (s3.trans (s34.trans sG))
      have eg6 := s36 _ _ eg3
      have ec6 := s36 _ _ ec
      have ewl := wds_len l
      have erow : rowT l = (wds l).tail.map fun o => (pHead l, o) := rfl
      walk_at "vc"
      refine .inl (vIxL eg6 (by rw [Int.zero_add]; exact atI_nat glV) ?_)
      walk_at "vc"
      refine ⟨c, ws, i, pHead l, l, pTail l, by rw [Int.zero_add]; rfl, ec6, gw, hl, hw5 l hlm, mid_tail (hmid l hlm), fun hbad H7 s67 => ?_, fun hok nm H7 s67 hn0 hn => ?_⟩
      · walk_at "vc"
        refine vIsNN ?_
        walk_at "vc"
        refine iteT ?_
        refine iteT ?_
        walk_at "vc"
        have hb : (wds l).headD "" ≠ "" ∨ bel ws (wds l).tail i = false := hbad
        rw [if_pos (by rcases hb with h | h; exact .inl h; exact .inr (.inl h))] at hdue
        exact ret _ (s46.trans s67) hdue
      have hok' : ¬ ((wds l).headD "" ≠ "" ∨ bel ws (wds l).tail i = false) := hok
      have hn : H7 nm = some (.lst ((wds l).tail.map V.str)) := hn
      generalize htl : (wds l).tail = tl at hdue erow hok' hn
      have etl : tl.length ≤ 100002 := by rw [← htl, List.length_tail]; omega
      have s47 := s46.trans s67
      have hk7 := s67 _ _ hk
      have hall7 := hall.mono fun _ _ z => z.same s67
      have hul : us.length = acc.length := hall.len
      walk_at "vc"
      refine vIsN ?_
      walk_at "vc"
      refine ite2 (fun h => by cases h) fun _ => ?_
      walk_at "vc"
      refine vLenL hk7 ?_
      walk_at "vc"
      refine vLenL hn ?_
      walk_at "vc"
      rw [List.length_map, List.length_map]
      have hrl : (rowT l).length = tl.length := by rw [erow, List.length_map]
      refine ite2 (fun h => ?_) fun h => ?_
      · walk_at "vc"
        have h' : 30 < (acc ++ rowT l).length := by have := of_decide_eq_true h; rw [List.length_append, hrl]; omega
        rw [if_pos (.inr (.inr h'))] at hdue
        exact ret _ s47 hdue
      have h' : ¬ 30 < (acc ++ rowT l).length := fun z => h (decide_eq_true (by rw [List.length_append, hrl] at z; omega))
      rw [if_neg (fun z => by rcases z with z | z | z; exact hok' (.inl z); exact hok' (.inr z); exact h' z)] at hdue
      walk_at "vc"
      refine ⟨.inl ⟨rfl, _, SqL.of hk7⟩, ?_⟩
      walk_at "vc"
      refine .inl ⟨⟨_, SqL.of hn⟩, comp_list (K := K) (fun k ys H' => L2.Same H7 H' ∧ ∃ vs : List Addr, ys = vs.map V.ref ∧ vs.length = k ∧ All2 (PrAt H4 H' r) vs ((tl.take k).map fun o => (pHead l, o)))
        ⟨L2.Same.refl H7, [], rfl, rfl, All2.nil⟩ (fun k ys H' _ hp => SqL.of (hp.1 _ _ hn)) (fun k y ys H8 hy hp => ?_) fun ys H8 hp => ?_⟩
      · obtain ⟨s78, vs, rfl, hvl, hv⟩ := hp
        obtain ⟨o, gk, rfl⟩ := str_eq_list hy
        have hk14 : k < tl.length := (List.getElem?_eq_some_iff.mp gk).1
        have htk2 : tl.take (k + 1) = tl.take k ++ [o] := by rw [List.take_add_one, gk]; rfl
        walk_at "vc"
        refine iteT ?_
        walk_at "vc"
        refine .inl (vIxL (s78 _ _ (s67 _ _ ec6)) (by rw [Int.zero_add]; exact atI_nat gwV) ?_)
        walk_at "vc"
        refine ⟨by show 2 ≤ sizeLine; decide, fun t' ht' => ?_⟩
        have s8 := Snew (L2.Same.refl H8) (o := .tup [.str (pHead l), .str o]) ht'
        have nt : t' ≠ r := fun e => by rw [e, s78 _ _ hk7] at ht'; cases ht'
        refine ⟨by rw [List.length_map, hvl]; exact Nat.lt_of_lt_of_le hk14 (Nat.le_trans etl (by decide)), s78.trans s8, vs ++ [t'], by rw [List.map_append]; rfl, by rw [List.length_append, hvl]; rfl, ?_⟩
        rw [htk2, List.map_append]
        exact (hv.mono fun t' ab h => h.same s8).snoc ⟨(s47.trans s78).free ht', nt, upd_same⟩
      · obtain ⟨s78, vs, rfl, hvl, hv⟩ := hp
        rw [List.length_map] at hvl
        have etk : tl.take (tl.map V.str).length = tl := by rw [List.length_map, List.take_length]
        rw [etk, ← erow] at hv
        refine ⟨by rw [List.length_map, hvl]; exact Nat.le_trans etl (by decide), fun b hb => ?_⟩
        walk_at "vc"
        have s8 := Snew (L2.Same.refl H8) (o := .lst (vs.map V.ref)) hb
        refine ⟨r, b, _, _, rfl, rfl, s8 _ _ (s78 _ _ hk7), upd_same, by rw [List.length_map, List.length_map, hvl, hul]; exact Nat.le_trans (Nat.add_le_add hal etl) (by decide), ?_⟩
        refine ⟨acc ++ rowT l, us ++ vs, _, _, rfl, Supd ((s47.trans s78).trans s8) hr0, by rw [upd_same, List.map_append], All2.cat (hall7.mono fun t ab h => ⟨h.1, h.2.1, by rw [upd_ne h.2.1]; exact s8 _ _ (s78 _ _ h.2.2)⟩) (hv.mono fun t ab h => ⟨h.1, h.2.1, by rw [upd_ne h.2.1]; exact s8 _ _ h.2.2⟩), by omega, hdue⟩
    · obtain ⟨acc, us, y3, y5, rfl, s46, hk, hall, hal, hdue⟩ := hp
      rw [List.drop_length] at hdue
      have hti : ti ws ls 0 [] = .inr acc := hdue
      rw [hti] at erd
      dsimp only at erd
      have s36 := s34.trans s46
      walk_at "vc"
      refine ⟨c, _, rfl, .inl ⟨SqL.of (s36 _ _ ec), fun u1 hu1 => ?_⟩⟩
      have s67 := Snew (L2.Same.refl H6) (o := .tup (ws.map V.str)) hu1
      have eu1 : upd H6 u1 (.tup (ws.map V.str)) u1 = some (.tup (ws.map V.str)) := upd_same
      generalize upd H6 u1 (.tup (ws.map V.str)) = H7 at s67 eu1 ⊢
      walk_at "vc"
      refine ⟨r, _, rfl, .inl ⟨SqL.of (s67 _ _ hk), fun u2 hu2 => ?_⟩⟩
      have s78 := Snew (L2.Same.refl H7) (o := .tup (us.map V.ref)) hu2
      have eu2 : upd H7 u2 (.tup (us.map V.ref)) u2 = some (.tup (us.map V.ref)) := upd_same
      generalize upd H7 u2 (.tup (us.map V.ref)) = H8 at s78 eu2 ⊢
      walk_at "vc"
      refine ⟨by show 2 ≤ sizeLine; decide, fun u hu9 => ?_⟩
      have s89 := Snew (L2.Same.refl H8) (o := .tup [.ref u1, .ref u2]) hu9
      have s69 := (s67.trans s78).trans s89
      exact qy ws acc erd u u1 u2 us _ ((s3.trans s36).trans s69) upd_same (s89 _ _ (s78 _ _ eu1)) (s89 _ _ eu2) (hall.mono fun t ab h => s69 _ _ h.2.2)
end
/- _law_sign: calls ['_law_take']; cells [] -/
abbrev s_l_sign : Stmt := top 40
theorem sc_l_sign : FnScope ["_law_box_here", "_law_signs"] ["_law_box_here"] (defScope s_l_sign) := ⟨rfl, rfl, rfl, by decide +kernel, rfl, by decide +kernel, by decide +kernel⟩
/- _law_moved: calls ['_law_take']; cells [] -/
abbrev s_l_moved : Stmt := top 41
theorem sc_l_moved : FnScope ["_law_box_here", "_law_some", "_law_way", "_law_at", "_law_to", "_law_left"] ["_law_box_here", "_law_some"] (defScope s_l_moved) := ⟨rfl, rfl, rfl, by decide +kernel, rfl, by decide +kernel, by decide +kernel⟩
def tot (xs : List Str) : Nat := (xs.map (·.length)).sum + xs.length
theorem tot_app (a b : List Str) : tot (a ++ b) = tot a + tot b := by
  unfold tot
  rw [List.map_append, List.sum_append, List.length_append]
  omega
theorem tot_one (a : Str) : tot [a] = a.length + 1 := by simp [tot]
theorem tot_cut (xs : List Str) (k : Nat) : tot (xs.take k) + tot (xs.drop k) = tot xs := by rw [← tot_app, List.take_append_drop]
theorem tot_len (xs : List Str) : xs.length ≤ tot xs := by unfold tot; omega
theorem tot_mem : ∀ {xs : List Str} {y : Str}, y ∈ xs → y.length + 1 ≤ tot xs
  | x :: r, y, h => by
    have e : tot (x :: r) = x.length + 1 + tot r := by rw [show x :: r = [x] ++ r from rfl, tot_app, tot_one]
    rcases List.mem_cons.mp h with rfl | h
    · omega
    · have := tot_mem h; omega
theorem tot_join {z : Str} {xs : List Str} (hz : z.length = 1) : (PySem.Txt.join z xs).length ≤ tot xs := by
  have := join_len_le z xs
  rw [hz] at this
  unfold tot
  omega
theorem tot_split (x : Str) {y : Str} (hy : 1 ≤ y.length) : tot (PySem.Txt.split x y) ≤ x.length + 1 := split_weight x y hy
theorem nat_of {i : Int} (h : 0 ≤ i) : ∃ n : Nat, i = (n : Int) := ⟨i.toNat, by omega⟩
theorem eq_nil {K : W.Frag} {H : Hp} {l z : Addr} {xs : List V} {Q : VK} (hl : H l = some (.lst xs)) (hz : H z = some (.lst [])) (q : Q (.bl xs.isEmpty) H) : rEqZ K (.ref l) (.ref z) H Q := by
  cases xs with
  | nil => exact .inl (.inl (.inr (.inl ⟨l, z, true, 1, rfl, rfl, by decide, EqT.lst (n := 0) (e := fun _ => true) (SqL.of hl) (SqL.of hz) rfl fun j x y h => by (simp at h), q⟩)))
  | cons x r => exact .inl (.inl (.inr (.inl ⟨l, z, false, 1, rfl, rfl, by decide, EqT.lstL (SqL.of hl) (SqL.of hz) (by simp), q⟩)))
theorem sl_to {K : W.Frag} {G : Hp} {g : Addr} {xs : List Str} {k : Nat} {Q : VK} (e : G g = some (.lst (xs.map V.str))) (q : ∀ p, G p = none → Q (.ref p) (upd G p (.lst ((xs.take k).map V.str)))) : rSlU K (.ref g) none (some (k : Int)) G Q :=
  .inl ⟨g, _, rfl, SqL.of e, fun p hp => by rw [cutV_take, ← List.map_take]; exact q p hp⟩
theorem sl_from {K : W.Frag} {G : Hp} {g : Addr} {xs : List Str} {k : Nat} {Q : VK} (e : G g = some (.lst (xs.map V.str))) (q : ∀ p, G p = none → Q (.ref p) (upd G p (.lst ((xs.drop k).map V.str)))) : rSlU K (.ref g) (some (k : Int)) none G Q :=
  .inl ⟨g, _, rfl, SqL.of e, fun p hp => by rw [cutV_drop, ← List.map_drop]; exact q p hp⟩
theorem cat_l {K : W.Frag} {G : Hp} {a b : Addr} {xs ys : List Str} {Q : VK} (ea : G a = some (.lst (xs.map V.str))) (eb : G b = some (.lst (ys.map V.str))) (hl : xs.length + ys.length ≤ 10000000) (q : ∀ p, G p = none → Q (.ref p) (upd G p (.lst ((xs ++ ys).map V.str)))) : rAddU K (.ref a) (.ref b) G Q :=
  .inl ⟨a, b, _, _, rfl, rfl, ea, eb, by rw [List.length_map, List.length_map]; exact Nat.le_trans hl (by decide), fun p hp => by rw [← List.map_append]; exact q p hp⟩
def SGN : Str := " !\"#$&'()*+,-./0123456789:;<=>?@ABCDEFGHIJKLMNOPQRSTUVWXYZ[]^_`abcdefghijklmnopqrstuvwxyz{|}~\n"
def SG2 : Str := "::::    \n\n\n"
def spSign : Sp := fun vs H Q _ => ∃ p : Addr, vs = [.ref p] ∧ Box H p ∧ ∀ (z : Str) (H' : Hp), BB p H H' → z.length = 1 → Q (.str z) H'
def spMoved : Sp := fun vs H Q _ => ∃ (p l : Addr) (xs : List Str), vs = [.ref p, .ref l] ∧ Box H p ∧ H l = some (.lst (xs.map V.str)) ∧ l ≠ p ∧ tot xs ≤ 1000000 ∧ ∀ (r : Addr) (ys : List Str) (H' : Hp), BB p H H' → H' r = some (.lst (ys.map V.str)) → tot ys ≤ 2 * tot xs + 20 → Q (.ref r) H'
section
variable {P : Program} {w : World} {K : W.Frag} {mg : Str → Option Value} {base : Heap} {cc : Nat → Addr} {cw : Addr}
theorem ok_sign {f : Addr} {fd : FuncData} (F : Fun K "_law_sign" "_law_sign" s_l_sign f fd) (T : Txt K mg cc cw) (D_l_take : DefOk P w K mg base CX0 1 "_law_take" ["_law_box_here", "_law_many"] spTake) : FnOk P w K mg base CX0 2 f fd ["_law_box_here"] spSign := by
  refine F.ok sc_l_sign (fun vs H Q E h => ?_) fun cdv A outer s H vs Q E hr h => ?_
  · obtain ⟨p, rfl, _⟩ := h; rfl
  · obtain ⟨p, rfl, hB, q⟩ := h
    have hu := u100 hr
    refine ⟨_, (pss_cons (ps_set (i := 1) sc_l_sign.nd rfl (Or.inl rfl) pe_str)
  (pss_one (ps_ret (pe_ix (k_ixU (K := K) rfl hu) (pe_op (k_add (K := K) rfl) (pv 1) pe_str) (pe_def D_l_take (hm hr) pass0 (pa_cons (pv 0) (pa_cons (pe_op (k_add (K := K) rfl) (pe_callB (k_len (K := K) rfl) rfl T.b_len boot_len (pa_cons (pv 1) pa_nil)) pe_int) pa_nil))) (fun _ _ => rfl))))), ?_⟩
    walk_at "vc"
    have l1 : SGN.length ≤ 100 ∧ SG2.length = 11 ∧ (SGN ++ SG2).length = SGN.length + 11 := by decide +kernel
    refine vAddS (i := SGN) (j := SG2) (Nat.le_of_lt (small1000 (by omega))) ?_
    walk_at "vc"
    refine vLenS (z := SGN) (Nat.le_of_lt (small1000 (by omega))) ?_
    walk_at "vc"
    refine ⟨p, _, rfl, hB, by omega, by omega, fun r H' r0 r1 b => ?_⟩
    obtain ⟨n, rfl⟩ := nat_of r0
    have hn : n < (SGN ++ SG2).cps.toList.length := by rw [← cp_len]; omega
    refine .inl (vIxS (z := SGN ++ SG2) (Nat.le_of_lt (small1000 (by omega))) (atI_nat (List.getElem?_eq_getElem hn)) ?_)
    exact q _ _ b rfl
theorem ok_moved {f : Addr} {fd : FuncData} (F : Fun K "_law_moved" "_law_moved" s_l_moved f fd) (T : Txt K mg cc cw) (D_l_take : DefOk P w K mg base CX0 1 "_law_take" ["_law_box_here", "_law_many"] spTake) : FnOk P w K mg base CX0 2 f fd ["_law_box_here", "_law_some"] spMoved := by
  refine F.ok sc_l_moved (fun vs H Q E h => ?_) fun cdv A outer s H vs Q E hr h => ?_
  · obtain ⟨p, l, xs, rfl, _⟩ := h; rfl
  · obtain ⟨p, l, xs, rfl, hB, hl, nl, htot, q⟩ := h
    have hu := u100 hr
    have hxl := tot_len xs
    refine ⟨_, (pss_cons (ps_if (pt_cmpR (k_eqZ (K := K) rfl hu) (pv 1) (pe_lst pa_nil) (nomark _)) (pss_one (ps_ret (pe_slice (k_sl (K := K) rfl) (pe_lst (pa_cons pe_str (pa_cons pe_str (pa_cons pe_str pa_nil)))) po_none (po_some (pe_def D_l_take (hm hr) pass0 (pa_cons (pv 0) (pa_cons pe_int pa_nil))))))) pss_nil)
  (pss_cons (ps_set (i := 2) sc_l_moved.nd rfl (Or.inl rfl) (pe_def D_l_take (hm hr) pass0 (pa_cons (pv 0) (pa_cons pe_int pa_nil))))
  (pss_cons (ps_set (i := 3) sc_l_moved.nd rfl (Or.inl rfl) (pe_def D_l_take (hm hr) pass0 (pa_cons (pv 0) (pa_cons (pe_callB (k_len (K := K) rfl) rfl T.b_len boot_len (pa_cons (pv 1) pa_nil)) pa_nil))))
  (pss_cons (ps_set (i := 4) sc_l_moved.nd rfl (Or.inl rfl) (pe_def D_l_take (hm hr) pass0 (pa_cons (pv 0) (pa_cons (pe_op (k_add (K := K) rfl) (pe_callB (k_len (K := K) rfl) rfl T.b_len boot_len (pa_cons (pv 1) pa_nil)) pe_int) pa_nil))))
  (pss_cons (ps_set (i := 5) sc_l_moved.nd rfl (Or.inl rfl) (pe_op (k_add (K := K) rfl) (pe_slice (k_sl (K := K) rfl) (pv 1) po_none (po_some (pv 3))) (pe_slice (k_sl (K := K) rfl) (pv 1) (po_some (pe_op (k_add (K := K) rfl) (pv 3) pe_int)) po_none)))
  (pss_cons (ps_if (pt_cmpR (k_eqZ (K := K) rfl hu) (pv 2) pe_int (nomark _)) (pss_one (ps_ret (pe_op (k_add (K := K) rfl) (pe_op (k_add (K := K) rfl) (pe_slice (k_sl (K := K) rfl) (pv 1) po_none (po_some (pv 4))) (pe_lst (pa_cons (pe_ix (k_ixU (K := K) rfl hu) (pv 1) (pv 3) (fun _ _ => rfl)) pa_nil))) (pe_slice (k_sl (K := K) rfl) (pv 1) (po_some (pv 4)) po_none)))) pss_nil)
  (pss_cons (ps_if (pt_cmpR (k_eqZ (K := K) rfl hu) (pv 2) pe_int (nomark _)) (pss_one (ps_ret (pv 5))) pss_nil)
  (pss_one (ps_ret (pe_op (k_add (K := K) rfl) (pe_op (k_add (K := K) rfl) (pe_slice (k_sl (K := K) rfl) (pv 5) po_none (po_some (pv 4))) (pe_lst (pa_cons (pe_ix (k_ixU (K := K) rfl hu) (pv 1) (pv 3) (fun _ _ => rfl)) pa_nil))) (pe_slice (k_sl (K := K) rfl) (pv 5) (po_some (pv 4)) po_none))))))))))), ?_⟩
    walk_at "vc"
    refine ⟨by decide, fun z hz => ?_⟩
    have b1 := (BB.refl hB).new (o := .lst []) hz
    have s1 := Snew (L2.Same.refl H) (o := .lst []) hz
    have ez : upd H z (.lst []) z = some (.lst []) := upd_same
    generalize upd H z (.lst []) = H1 at b1 s1 ez ⊢
    have hl1 := s1 _ _ hl
    walk_at "vc"
    refine eq_nil hl1 ez ?_
    walk_at "vc"
    refine ite2 (fun h => ?_) fun h => ?_
    · walk_at "vc"
      refine ⟨by show 3 ≤ sizeLine; decide, fun c hc => ?_⟩
      have b2 := b1.new (o := .lst [.str "a", .str "a: b", .str "b"]) hc
      have nc := b1.apart hc
      have ec : upd H1 c (.lst [.str "a", .str "a: b", .str "b"]) c = some (.lst ((["a", "a: b", "b"] : List Str).map V.str)) := upd_same
      generalize upd H1 c (.lst [.str "a", .str "a: b", .str "b"]) = H2 at b2 ec ⊢
      walk_at "vc"
      refine ⟨p, 4, rfl, b2.2, by decide, by decide, fun r H3 r0 r1 b23 => ?_⟩
      obtain ⟨n, rfl⟩ := nat_of r0
      walk_at "vc"
      refine sl_to (b23.1 _ _ nc ec) fun d hd => ?_
      refine q d _ _ ((b2.trans b23).new hd) upd_same ?_
      have h1 := tot_cut (["a", "a: b", "b"] : List Str) n
      have h2 : tot (["a", "a: b", "b"] : List Str) = 9 := by decide +kernel
      omega
    have hne : xs ≠ [] := fun e => by rw [e] at h; exact h rfl
    have hpos : 0 < xs.length := List.length_pos_iff.mpr hne
    walk_at "vc"
    refine ⟨p, 3, rfl, b1.2, by decide, by decide, fun way H2 w0 w1 b12 => ?_⟩
    have b2 := b1.trans b12
    have hl2 := b12.1 _ _ nl hl1
    walk_at "vc"
    refine vLenL hl2 ?_
    rw [List.length_map]
    walk_at "vc"
    refine ⟨p, _, rfl, b2.2, by omega, by omega, fun at' H3 a0 a1 b23 => ?_⟩
    obtain ⟨n, rfl⟩ := nat_of a0
    have b3 := b2.trans b23
    have hl3 := b23.1 _ _ nl hl2
    have hn : n < xs.length := by omega
    have gn : xs[n]? = some xs[n] := List.getElem?_eq_getElem hn
    have hym := List.getElem_mem hn
    generalize xs[n] = y at gn hym
    have gV : (xs.map V.str)[n]? = some (.str y) := by rw [List.getElem?_map, gn]; rfl
    have hy1 := tot_mem hym
    walk_at "vc"
    refine vLenL hl3 ?_
    rw [List.length_map]
    walk_at "vc"
    refine ⟨p, _, rfl, b3.2, by omega, by omega, fun to H4 t0 t1 b34 => ?_⟩
    obtain ⟨m, rfl⟩ := nat_of t0
    have b4 := b3.trans b34
    have hl4 := b34.1 _ _ nl hl3
    walk_at "vc"
    refine sl_to hl4 fun c1 hc1 => ?_
    have b5 := b4.new (o := .lst ((xs.take n).map V.str)) hc1
    have s45 := Snew (L2.Same.refl H4) (o := .lst ((xs.take n).map V.str)) hc1
    have e1 : upd H4 c1 (.lst ((xs.take n).map V.str)) c1 = some (.lst ((xs.take n).map V.str)) := upd_same
    generalize upd H4 c1 (.lst ((xs.take n).map V.str)) = H5 at b5 s45 e1 ⊢
    have hl5 := s45 _ _ hl4
    walk_at "vc"
    rw [show (n : Int) + 1 = ((n + 1 : Nat) : Int) from rfl]
    refine sl_from hl5 fun c2 hc2 => ?_
    have b6 := b5.new (o := .lst ((xs.drop (n + 1)).map V.str)) hc2
    have s56 := Snew (L2.Same.refl H5) (o := .lst ((xs.drop (n + 1)).map V.str)) hc2
    have e2 : upd H5 c2 (.lst ((xs.drop (n + 1)).map V.str)) c2 = some (.lst ((xs.drop (n + 1)).map V.str)) := upd_same
    generalize upd H5 c2 (.lst ((xs.drop (n + 1)).map V.str)) = H6 at b6 s56 e2 ⊢
    have hl6 := s56 _ _ hl5
    walk_at "vc"
    have k1 := tot_len (xs.take n)
    have k2 := tot_len (xs.drop (n + 1))
    have k3 := tot_cut xs n
    have k4 := tot_cut xs (n + 1)
    refine cat_l (s56 _ _ e1) e2 (by omega) fun c3 hc3 => ?_
    have htl : tot (xs.take n ++ xs.drop (n + 1)) ≤ 2 * tot xs := by rw [tot_app]; omega
    have b7 := b6.new (o := .lst ((xs.take n ++ xs.drop (n + 1)).map V.str)) hc3
    have s67 := Snew (L2.Same.refl H6) (o := .lst ((xs.take n ++ xs.drop (n + 1)).map V.str)) hc3
    have e3 : upd H6 c3 (.lst ((xs.take n ++ xs.drop (n + 1)).map V.str)) c3 = some (.lst ((xs.take n ++ xs.drop (n + 1)).map V.str)) := upd_same
    have htl2 : tot (xs.take n ++ xs.drop (n + 1)) ≤ tot xs := by
      rw [tot_app]
      have : xs.drop n = y :: xs.drop (n + 1) := drop_at gn
      rw [this, show y :: xs.drop (n + 1) = [y] ++ xs.drop (n + 1) from rfl, tot_app] at k3
      omega
    generalize (xs.take n ++ xs.drop (n + 1)) = ls at b7 s67 e3 htl htl2 ⊢
    generalize upd H6 c3 (.lst (ls.map V.str)) = H7 at b7 s67 e3 ⊢
    have hl7 := s67 _ _ hl6
    clear s67 s56 s45 e1 e2 b6 b5 b4 b34 b3 b23 b2 b12 hl6 hl5 hl4 hl3 hl2
    walk_at "vc"
    refine .inl (.inl (.inl ⟨rfl, rfl, ?_⟩))
    walk_at "vc"
    refine ite2 (fun _ => ?_) fun _ => ?_
    · have h1 := tot_cut xs m
      have h2 := tot_len (xs.take m)
      have h3 := tot_len (xs.drop m)
      walk_at "vc"
      refine sl_to hl7 fun d1 hd1 => ?_
      have b8 := b7.new (o := .lst ((xs.take m).map V.str)) hd1
      have s78 := Snew (L2.Same.refl H7) (o := .lst ((xs.take m).map V.str)) hd1
      have f1 : upd H7 d1 (.lst ((xs.take m).map V.str)) d1 = some (.lst ((xs.take m).map V.str)) := upd_same
      generalize upd H7 d1 (.lst ((xs.take m).map V.str)) = H8 at b8 s78 f1 ⊢
      walk_at "vc"
      refine .inl (vIxL (s78 _ _ hl7) (atI_nat gV) ?_)
      walk_at "vc"
      refine ⟨by show 1 ≤ sizeLine; decide, fun d2 hd2 => ?_⟩
      have b9 := b8.new (o := .lst [.str y]) hd2
      have s89 := Snew (L2.Same.refl H8) (o := .lst [.str y]) hd2
      have f2 : upd H8 d2 (.lst [.str y]) d2 = some (.lst (([y] : List Str).map V.str)) := upd_same
      generalize upd H8 d2 (.lst [.str y]) = H9 at b9 s89 f2 ⊢
      walk_at "vc"
      refine cat_l (s89 _ _ f1) f2 (by simp only [List.length_cons, List.length_nil]; omega) fun d3 hd3 => ?_
      have b10 := b9.new (o := .lst ((xs.take m ++ [y]).map V.str)) hd3
      have s910 := Snew (L2.Same.refl H9) (o := .lst ((xs.take m ++ [y]).map V.str)) hd3
      have f3 : upd H9 d3 (.lst ((xs.take m ++ [y]).map V.str)) d3 = some (.lst ((xs.take m ++ [y]).map V.str)) := upd_same
      generalize upd H9 d3 (.lst ((xs.take m ++ [y]).map V.str)) = H10 at b10 s910 f3 ⊢
      walk_at "vc"
      refine sl_from (s910 _ _ (s89 _ _ (s78 _ _ hl7))) fun d4 hd4 => ?_
      have b11 := b10.new (o := .lst ((xs.drop m).map V.str)) hd4
      have s1011 := Snew (L2.Same.refl H10) (o := .lst ((xs.drop m).map V.str)) hd4
      have f4 : upd H10 d4 (.lst ((xs.drop m).map V.str)) d4 = some (.lst ((xs.drop m).map V.str)) := upd_same
      generalize upd H10 d4 (.lst ((xs.drop m).map V.str)) = H11 at b11 s1011 f4 ⊢
      walk_at "vc"
      refine cat_l (s1011 _ _ f3) f4 (by rw [List.length_append]; simp only [List.length_cons, List.length_nil]; omega) fun d5 hd5 => ?_
      exact q d5 (xs.take m ++ [y] ++ xs.drop m) _ (b11.new hd5) upd_same (by rw [tot_app, tot_app, tot_one]; omega)
    walk_at "vc"
    refine .inl (.inl (.inl ⟨rfl, rfl, ?_⟩))
    walk_at "vc"
    refine ite2 (fun _ => ?_) fun _ => ?_
    · walk_at "vc"
      exact q c3 ls _ b7 e3 (by omega)
    · have h1 := tot_cut ls m
      have h2 := tot_len (ls.take m)
      have h3 := tot_len (ls.drop m)
      walk_at "vc"
      refine sl_to e3 fun d1 hd1 => ?_
      have b8 := b7.new (o := .lst ((ls.take m).map V.str)) hd1
      have s78 := Snew (L2.Same.refl H7) (o := .lst ((ls.take m).map V.str)) hd1
      have f1 : upd H7 d1 (.lst ((ls.take m).map V.str)) d1 = some (.lst ((ls.take m).map V.str)) := upd_same
      generalize upd H7 d1 (.lst ((ls.take m).map V.str)) = H8 at b8 s78 f1 ⊢
      walk_at "vc"
      refine .inl (vIxL (s78 _ _ hl7) (atI_nat gV) ?_)
      walk_at "vc"
      refine ⟨by show 1 ≤ sizeLine; decide, fun d2 hd2 => ?_⟩
      have b9 := b8.new (o := .lst [.str y]) hd2
      have s89 := Snew (L2.Same.refl H8) (o := .lst [.str y]) hd2
      have f2 : upd H8 d2 (.lst [.str y]) d2 = some (.lst (([y] : List Str).map V.str)) := upd_same
      generalize upd H8 d2 (.lst [.str y]) = H9 at b9 s89 f2 ⊢
      walk_at "vc"
      refine cat_l (s89 _ _ f1) f2 (by simp only [List.length_cons, List.length_nil]; omega) fun d3 hd3 => ?_
      have b10 := b9.new (o := .lst ((ls.take m ++ [y]).map V.str)) hd3
      have s910 := Snew (L2.Same.refl H9) (o := .lst ((ls.take m ++ [y]).map V.str)) hd3
      have f3 : upd H9 d3 (.lst ((ls.take m ++ [y]).map V.str)) d3 = some (.lst ((ls.take m ++ [y]).map V.str)) := upd_same
      generalize upd H9 d3 (.lst ((ls.take m ++ [y]).map V.str)) = H10 at b10 s910 f3 ⊢
      walk_at "vc"
      refine sl_from (s910 _ _ (s89 _ _ (s78 _ _ e3))) fun d4 hd4 => ?_
      have b11 := b10.new (o := .lst ((ls.drop m).map V.str)) hd4
      have s1011 := Snew (L2.Same.refl H10) (o := .lst ((ls.drop m).map V.str)) hd4
      have f4 : upd H10 d4 (.lst ((ls.drop m).map V.str)) d4 = some (.lst ((ls.drop m).map V.str)) := upd_same
      generalize upd H10 d4 (.lst ((ls.drop m).map V.str)) = H11 at b11 s1011 f4 ⊢
      walk_at "vc"
      refine cat_l (s1011 _ _ f3) f4 (by rw [List.length_append]; simp only [List.length_cons, List.length_nil]; omega) fun d5 hd5 => ?_
      exact q d5 (ls.take m ++ [y] ++ ls.drop m) _ (b11.new hd5) upd_same (by rw [tot_app, tot_app, tot_one]; omega)
end
/- _law_spoilt: calls ['_law_take', '_law_sign', '_law_moved']; cells [] -/
abbrev s_l_spoilt : Stmt := top 42
theorem sc_l_spoilt : FnScope ["_law_box_here", "_law_text", "_law_way", "_law_at", "_law_lines_here", "_law_line", "_law_words"] ["_law_box_here", "_law_text"] (defScope s_l_spoilt) := ⟨rfl, rfl, rfl, by decide +kernel, rfl, by decide +kernel, by decide +kernel⟩
theorem cut_some (xs : List Str) (lo hi : Option Int) : ∃ ys : List Str, cutV (xs.map V.str) lo hi = ys.map V.str ∧ tot ys ≤ tot xs := by
  unfold cutV
  rw [List.length_map]
  refine ⟨(xs.drop (HT.sIx xs.length 0 lo)).take (HT.sIx xs.length xs.length hi - HT.sIx xs.length 0 lo), by rw [List.map_take, List.map_drop], ?_⟩
  have h1 := tot_cut xs (HT.sIx xs.length 0 lo)
  have h2 := tot_cut (xs.drop (HT.sIx xs.length 0 lo)) (HT.sIx xs.length xs.length hi - HT.sIx xs.length 0 lo)
  omega
theorem tot_set (w : Str) : ∀ (xs : List Str) (i : Nat), tot (xs.set i w) ≤ tot xs + w.length
  | [], _ => by simp [tot]
  | x :: r, 0 => by
    show tot ([w] ++ r) ≤ tot ([x] ++ r) + _
    rw [tot_app, tot_app, tot_one, tot_one]
    omega
  | x :: r, i + 1 => by
    show tot ([x] ++ r.set i w) ≤ tot ([x] ++ r) + _
    rw [tot_app, tot_app]
    have := tot_set w r i
    omega
theorem join_fit {xs : List Str} {z : Str} (hz : z.length = 1) (h : tot xs ≤ 10000000) : (xs.map (·.length)).sum + xs.length * z.length ≤ 16777216 := by
  rw [hz]
  unfold tot at h
  omega
theorem set_fit {n j : Nat} (h : j < n) : ixN n (j : Int) = some j := by
  unfold ixN
  first | (rw [if_neg (by omega)]; simp; omega) | (simp; omega)
def spSpoilt : Sp := fun vs H Q _ => ∃ (p : Addr) (z : Str), vs = [.ref p, .str z] ∧ Box H p ∧ z.length ≤ 20000 ∧ ∀ (z' : Str) (H' : Hp), BB p H H' → z'.length ≤ 5 * z.length + 30 → Q (.str z') H'
section
variable {P : Program} {w : World} {K : W.Frag} {mg : Str → Option Value} {base : Heap} {cc : Nat → Addr} {cw : Addr}
theorem ok_spoilt {f : Addr} {fd : FuncData} (F : Fun K "_law_spoilt" "_law_spoilt" s_l_spoilt f fd) (T : Txt K mg cc cw) (D_l_take : DefOk P w K mg base CX0 1 "_law_take" ["_law_box_here", "_law_many"] spTake) (D_l_sign : DefOk P w K mg base CX0 2 "_law_sign" ["_law_box_here"] spSign)
    (D_l_moved : DefOk P w K mg base CX0 2 "_law_moved" ["_law_box_here", "_law_some"] spMoved) : FnOk P w K mg base CX0 3 f fd ["_law_box_here", "_law_text"] spSpoilt := by
  refine F.ok sc_l_spoilt (fun vs H Q E h => ?_) fun cdv A outer s H vs Q E hr h => ?_
  · obtain ⟨p, z, rfl, _⟩ := h; rfl
  · obtain ⟨p, z, rfl, hB, hz, q⟩ := h
    have hu := u100 hr
    have hsz : z.length ≤ sizeLine := Nat.le_trans hz (by decide)
    refine ⟨_, (pss_cons (ps_set (i := 2) sc_l_spoilt.nd rfl (Or.inl rfl) (pe_def D_l_take (hm hr) pass0 (pa_cons (pv 0) (pa_cons pe_int pa_nil))))
  (pss_cons (ps_set (i := 3) sc_l_spoilt.nd rfl (Or.inl rfl) (pe_def D_l_take (hm hr) pass0 (pa_cons (pv 0) (pa_cons (pe_op (k_add (K := K) rfl) (pe_callB (k_len (K := K) rfl) rfl T.b_len boot_len (pa_cons (pv 1) pa_nil)) pe_int) pa_nil))))
  (pss_cons (ps_set (i := 4) sc_l_spoilt.nd rfl (Or.inl rfl) (k_bm (K := K) rfl PySem.F.plainAttrs_str PySem.F.slot_str_split PySem.F.type_str_split mt_split (pv 1) (pa_cons pe_str pa_nil)))
  (pss_cons (ps_set (i := 5) sc_l_spoilt.nd rfl (Or.inl rfl) (pe_def D_l_take (hm hr) pass0 (pa_cons (pv 0) (pa_cons (pe_callB (k_len (K := K) rfl) rfl T.b_len boot_len (pa_cons (pv 4) pa_nil)) pa_nil))))
  (pss_cons (ps_if (pt_cmpR op_lt (pv 2) pe_int (nomark _)) (pss_one (ps_ret (pe_op (k_add (K := K) rfl) (pe_op (k_add (K := K) rfl) (pe_slice (k_sl (K := K) rfl) (pv 1) po_none (po_some (pv 3))) (pe_def D_l_sign (hm hr) pass0 (pa_cons (pv 0) pa_nil))) (pe_slice (k_sl (K := K) rfl) (pv 1) (po_some (pe_op (k_add (K := K) rfl) (pv 3) (pv 2))) po_none)))) pss_nil)
  (pss_cons (ps_if (pt_cmpR (k_eqZ (K := K) rfl hu) (pv 2) pe_int (nomark _)) (pss_one (ps_ret (pe_op (k_add (K := K) rfl) (pe_slice (k_sl (K := K) rfl) (pv 1) po_none (po_some (pv 3))) (pe_slice (k_sl (K := K) rfl) (pv 1) (po_some (pe_op (k_add (K := K) rfl) (pv 3) pe_int)) po_none)))) pss_nil)
  (pss_cons (ps_if (pt_cmpR (k_eqZ (K := K) rfl hu) (pv 2) pe_int (nomark _)) (pss_one (ps_ret (pe_op (k_add (K := K) rfl) (pv 1) (pe_ix (k_ixU (K := K) rfl hu) (pe_lst (pa_cons pe_str (pa_cons pe_str (pa_cons pe_str (pa_cons pe_str (pa_cons pe_str pa_nil)))))) (pe_def D_l_take (hm hr) pass0 (pa_cons (pv 0) (pa_cons pe_int pa_nil))) (fun _ _ => rfl))))) pss_nil)
  (pss_cons (ps_if (pt_cmpR (k_eqZ (K := K) rfl hu) (pv 2) pe_int (nomark _)) (pss_one (ps_ret (k_bm (K := K) rfl PySem.F.plainAttrs_str PySem.F.slot_str_join PySem.F.type_str_join (k_join (K := K) rfl) pe_str (pa_cons (pe_def D_l_moved (hm hr) pass0 (pa_cons (pv 0) (pa_cons (pv 4) pa_nil))) pa_nil)))) pss_nil)
  (pss_cons (ps_if (pt_cmpR op_lt (pv 2) pe_int (nomark _)) (pss_cons (ps_set (i := 6) sc_l_spoilt.nd rfl (Or.inl rfl) (k_bm (K := K) rfl PySem.F.plainAttrs_str PySem.F.slot_str_split PySem.F.type_str_split mt_split (pe_ix (k_ixU (K := K) rfl hu) (pv 4) (pv 5) (fun _ _ => rfl)) (pa_cons pe_str pa_nil)))
  (pss_cons (ps_if (pt_cmpR (k_eqZ (K := K) rfl hu) (pv 2) pe_int (nomark _)) (pss_one (ps_set (i := 6) sc_l_spoilt.nd rfl (Or.inl rfl) (pe_op (k_add (K := K) rfl) (pv 6) (pe_slice (k_sl (K := K) rfl) (k_bm (K := K) rfl PySem.F.plainAttrs_str PySem.F.slot_str_split PySem.F.type_str_split mt_split (pe_ix (k_ixU (K := K) rfl hu) (pv 4) (pe_def D_l_take (hm hr) pass0 (pa_cons (pv 0) (pa_cons (pe_callB (k_len (K := K) rfl) rfl T.b_len boot_len (pa_cons (pv 4) pa_nil)) pa_nil))) (fun _ _ => rfl)) (pa_cons pe_str pa_nil)) (po_some pe_int) (po_some pe_int))))) pss_nil)
  (pss_one (ps_asg (k_bm (K := K) rfl PySem.F.plainAttrs_str PySem.F.slot_str_join PySem.F.type_str_join (k_join (K := K) rfl) pe_str (pa_cons (pe_def D_l_moved (hm hr) pass0 (pa_cons (pv 0) (pa_cons (pv 6) pa_nil))) pa_nil)) (pg_sub (pv 4) (pv 5) (k_setU hu)))))) pss_nil)
  (pss_one (ps_ret (k_bm (K := K) rfl PySem.F.plainAttrs_str PySem.F.slot_str_join PySem.F.type_str_join (k_join (K := K) rfl) pe_str (pa_cons (pv 4) pa_nil))))))))))))), ?_⟩
    walk_at "vc"
    refine ⟨p, 8, rfl, hB, by decide, by decide, fun way H1 w0 w1 b1 => ?_⟩
    walk_at "vc"
    refine vLenS hsz ?_
    walk_at "vc"
    refine ⟨p, _, rfl, b1.2, by omega, by omega, fun at' H2 a0 a1 b12 => ?_⟩
    obtain ⟨n, rfl⟩ := nat_of a0
    have b2 := b1.trans b12
    walk_at "vc"
    refine ⟨rfl, ?_⟩
    walk_at "vc"
    refine ⟨z, _, rfl, rfl, by decide +kernel, Nat.le_trans (Nat.add_le_add_right hz 2) (by decide), fun g hg => ?_⟩
    have htot := tot_split z (y := "\n") (by decide +kernel)
    have hpos : 1 ≤ (PySem.Txt.split z "\n").length := split_pos _ _
    change tSeq _ _ _ _ (upd H2 g (.lst ((PySem.Txt.split z "\n").map V.str)))
    generalize PySem.Txt.split z "\n" = xs at htot hpos ⊢
    have hxl := tot_len xs
    have b3 := b2.new (o := .lst (xs.map V.str)) hg
    have ng := b2.apart hg
    have hg0 : H g = none := b2.free hg
    have eg : upd H2 g (.lst (xs.map V.str)) g = some (.lst (xs.map V.str)) := upd_same
    generalize upd H2 g (.lst (xs.map V.str)) = H3 at b3 eg ⊢
    walk_at "vc"
    refine vLenL eg ?_
    rw [List.length_map]
    walk_at "vc"
    refine ⟨p, _, rfl, b3.2, by omega, by omega, fun ln H4 l0 l1 b34 => ?_⟩
    obtain ⟨m, rfl⟩ := nat_of l0
    have hm : m < xs.length := by omega
    have gm : xs[m]? = some xs[m] := List.getElem?_eq_getElem hm
    have b4 := b3.trans b34
    have eg4 := b34.1 _ _ ng eg
    have sl1 := slice_len z none (some (n : Int))
    walk_at "vc"
    refine ite2 (fun hw2 => ?_) fun hw2 => ?_
    · walk_at "vc"
      refine ⟨hsz, ?_⟩
      generalize PySem.Txt.slice z none (some (n : Int)) = u1 at sl1 ⊢
      walk_at "vc"
      refine ⟨p, rfl, b4.2, fun sgn H5 b45 hs1 => ?_⟩
      walk_at "vc"
      refine vAddS (Nat.le_trans (Nat.add_le_add (Nat.le_trans sl1 hz) (Nat.le_of_eq hs1)) (by decide)) ?_
      walk_at "vc"
      refine ⟨hsz, ?_⟩
      have sl2 := slice_len z (some ((n : Int) + way)) none
      generalize PySem.Txt.slice z (some ((n : Int) + way)) none = u2 at sl2 ⊢
      walk_at "vc"
      refine vAddS (by rw [Str.length_append, hs1]; exact Nat.le_trans (Nat.add_le_add (Nat.add_le_add (Nat.le_trans sl1 hz) (Nat.le_refl 1)) (Nat.le_trans sl2 hz)) (by decide)) ?_
      exact q _ _ (b4.trans b45) (by rw [Str.length_append, Str.length_append, hs1]; omega)
    walk_at "vc"
    refine .inl (.inl (.inl ⟨rfl, rfl, ?_⟩))
    walk_at "vc"
    refine ite2 (fun _ => ?_) fun _ => ?_
    · walk_at "vc"
      refine ⟨hsz, ?_⟩
      generalize PySem.Txt.slice z none (some (n : Int)) = u1 at sl1 ⊢
      walk_at "vc"
      refine ⟨hsz, ?_⟩
      have sl2 := slice_len z (some ((n : Int) + 1)) none
      generalize PySem.Txt.slice z (some ((n : Int) + 1)) none = u2 at sl2 ⊢
      walk_at "vc"
      refine vAddS (Nat.le_trans (Nat.add_le_add (Nat.le_trans sl1 hz) (Nat.le_trans sl2 hz)) (by decide)) ?_
      exact q _ _ b4 (by rw [Str.length_append]; omega)
    clear sl1
    walk_at "vc"
    refine .inl (.inl (.inl ⟨rfl, rfl, ?_⟩))
    walk_at "vc"
    refine ite2 (fun _ => ?_) fun _ => ?_
    · walk_at "vc"
      refine ⟨by show 5 ≤ sizeLine; decide, fun c hc => ?_⟩
      have nc := b4.apart hc
      have b5 := b4.new (o := .lst [.str "\n", .str " ", .str ":", .str "\na:", .str " a"]) hc
      have ec : upd H4 c (.lst [.str "\n", .str " ", .str ":", .str "\na:", .str " a"]) c = some (.lst ((["\n", " ", ":", "\na:", " a"] : List Str).map V.str)) := upd_same
      generalize upd H4 c (.lst [.str "\n", .str " ", .str ":", .str "\na:", .str " a"]) = H5 at b5 ec ⊢
      walk_at "vc"
      refine ⟨p, 5, rfl, b5.2, by decide, by decide, fun r H6 r0 r1 b56 => ?_⟩
      obtain ⟨k, rfl⟩ := nat_of r0
      have hk : k < (["\n", " ", ":", "\na:", " a"] : List Str).length := by show k < 5; omega
      have gk : (["\n", " ", ":", "\na:", " a"] : List Str)[k]? = some (["\n", " ", ":", "\na:", " a"] : List Str)[k] := List.getElem?_eq_getElem hk
      have hall : ∀ s ∈ (["\n", " ", ":", "\na:", " a"] : List Str), s.length ≤ 3 := by decide +kernel
      have h3 := hall _ (List.mem_of_getElem? gk)
      generalize (["\n", " ", ":", "\na:", " a"] : List Str)[k] = y at gk h3
      refine .inl (vIxL (b56.1 _ _ nc ec) (atI_nat (by rw [List.getElem?_map, gk]; rfl)) ?_)
      walk_at "vc"
      refine vAddS (Nat.le_trans (Nat.add_le_add hz h3) (by decide)) ?_
      exact q _ _ (b5.trans b56) (by rw [Str.length_append]; omega)
    walk_at "vc"
    refine .inl (.inl (.inl ⟨rfl, rfl, ?_⟩))
    walk_at "vc"
    refine ite2 (fun _ => ?_) fun _ => ?_
    · walk_at "vc"
      refine ⟨rfl, ?_⟩
      walk_at "vc"
      refine ⟨p, g, xs, rfl, b4.2, eg4, ng, by omega, fun r ys H5 b45 hr hty => ?_⟩
      walk_at "vc"
      have hj := tot_join (z := "\n") (xs := ys) one_len.2.2
      exact ⟨_, r, ys, rfl, rfl, SqL.of hr, join_fit one_len.2.2 (by omega), q _ _ (b4.trans b45) (by omega)⟩
    walk_at "vc"
    have gV : (xs.map V.str)[m]? = some (.str xs[m]) := by rw [List.getElem?_map, gm]; rfl
    have hxm := tot_mem (List.mem_of_getElem? gm)
    generalize xs[m] = lm at gm gV hxm
    refine ite2 (fun _ => ?_) fun _ => ?_
    · walk_at "vc"
      refine .inl (vIxL eg4 (atI_nat gV) ?_)
      refine ⟨rfl, ?_⟩
      walk_at "vc"
      refine ⟨lm, _, rfl, rfl, by decide +kernel, Nat.le_trans (show lm.length + 2 ≤ 20010 by omega) (by decide), fun c hc => ?_⟩
      have hwt := tot_split lm (y := " ") (by decide +kernel)
      change tSeq _ _ _ _ (upd H4 c (.lst ((PySem.Txt.split lm " ").map V.str)))
      generalize PySem.Txt.split lm " " = ws at hwt ⊢
      have hwl := tot_len ws
      have b5 := b4.new (o := .lst (ws.map V.str)) hc
      have nc := b4.apart hc
      have s45 := Snew (L2.Same.refl H4) (o := .lst (ws.map V.str)) hc
      have ec : upd H4 c (.lst (ws.map V.str)) c = some (.lst (ws.map V.str)) := upd_same
      have eg5 := s45 _ _ eg4
      generalize upd H4 c (.lst (ws.map V.str)) = H5 at b5 ec eg5 ⊢
      walk_at "vc"
      refine .inl (.inl (.inl ⟨rfl, rfl, ?_⟩))
      walk_at "vc"
      refine ite2 (fun _ => ?_) fun _ => ?_
      · walk_at "vc"
        refine vLenL eg5 ?_
        rw [List.length_map]
        walk_at "vc"
        refine ⟨p, _, rfl, b5.2, by omega, by omega, fun r H6 r0 r1 b56 => ?_⟩
        obtain ⟨k, rfl⟩ := nat_of r0
        have hk : k < xs.length := by omega
        have gk : xs[k]? = some xs[k] := List.getElem?_eq_getElem hk
        have hxk := tot_mem (List.mem_of_getElem? gk)
        have gkV : (xs.map V.str)[k]? = some (.str xs[k]) := by rw [List.getElem?_map, gk]; rfl
        generalize xs[k] = lk at gk gkV hxk
        have b6 := b5.trans b56
        have eg6 := b56.1 _ _ ng eg5
        have ec6 := b56.1 _ _ nc ec
        refine .inl (vIxL eg6 (atI_nat gkV) ?_)
        refine ⟨rfl, ?_⟩
        walk_at "vc"
        refine ⟨lk, _, rfl, rfl, by decide +kernel, Nat.le_trans (show lk.length + 2 ≤ 20010 by omega) (by decide), fun d hd => ?_⟩
        have hvt := tot_split lk (y := " ") (by decide +kernel)
        have ed : upd H6 d (.lst ((PySem.Txt.split lk " ").map V.str)) d = some (.lst ((PySem.Txt.split lk " ").map V.str)) := upd_same
        have b7 := b6.new (o := .lst ((PySem.Txt.split lk " ").map V.str)) hd
        have s67 := Snew (L2.Same.refl H6) (o := .lst ((PySem.Txt.split lk " ").map V.str)) hd
        have eg7 := s67 _ _ eg6
        have ec7 := s67 _ _ ec6
        generalize upd H6 d (.lst ((PySem.Txt.split lk " ").map V.str)) = H7 at ed b7 eg7 ec7 ⊢
        generalize PySem.Txt.split lk " " = vs at ed hvt
        walk_at "vc"
        obtain ⟨us, eus, hus⟩ := cut_some vs (some 1) (some 2)
        have hul := tot_len us
        refine .inl ⟨d, _, rfl, SqL.of ed, fun e he => ?_⟩
        rw [eus]
        have ee : upd H7 e (.lst (us.map V.str)) e = some (.lst (us.map V.str)) := upd_same
        have b8 := b7.new (o := .lst (us.map V.str)) he
        have s78 := Snew (L2.Same.refl H7) (o := .lst (us.map V.str)) he
        have eg8 := s78 _ _ eg7
        have ec8 := s78 _ _ ec7
        generalize upd H7 e (.lst (us.map V.str)) = H8 at ee b8 eg8 ec8 ⊢
        walk_at "vc"
        refine cat_l ec8 ee (by omega) fun i hi => ?_
        have ei : upd H8 i (.lst ((ws ++ us).map V.str)) i = some (.lst ((ws ++ us).map V.str)) := upd_same
        have b9 := b8.new (o := .lst ((ws ++ us).map V.str)) hi
        have ni := b8.apart hi
        have s89 := Snew (L2.Same.refl H8) (o := .lst ((ws ++ us).map V.str)) hi
        have eg9 := s89 _ _ eg8
        have hwu : tot (ws ++ us) ≤ 2 * z.length + 4 := by rw [tot_app]; omega
        generalize upd H8 i (.lst ((ws ++ us).map V.str)) = H9 at ei b9 eg9 ⊢
        generalize ws ++ us = wu at ei hwu
        walk_at "vc"
        refine ⟨rfl, ?_⟩
        walk_at "vc"
        refine ⟨p, i, wu, rfl, b9.2, ei, ni, by omega, fun rr ys HM bM hrr hty => ?_⟩
        have egM := bM.1 _ _ ng eg9
        have hjw := tot_join (z := " ") (xs := ys) one_len.1
        walk_at "vc"
        refine ⟨_, rr, ys, rfl, rfl, SqL.of hrr, join_fit one_len.1 (by omega), ?_⟩
        generalize PySem.Txt.join " " ys = jw at hjw ⊢
        walk_at "vc"
        refine .inl (vSetL egM (set_fit (by rw [List.length_map]; exact hm)) ?_)
        have hset : (xs.map V.str).set m (.str jw) = (xs.set m jw).map V.str := by rw [List.map_set]
        rw [hset]
        have hts := tot_set jw xs m
        have hjl := tot_join (z := "\n") (xs := xs.set m jw) one_len.2.2
        have bF : BB p H (upd HM g (.lst ((xs.set m jw).map V.str))) := (b9.trans bM).put hg0 ng
        walk_at "vc"
        refine ⟨rfl, ?_⟩
        walk_at "vc"
        exact ⟨_, g, _, rfl, rfl, SqL.of upd_same, join_fit one_len.2.2 (by omega), q _ _ bF (by omega)⟩
      · have hwu : tot ws ≤ 2 * z.length + 4 := by omega
        walk_at "vc"
        refine ⟨rfl, ?_⟩
        walk_at "vc"
        refine ⟨p, c, ws, rfl, b5.2, ec, nc, by omega, fun rr ys HM bM hrr hty => ?_⟩
        have egM := bM.1 _ _ ng eg5
        have hjw := tot_join (z := " ") (xs := ys) one_len.1
        walk_at "vc"
        refine ⟨_, rr, ys, rfl, rfl, SqL.of hrr, join_fit one_len.1 (by omega), ?_⟩
        generalize PySem.Txt.join " " ys = jw at hjw ⊢
        walk_at "vc"
        refine .inl (vSetL egM (set_fit (by rw [List.length_map]; exact hm)) ?_)
        have hset : (xs.map V.str).set m (.str jw) = (xs.set m jw).map V.str := by rw [List.map_set]
        rw [hset]
        have hts := tot_set jw xs m
        have hjl := tot_join (z := "\n") (xs := xs.set m jw) one_len.2.2
        have bF : BB p H (upd HM g (.lst ((xs.set m jw).map V.str))) := (b5.trans bM).put hg0 ng
        walk_at "vc"
        refine ⟨rfl, ?_⟩
        walk_at "vc"
        exact ⟨_, g, _, rfl, rfl, SqL.of upd_same, join_fit one_len.2.2 (by omega), q _ _ bF (by omega)⟩
    · have hj := tot_join (z := "\n") (xs := xs) one_len.2.2
      walk_at "vc"
      refine ⟨rfl, ?_⟩
      walk_at "vc"
      exact ⟨_, g, xs, rfl, rfl, SqL.of eg4, join_fit one_len.2.2 (by omega), q _ _ b4 (by omega)⟩
end
/- _law_read: calls ['read_web']; cells [] -/
abbrev s_l_read : Stmt := top 43
theorem sc_l_read : FnScope ["_law_thing", "_law_found", "_law_told", "e"] ["_law_thing"] (defScope s_l_read) := ⟨rfl, rfl, rfl, by decide +kernel, rfl, by decide +kernel, by decide +kernel⟩
theorem bel_pw {ss : List Str} : ∀ {L : List Str} {k : Nat}, bel ss L k = true → L.Pairwise (fun a b => ss.idxOf a < ss.idxOf b)
  | [], _, _ => List.Pairwise.nil
  | w :: r, k, h => by
    have h : (if w ∈ ss ∧ k < ss.idxOf w then bel ss r (ss.idxOf w) else false) = true := h
    split at h
    · exact List.pairwise_cons.mpr ⟨fun o ho => ((bel_ok h).1 o ho).2, bel_pw h⟩
    · cases h
theorem inc_ext {f : Str → Nat} : ∀ {l m : List Str}, l.Pairwise (fun a b => f a < f b) → m.Pairwise (fun a b => f a < f b) → (∀ x, x ∈ l ↔ x ∈ m) → l = m
  | [], [], _, _, _ => rfl
  | [], b :: m, _, _, h => by have := (h b).mpr List.mem_cons_self; cases this
  | a :: l, [], _, _, h => by have := (h a).mp List.mem_cons_self; cases this
  | a :: l, b :: m, hl, hm, h => by
    rw [List.pairwise_cons] at hl hm
    have e : a = b := by
      rcases List.mem_cons.mp ((h a).mp List.mem_cons_self) with e | e
      · exact e
      · rcases List.mem_cons.mp ((h b).mpr List.mem_cons_self) with e2 | e2
        · exact e2.symm
        · have := hm.1 a e; have := hl.1 b e2; omega
    subst e
    rw [inc_ext hl.2 hm.2 fun x => ?_]
    constructor
    · intro hx
      rcases List.mem_cons.mp ((h x).mp (List.mem_cons_of_mem _ hx)) with e | e
      · subst e; have := hl.1 x hx; omega
      · exact e
    · intro hx
      rcases List.mem_cons.mp ((h x).mpr (List.mem_cons_of_mem _ hx)) with e | e
      · subst e; have := hm.1 x hx; omega
      · exact e
theorem ti_rows {ss : List Str} : ∀ {ls : List Str} {k : Nat} {acc tps : List (Str × Str)}, ti ss ls k acc = .inr tps → tps = acc ++ ls.flatMap rowT ∧ ∀ l ∈ ls, ∃ j, bel ss (wds l).tail j = true
  | [], k, acc, tps, h => by
    have h : Sum.inr acc = Sum.inr tps := h
    cases h
    exact ⟨by simp, by simp⟩
  | l :: r, k, acc, tps, h => by
    have h : (if (wds l).headD "" ≠ "" ∨ bel ss (wds l).tail k = false ∨ 30 < (acc ++ rowT l).length then Sum.inl k else ti ss r (k + 1) (acc ++ rowT l)) = Sum.inr tps := h
    split at h
    · cases h
    · rename_i hc
      obtain ⟨e1, e2⟩ := ti_rows h
      refine ⟨by rw [e1, List.flatMap_cons, List.append_assoc], fun x hx => ?_⟩
      rcases List.mem_cons.mp hx with rfl | hx
      · refine ⟨k, ?_⟩
        cases e : bel ss (wds x).tail k
        · exact absurd (.inr (.inl e)) hc
        · rfl
      · exact e2 x hx
theorem map_inj_of : ∀ {ls : List Str}, (ls.map pHead).Nodup → ∀ {a b : Str}, a ∈ ls → b ∈ ls → pHead a = pHead b → a = b
  | [], _, _, _, h, _, _ => by cases h
  | x :: r, hn, a, b, ha, hb, e => by
    rw [List.map_cons, List.nodup_cons] at hn
    rcases List.mem_cons.mp ha with ea | ha2
    · rcases List.mem_cons.mp hb with eb | hb2
      · rw [ea, eb]
      · exact absurd (by rw [← ea, e]; exact List.mem_map_of_mem hb2) hn.1
    · rcases List.mem_cons.mp hb with eb | hb2
      · exact absurd (by rw [← eb, ← e]; exact List.mem_map_of_mem ha2) hn.1
      · exact map_inj_of hn.2 ha2 hb2 e
theorem ti_ris {ss ls : List Str} {tps : List (Str × Str)} (hs : ss = ls.map pHead) (hn : ss.Nodup) (h : ti ss ls 0 [] = .inr tps) : risOf ss tps ss = tps := by
  obtain ⟨e1, e2⟩ := ti_rows h
  rw [List.nil_append] at e1
  have key : ∀ l ∈ ls, risRow ss tps (pHead l) = rowT l := fun l hl => by
    obtain ⟨j, hj⟩ := e2 l hl
    unfold risRow rowT
    congr 1
    refine inc_ext ((idx_inc hn).filter _) (bel_pw hj) fun o => ?_
    rw [List.mem_filter, decide_eq_true_iff, e1, List.mem_flatMap]
    constructor
    · rintro ⟨_, l', hl', hm⟩
      obtain ⟨o', ho', e⟩ := List.mem_map.mp hm
      have ea := (Prod.mk.inj e).1
      have eb := (Prod.mk.inj e).2
      have el := map_inj_of (by rw [← hs]; exact hn) hl' hl ea
      subst el
      subst eb
      exact ho'
    · intro ho
      exact ⟨((bel_ok hj).1 o ho).1, l, hl, List.mem_map.mpr ⟨o, ho, rfl⟩⟩
  have fmc : ∀ l : List Str, (∀ x ∈ l, risRow ss tps (pHead x) = rowT x) → (l.map pHead).flatMap (risRow ss tps) = l.flatMap rowT := fun l => by
    induction l with
    | nil => intro _; rfl
    | cons a r ih =>
      intro h
      rw [List.map_cons, List.flatMap_cons, List.flatMap_cons, h a List.mem_cons_self, ih fun i hi => h i (List.mem_cons_of_mem _ hi)]
  show ss.flatMap (risRow ss tps) = tps
  conv => lhs; rw [hs]
  rw [← hs]
  have := fmc ls key
  rw [← hs] at this
  rw [this, ← e1]
theorem rd_ris {z : Str} {ss : List Str} {tps : List (Str × Str)} (h : rdT z = .inr (ss, tps)) : risOf ss tps ss = tps := by
  unfold rdT at h
  split at h
  · cases h; rfl
  · cases hf : fw (PySem.Txt.split z "\n") 0 [] with
    | inl k => rw [hf] at h; cases h
    | inr ss' =>
      rw [hf] at h
      dsimp only at h
      cases ht : ti ss' (PySem.Txt.split z "\n") 0 [] with
      | inl k => rw [ht] at h; cases h
      | inr tps' =>
        rw [ht] at h
        cases h
        obtain ⟨es, hO⟩ := fw_ok hf rfl (by decide) (by simp) (by simp)
        rw [List.nil_append] at es
        exact ti_ris es hO.nd ht
def dueR (v : V) (k : Nat) : Prop := ((∀ z, v ≠ .str z) ∧ k = 0) ∨ ∃ z, v = .str z ∧ rdT z = .inl k
def spLR : Sp := fun vs H Q _ => ∃ (p : Addr) (n : Nat) (v : V), vs = [v] ∧ Th p H n v ∧ (∀ k : Nat, dueR v k → ∀ H', L2.Same H H' → Q (.int k) H') ∧
  ∀ z ss tps, v = .str z → rdT z = .inr (ss, tps) → ∀ (t t1 t2 : Addr) (ts : List Addr) (H' : Hp), L2.Same H H' → H' t = some (.tup [.ref t1, .ref t2]) → H' t1 = some (.tup (ss.map V.str)) → H' t2 = some (.tup (ts.map V.ref)) → All2 (fun t ab => H' t = some (.tup [.str ab.1, .str ab.2])) ts tps → Q (.ref t) H'
section
variable {P : Program} {w : World} {K : W.Frag} {mg : Str → Option Value} {base : Heap} {cc : Nat → Addr} {cw : Addr}
theorem ok_lread {f : Addr} {fd : FuncData} (F : Fun K "_law_read" "_law_read" s_l_read f fd) (T : Txt K mg cc cw) (D_read_web : DefOk P w K mg base (CX1 P w) 7 "read_web" ["text"] (spRead cc cw)) (D_Web_told : MethOk P w K mg base CX0 8 cw "told" ["self"] (spTold cw)) : FnOk P w K mg base CX0 9 f fd ["_law_thing"] spLR := by
  refine F.ok sc_l_read (fun vs H Q E h => ?_) fun cdv A outer s H vs Q E hr h => ?_
  · obtain ⟨p, n, v, rfl, _⟩ := h; rfl
  · obtain ⟨p, n, v, rfl, hv, qn, qy⟩ := h
    have hu := u100 hr
    refine ⟨_, (pss_cons (ps_set (i := 1) sc_l_read.nd rfl (Or.inl rfl) pe_non)
  (pss_cons (ps_set (i := 2) sc_l_read.nd rfl (Or.inl rfl) pe_non)
  (pss_cons (ps_try rfl rfl rfl pss_nil)
  (pss_cons (ps_if (pt_cmpR u_is (pv 2) pe_non (nomark _)) (pss_one (ps_ret (pe_meth0Q D_Web_told (hm hr) (pv 1)))) pss_nil)
  (pss_cons (ps_if (PW.pt (pw_or (pt_not (pt_val (pe_callB (k_isiU (K := K) rfl) rfl T.b_isinstance boot_isinstance (pa_cons (pv 2) (pa_cons (pe_glob (v := .ref (cc 5)) rfl T.m_NoText rfl) pa_nil))))) (pw_or (pt_val (pe_callB (k_isiU (K := K) rfl) rfl T.b_isinstance boot_isinstance (pa_cons (pv 2) (pa_cons (pe_glob (v := .ref (cc 2)) rfl T.m_NoPlace rfl) pa_nil)))) (pw_or1 (pt_val (pe_callB (k_isiU (K := K) rfl) rfl T.b_isinstance boot_isinstance (pa_cons (k_fldU (K := K) rfl (pv 2) rfl) (pa_cons (pe_bltn (v := .ty "bool") rfl T.b_bool boot_bool rfl) pa_nil)))))))) (pss_one (ps_ret pe_non)) pss_nil)
  (pss_one (ps_ret (k_fldU (K := K) rfl (pv 2) rfl)))))))), ?_⟩
    walk_at "vc"
    refine ⟨fun σ c dxo H' => ∃ (dy : Addr) (k : Nat), c = .ref (cc 5) ∧ dxo = some dy ∧ L2.Same H H' ∧ H' dy = some (.xd [(fldn 5, .int k)]) ∧ dueR v k ∧ σ = [some v, some .non, some .non, none], _, fun pn xe xok_fn => (pss_one (ps_set (i := 1) sc_l_read.nd rfl (Or.inl rfl) (pe_defS D_read_web (hm hr) xok_fn (pa_cons (pv 0) pa_nil)))), ?_, fun a C dx' σ' H' hE ha' => ?_⟩
    · walk_at "vc"
      refine ⟨p, n, v, rfl, hv, (fun hno dy H' s' hy => ⟨dy, 0, rfl, rfl, s', hy, .inl ⟨hno, rfl⟩, rfl⟩), fun z ez => ⟨(fun k e dy H' s' hy => ⟨dy, k, rfl, rfl, s', hy, .inr ⟨z, ez, e⟩, rfl⟩), fun ss tps e hO hT x ns H1 s1 hx0 hWN hbits => ?_⟩⟩
      have hW := hWN.web
      obtain ⟨dx, d, ol, on, hx, _, _, _, hw⟩ := id hW
      have hdue : tiesOf ss ns ss.length = tps := (ties_ris hw hT (adj_of (Shuf.self tps) hbits)).trans (rd_ris e)
      walk_at "vc"
      refine vIsNN ?_
      walk_at "vc"
      refine iteT ?_
      walk_at "vc"
      refine ⟨x, dx, _, rfl, hx, lk_no (by decide +kernel), ?_⟩
      walk_at "vc"
      refine ⟨x, ss, ns, rfl, hW, fun t t1 t2 lz us H2 s12 ht ht1 ht2 hus => ?_⟩
      rw [hdue] at hus
      exact qy z ss tps ez e t t1 t2 us H2 (s1.trans s12) ht ht1 ht2 (hus.mono fun _ _ z => z.2.2)
    · obtain ⟨dy, k, hc, rfl, s1, hy, hk, rfl⟩ := hE
      cases hc
      refine ⟨_, (ph_as (K := K) rfl sc_l_read.nd (i := 3) rfl rfl rfl T.m_OnceError (pss_one (ps_set (i := 2) sc_l_read.nd rfl (Or.inl rfl) (pv 3))) ph_nil), ?_⟩
      refine ⟨true, T.mroO 5 (by decide), T.xat 6 (by decide), T.xat 5 (by decide), iteT ?_⟩
      walk_at "vc"
      have ty : TyX K H' (.ref a) (.ref (cc 5)) := .inr ⟨a, cc 5, some dy, rfl, rfl, .inr ha', T.xat 5 (by decide), fun d hd => by cases hd; exact ⟨_, hy⟩⟩
      refine vIsN ?_
      walk_at "vc"
      refine ite2 (fun h => by cases h) fun _ => ?_
      walk_at "vc"
      refine vIsiU ty rfl (T.kit 5 5 (by decide) (by decide)) ?_
      walk_at "vc"
      refine ite2 (fun h => by simp at h) fun _ => ?_
      walk_at "vc"
      refine vIsiU ty rfl (T.kit 5 2 (by decide) (by decide)) ?_
      walk_at "vc"
      refine ite2 (fun h => by simp at h) fun _ => ?_
      walk_at "vc"
      refine .inr ⟨a, cc 5, dy, _, .int k, rfl, .inr ha', T.xat 5 (by decide), T.na 5 (by decide), hy, rfl, ?_⟩
      walk_at "vc"
      refine vIsiU (.inl (.int _)) rfl (kit_tab K "int" (by simp) "bool" (by simp)) ?_
      walk_at "vc"
      refine ite2 (fun h => absurd h (by decide)) fun _ => ?_
      walk_at "vc"
      refine .inr ⟨a, cc 5, dy, _, .int k, rfl, .inr ha', T.xat 5 (by decide), T.na 5 (by decide), hy, rfl, ?_⟩
      exact qn k hk _ s1
end
/- _law_great: calls ['_law_take', '_law_lines']; cells ['_law_names_here', '_law_one'] -/
abbrev s_l_great : Stmt := top 44
theorem sc_l_great : FnScope ["_law_box_here", "_law_names_here", "_law_pairs", "_law_one", "_law_many"] ["_law_box_here"] (defScope s_l_great) := ⟨rfl, rfl, rfl, by decide +kernel, rfl, by decide +kernel, by decide +kernel⟩
theorem vRng2 {ta : TA} {σ : L2.St} {H : Hp} {R : It → Hp → Prop} (h : ta σ H fun vs H1 => ∃ i j : Int, vs = [.int i, .int j] ∧ (-(2 ^ 62) ≤ i ∧ i < 2 ^ 62 ∧ -(2 ^ 62) ≤ j ∧ j < 2 ^ 62) ∧ R (Itr i (j - i).toNat) H1) : iRng2 ta σ H R := h
theorem lawLine_len {dps : List (Str × Str)} {s : Str} (hs : s.length ≤ 6) (hd : ∀ ab ∈ dps, ab.2.length ≤ 6) : (lawLine dps s).length ≤ 8 + 7 * dps.length := by
  have h6 : ∀ o ∈ (dps.filter fun t => decide (t.1 = s)).map (·.2), o.length ≤ 6 := fun o ho => by
    obtain ⟨ab, hab, rfl⟩ := List.mem_map.mp ho
    exact hd ab (List.mem_filter.mp hab).1
  have h1 := sum_le h6
  have h2 : ((dps.filter fun t => decide (t.1 = s)).map (·.2)).length ≤ dps.length := by rw [List.length_map]; exact List.length_filter_le _ _
  have h3 := join_len_le " " ((s ++ ":") :: (dps.filter fun t => decide (t.1 = s)).map (·.2))
  rw [one_len.1, List.map_cons, List.sum_cons, List.length_cons, Str.length_append, one_len.2.1] at h3
  unfold lawLine
  generalize (dps.filter fun t => decide (t.1 = s)).map (·.2) = os at h1 h2 h3 ⊢
  omega
theorem lawT_len {ss : List Str} {dps : List (Str × Str)} (hl : ss.length ≤ 15) (hs : ∀ s ∈ ss, s.length ≤ 6) (hd : ∀ ab ∈ dps, ab.2.length ≤ 6) (h31 : dps.length ≤ 31) : ((ss.map (lawLine dps)).map (·.length)).sum + (ss.map (lawLine dps)).length * ("\n" : Str).length ≤ 3500 ∧ (lawT ss dps).length ≤ 3500 := by
  have h1 := sum_le (xs := ss.map (lawLine dps)) (b := 225) fun z hz => by
    obtain ⟨s, hs', rfl⟩ := List.mem_map.mp hz
    have := lawLine_len (hs s hs') hd
    omega
  have h2 := join_len_le "\n" (ss.map (lawLine dps))
  rw [one_len.2.2] at h2 ⊢
  rw [List.length_map] at h1 h2 ⊢
  have h3 : ss.length * 225 ≤ 15 * 225 := Nat.mul_le_mul_right 225 hl
  refine ⟨by omega, ?_⟩
  unfold lawT
  omega
theorem All2.take {α β : Type} {R : α → β → Prop} {l : List α} {m : List β} (h : All2 R l m) (k : Nat) : All2 R (l.take k) (m.take k) := by
  refine ⟨by rw [List.length_take, List.length_take, h.len], fun j a b ha hb => ?_⟩
  rw [List.getElem?_take] at ha hb
  split at ha
  · rename_i hj
    rw [if_pos hj] at hb
    exact h.at_ j a b ha hb
  · cases ha
theorem signs_one : ∀ s ∈ signs, s.length = 1 := by decide +kernel
def spGreat : Sp := fun vs H Q _ => ∃ p : Addr, vs = [.ref p] ∧ Box H p ∧ ∀ (z : Str) (H' : Hp), BB p H H' → z.length ≤ 3500 → Q (.str z) H'
section
variable {P : Program} {w : World} {K : W.Frag} {mg : Str → Option Value} {base : Heap} {cc : Nat → Addr} {cw : Addr}
theorem ok_great {f : Addr} {fd : FuncData} (F : Fun K "_law_great" "_law_great" s_l_great f fd) (T : Txt K mg cc cw) (D_l_take : DefOk P w K mg base CX0 1 "_law_take" ["_law_box_here", "_law_many"] spTake) (D_l_lines : DefOk P w K mg base CX0 1 "_law_lines" ["_law_names_here", "_law_ties_here"] spLns) : FnOk P w K mg base CX0 2 f fd ["_law_box_here"] spGreat := by
  refine F.ok sc_l_great (fun vs H Q E h => ?_) fun cdv A outer s H vs Q E hr h => ?_
  · obtain ⟨p, rfl, _⟩ := h; rfl
  · obtain ⟨p, rfl, hB, q⟩ := h
    have hu := u100 hr
    refine ⟨_, (pss_cons (ps_set (i := 1) sc_l_great.nd rfl (Or.inr rfl) (pe_callTy (k_listU (K := K) rfl rfl) rfl T.b_list boot_list (pa_cons pe_str pa_nil)))
  (pss_cons (ps_set (i := 2) sc_l_great.nd rfl (Or.inl rfl) (pe_lst pa_nil))
  (pss_cons (ps_for PassesOwn.never rfl (pi_range1 rfl T.b_range (pa_cons pe_int pa_nil)) (pg_name (i := 3) sc_l_great.nd rfl (Or.inr rfl))
  (pss_one (ps_expr (k_bm (K := K) rfl PySem.F.plainAttrs_list PySem.F.slot_list_extend PySem.F.type_list_extend mtR_extend (pv 2) (pa_cons (pe_comp (sc := defScope s_l_great) (XN := ["_law_box_here", "_law_names_here", "_law_pairs", "_law_one", "_law_many"]) ["_law_other", "_law_names_here", "_law_one"] 1 [1, 3] rfl rfl rfl (by decide +kernel) rfl (by decide +kernel)
   (pi_range2 rfl T.b_range (pa_cons (pe_op (k_add (K := K) rfl) (pv 3) pe_int) (pa_cons pe_int pa_nil))) (fun _ _ _ _ => (pg_name (i := 0) (show (["_law_other", "_law_names_here", "_law_one"] : List Str).Nodup by decide +kernel) rfl (Or.inl rfl))) gk_name
   (fun _ _ _ _ => pifs_nil)
   (fun _ _ _ _ => (pe_tup (pa_cons (pe_ix (k_ixU (K := K) rfl hu) (pv 1) (pv 2) (fun _ _ => rfl)) (pa_cons (pe_ix (k_ixU (K := K) rfl hu) (pv 1) (pv 0) (fun _ _ => rfl)) pa_nil))))) pa_nil)))))
  (pss_cons (ps_set (i := 4) sc_l_great.nd rfl (Or.inl rfl) (pe_op (k_add (K := K) rfl) pe_int (pe_def D_l_take (hm hr) pass0 (pa_cons (pv 0) (pa_cons pe_int pa_nil)))))
  (pss_one (ps_ret (k_bm (K := K) rfl PySem.F.plainAttrs_str PySem.F.slot_str_join PySem.F.type_str_join (k_join (K := K) rfl) pe_str (pa_cons (pe_def D_l_lines (hm hr) pass0 (pa_cons (pe_slice (k_sl (K := K) rfl) (pv 1) po_none (po_some (pe_op (k_add (K := K) rfl) pe_int (pe_def D_l_take (hm hr) pass0 (pa_cons (pv 0) (pa_cons pe_int pa_nil)))))) (pa_cons (pe_slice (k_sl (K := K) rfl) (pv 2) po_none (po_some (pv 4))) pa_nil))) pa_nil)))))))), ?_⟩
    walk_at "vc"
    refine .inr (.inr ⟨_, rfl, by decide +kernel, fun c hc => ?_⟩)
    have s1 := Snew (L2.Same.refl H) (o := .lst (("abcdefghijklmno" : Str).cps.toList.map fun c => .str ⟨#[c]⟩)) hc
    have b1 := (BB.refl hB).new (o := .lst (("abcdefghijklmno" : Str).cps.toList.map fun c => .str ⟨#[c]⟩)) hc
    have ec : upd H c (.lst (("abcdefghijklmno" : Str).cps.toList.map fun c => .str ⟨#[c]⟩)) c = some (.lst (signs.map V.str)) := by rw [upd_same]; unfold signs; rw [List.map_map]; rfl
    have nc := hB.apart hc
    change tSeq _ _ _ _ (upd H c (.lst (("abcdefghijklmno" : Str).cps.toList.map fun c => .str ⟨#[c]⟩)))
    generalize upd H c (.lst (("abcdefghijklmno" : Str).cps.toList.map fun c => .str ⟨#[c]⟩)) = H1 at s1 b1 ec ⊢
    have sgn : ∀ j : Nat, j < 15 → ∃ s : Str, (signs.map V.str)[j]? = some (.str s) ∧ s.length = 1 := fun j hj => by
      have hj' : j < signs.length := by rw [signs_len]; exact hj
      exact ⟨signs[j], by rw [List.getElem?_map, List.getElem?_eq_getElem hj']; rfl, signs_one _ (List.getElem_mem hj')⟩
    walk_at "vc"
    refine ⟨by decide, fun r hr0 => ?_⟩
    have s2 := Snew (L2.Same.refl H1) (o := .lst []) hr0
    have er0 : upd H1 r (.lst []) r = some (.lst []) := upd_same
    generalize upd H1 r (.lst []) = H2 at s2 er0 ⊢
    walk_at "vc"
    refine ⟨9, rfl, by decide, by decide, for_range (fun i σ H' => ∃ (us : List Addr) (dps : List (Str × Str)) (x3 : Option V), σ = [some (.ref p), some (.ref c), some (.ref r), x3, none] ∧ L2.Same H1 H' ∧ H' r = some (.lst (us.map V.ref)) ∧ All2 (PrAt H1 H' r) us dps ∧ dps.length ≤ i * 9 ∧ ∀ ab ∈ dps, ab.2.length ≤ 6)
      ⟨[], [], none, rfl, s2, er0, All2.nil, by decide, by simp⟩ (fun i σ H3 hi hp => ?_) fun σ H3 hp => ?_⟩
    · obtain ⟨us, dps, x3, rfl, s13, hk, hall, hdl, hd6⟩ := hp
      have hi9 : i < 9 := hi
      have ec3 := s13 _ _ ec
      obtain ⟨so, gso, lso⟩ := sgn i (by omega)
      walk_at "vc"
      refine ⟨.inl ⟨rfl, _, SqL.of hk⟩, ?_⟩
      walk_at "vc"
      refine vRng2 ?_
      walk_at "vc"
      have p62 : (2 : Int) ^ 62 = 4611686018427387904 := by decide
      refine ⟨_, _, rfl, ⟨by rw [p62]; omega, by rw [p62]; omega, by rw [p62]; omega, by rw [p62]; omega⟩, ?_⟩
      have hN : (9 - (0 + (i : Int) + 1)).toNat = 8 - i := by omega
      rw [hN]
      refine comp_range (lo := 0 + (i : Int) + 1) (n := 8 - i) (fun k ys H' => L2.Same H3 H' ∧ ∃ (vs : List Addr) (ps : List (Str × Str)), ys = vs.map V.ref ∧ vs.length = k ∧ All2 (PrAt H1 H' r) vs ps ∧ ∀ ab ∈ ps, ab.2.length ≤ 6)
        ⟨L2.Same.refl H3, [], [], rfl, rfl, All2.nil, by simp⟩ (fun k ys H4 hk8 hp => ?_) fun ys H4 hp => ?_
      · obtain ⟨s34, vs, ps, rfl, hvl, hv, hp6⟩ := hp
        obtain ⟨st, gst, lst⟩ := sgn (i + 1 + k) (by omega)
        walk_at "vc"
        refine iteT ?_
        walk_at "vc"
        refine .inl (vIxL (s34 _ _ ec3) (by rw [Int.zero_add]; exact atI_nat gso) ?_)
        walk_at "vc"
        refine .inl (vIxL (s34 _ _ ec3) (by rw [show (0 + (i : Int) + 1 + (k : Int)) = ((i + 1 + k : Nat) : Int) by omega]; exact atI_nat gst) ?_)
        walk_at "vc"
        refine ⟨by show 2 ≤ sizeLine; decide, fun t' ht' => ?_⟩
        have s8 := Snew (L2.Same.refl H4) (o := .tup [.str so, .str st]) ht'
        have nt : t' ≠ r := fun e => by rw [e, s34 _ _ hk] at ht'; cases ht'
        refine ⟨by rw [List.length_map, hvl]; exact small1000 (by omega), s34.trans s8, vs ++ [t'], ps ++ [(so, st)], by rw [List.map_append]; rfl, by rw [List.length_append, hvl]; rfl, (hv.mono fun t' ab h => h.same s8).snoc ⟨(s13.trans s34).free ht', nt, upd_same⟩, fun ab hab => ?_⟩
        rcases List.mem_append.mp hab with z | z
        · exact hp6 ab z
        · rw [List.mem_singleton.mp z]
          show st.length ≤ 6
          omega
      · obtain ⟨s34, vs, ps, rfl, hvl, hv, hp6⟩ := hp
        refine ⟨by rw [List.length_map, hvl]; exact Nat.le_of_lt (small1000 (by omega)), fun b hb => ?_⟩
        walk_at "vc"
        have s8 := Snew (L2.Same.refl H4) (o := .lst (vs.map V.ref)) hb
        have hul : us.length = dps.length := hall.len
        have hi81 : i * 9 ≤ 8 * 9 := Nat.mul_le_mul_right 9 (by omega)
        refine ⟨r, b, _, _, rfl, rfl, s8 _ _ (s34 _ _ hk), upd_same, by rw [List.length_map, List.length_map, hvl, hul]; exact Nat.le_of_lt (small1000 (by omega)), ?_⟩
        refine ⟨us ++ vs, dps ++ ps, _, rfl, Supd ((s13.trans s34).trans s8) hr0, by rw [upd_same, List.map_append], All2.cat (hall.mono fun t ab h => ⟨h.1, h.2.1, by rw [upd_ne h.2.1]; exact s8 _ _ (s34 _ _ h.2.2)⟩) (hv.mono fun t ab h => ⟨h.1, h.2.1, by rw [upd_ne h.2.1]; exact s8 _ _ h.2.2⟩), by rw [List.length_append, ← hv.len, hvl, Nat.add_mul]; omega, fun ab hab => ?_⟩
        rcases List.mem_append.mp hab with z | z
        · exact hd6 ab z
        · exact hp6 ab z
    · obtain ⟨us, dps, x3, rfl, s13, hk, hall, hdl, hd6⟩ := hp
      have b3 := b1.same s13
      have nr : r ≠ p := b1.apart hr0
      have ec3 := s13 _ _ ec
      have hpair : All2 (fun t ab => t ≠ p ∧ H3 t = some (.tup [.str ab.1, .str ab.2])) us dps := hall.mono fun t ab h => ⟨b1.apart h.1, h.2.2⟩
      walk_at "vc"
      refine ⟨p, 3, rfl, b3.2, by decide, by decide, fun r1 H4 r10 r11 b34 => ?_⟩
      obtain ⟨m, rfl⟩ := nat_of r10
      have b4 := b3.trans b34
      have ec4 := b34.1 _ _ nc ec3
      have hk4 := b34.1 _ _ nr hk
      have hp4 := hpair.mono fun t ab h => (⟨h.1, b34.1 _ _ h.1 h.2⟩ : t ≠ p ∧ H4 t = some (.tup [.str ab.1, .str ab.2]))
      walk_at "vc"
      refine ⟨rfl, ?_⟩
      walk_at "vc"
      refine ⟨p, 3, rfl, b4.2, by decide, by decide, fun r2 H5 r20 r21 b45 => ?_⟩
      obtain ⟨n, rfl⟩ := nat_of r20
      have b5 := b4.trans b45
      have ec5 := b45.1 _ _ nc ec4
      have hk5 := b45.1 _ _ nr hk4
      have hp5 := hp4.mono fun t ab h => (⟨h.1, b45.1 _ _ h.1 h.2⟩ : t ≠ p ∧ H5 t = some (.tup [.str ab.1, .str ab.2]))
      walk_at "vc"
      rw [show (13 : Int) + (n : Int) = ((13 + n : Nat) : Int) by omega]
      refine sl_to ec5 fun c1 hc1 => ?_
      have b6 := b5.new (o := .lst ((signs.take (13 + n)).map V.str)) hc1
      have s56 := Snew (L2.Same.refl H5) (o := .lst ((signs.take (13 + n)).map V.str)) hc1
      have e1 : upd H5 c1 (.lst ((signs.take (13 + n)).map V.str)) c1 = some (.lst ((signs.take (13 + n)).map V.str)) := upd_same
      generalize upd H5 c1 (.lst ((signs.take (13 + n)).map V.str)) = H6 at b6 s56 e1 ⊢
      walk_at "vc"
      rw [show (29 : Int) + (m : Int) = ((29 + m : Nat) : Int) by omega]
      refine .inl ⟨r, _, rfl, SqL.of (s56 _ _ hk5), fun c2 hc2 => ?_⟩
      rw [cutV_take, ← List.map_take]
      have b7 := b6.new (o := .lst ((us.take (29 + m)).map V.ref)) hc2
      have s67 := Snew (L2.Same.refl H6) (o := .lst ((us.take (29 + m)).map V.ref)) hc2
      have e2 : upd H6 c2 (.lst ((us.take (29 + m)).map V.ref)) c2 = some (.lst ((us.take (29 + m)).map V.ref)) := upd_same
      generalize upd H6 c2 (.lst ((us.take (29 + m)).map V.ref)) = H7 at b7 s67 e2 ⊢
      have hT : ∀ ab ∈ dps.take (29 + m), ab.2.length ≤ 6 := fun ab hab => hd6 ab (List.mem_of_mem_take hab)
      have hS : ∀ s ∈ signs.take (13 + n), s.length ≤ 6 := fun s hs => by rw [signs_one s (List.mem_of_mem_take hs)]; decide
      have hS15 : (signs.take (13 + n)).length ≤ 15 := by rw [List.length_take, signs_len]; omega
      have hD31 : (dps.take (29 + m)).length ≤ 31 := by rw [List.length_take]; omega
      have hLL := lawT_len hS15 hS hT hD31
      walk_at "vc"
      refine ⟨c1, c2, _, _, _, rfl, s67 _ _ e1, hS15, hS, ⟨e2, (hp5.mono fun t ab h => s67 _ _ (s56 _ _ h.2)).take _⟩, by omega, hT, fun rr H8 s78 hrr0 hrr => ?_⟩
      walk_at "vc"
      exact ⟨_, rr, _, rfl, rfl, SqL.of hrr, Nat.le_trans hLL.1 (by decide), q _ _ (b7.same s78) hLL.2⟩
end
/- law: calls ['_law_box', '_law_cell', '_law_drawn', '_law_lines', '_law_rising', '_law_take', '_law_great', '_law_spoilt', '_law_read', '_law_due']; cells [] -/
abbrev s_law : Stmt := top 45
theorem sc_law : FnScope ["_law_script", "_law_k", "_law_box_here", "_law_names_here", "_law_drawn_here", "_law_text", "_law_one", "_law_thing", "_law_found"] ["_law_script"] (defScope s_law) := ⟨rfl, rfl, rfl, by decide +kernel, rfl, by decide +kernel, by decide +kernel⟩
theorem rd_one : rdT ("a: b\na:\nb:" : Str) = .inl 1 := by decide +kernel
theorem rd_two : rdT ("a: c\nb: a" : Str) = .inl 0 := by decide +kernel
theorem dueR_str {z : Str} {k : Nat} (h : dueR (.str z) k) : rdT z = .inl k := by
  rcases h with ⟨h, _⟩ | ⟨z', e, h⟩
  · exact absurd rfl (h z)
  · cases e; exact h
section
variable {P : Program} {w : World} {K : W.Frag} {mg : Str → Option Value} {base : Heap} {cc : Nat → Addr} {cw : Addr}
theorem eq_told6 {H : Hp} {t u t1 t2 u1 u2 : Addr} {ss : List Str} {us ds : List Addr} {dps : List (Str × Str)} (ht : H t = some (.tup [.ref t1, .ref t2])) (hu : H u = some (.tup [.ref u1, .ref u2])) (ht1 : H t1 = some (.tup (ss.map V.str))) (hu1 : H u1 = some (.tup (ss.map V.str)))
    (ht2 : H t2 = some (.tup (us.map V.ref))) (hu2 : H u2 = some (.tup (ds.map V.ref))) (h : All2 (fun t ab => H t = some (.tup [.str ab.1, .str ab.2])) us dps) (g : All2 (fun t ab => H t = some (.tup [.str ab.1, .str ab.2])) ds dps) : EqT K H 3 t u true :=
  eqT_tup2 (n := 2) ht hu rfl fun j a b ha hb => by
    match j, ha, hb with
    | 0, ha, hb =>
      cases ha
      cases hb
      exact eqD_of (eqT_tup2 (n := 1) ht1 hu1 rfl fun j a b h1 h2 => by rw [h1] at h2; cases h2; exact strs_eqD a (List.mem_of_getElem? h1))
    | 1, ha, hb =>
      cases ha
      cases hb
      exact eqD_of (eqT_prs ht2 hu2 h g)
    | j + 2, ha, hb => simp at ha
theorem ok_law6 {f : Addr} {fd : FuncData} (F : Fun K "law" "law" s_law f fd) (T : Txt K mg cc cw) (D_l_cell : DefOk P w K mg base CX0 1 "_law_cell" ["_law_script", "_law_k"] (spCell K)) (D_l_box : DefOk P w K mg base CX0 1 "_law_box" ["_law_cell_here"] spBox) (D_l_take : DefOk P w K mg base CX0 1 "_law_take" ["_law_box_here", "_law_many"] spTake)
    (D_l_drawn : DefOk P w K mg base CX0 3 "_law_drawn" ["_law_box_here", "_law_most"] spDrawn) (D_l_rising : DefOk P w K mg base CX0 1 "_law_rising" ["_law_names_here", "_law_ties_here"] spRis)
    (D_l_lines : DefOk P w K mg base CX0 1 "_law_lines" ["_law_names_here", "_law_ties_here"] spLns) (D_l_great : DefOk P w K mg base CX0 2 "_law_great" ["_law_box_here"] spGreat) (D_l_spoilt : DefOk P w K mg base CX0 3 "_law_spoilt" ["_law_box_here", "_law_text"] spSpoilt)
    (D_l_read : DefOk P w K mg base CX0 9 "_law_read" ["_law_thing"] spLR) (D_l_due : DefOk P w K mg base CX0 2 "_law_due" ["_law_text"] spDue) : FnOk P w K mg base CX0 10 f fd ["_law_script"] (spLaw K) := by
  refine F.ok sc_law (fun vs H Q E h => ?_) fun cdv A outer s H vs Q E hr h => ?_
  · obtain ⟨a, ns, rfl, _⟩ := h; rfl
  · obtain ⟨a, nz, rfl, hS, hlen, q⟩ := h
    have hu := u100 hr
    refine ⟨_, (pss_cons (ps_for PassesOwn.never rfl (pi_range1 rfl T.b_range (pa_cons (pe_callB (call_max2 rfl) rfl T.b_max boot_max (pa_cons pe_int (pa_cons (pe_callB (call_min2 rfl) rfl T.b_min boot_min (pa_cons pe_int (pa_cons (pe_callB (k_len (K := K) rfl) rfl T.b_len boot_len (pa_cons (pv 0) pa_nil)) pa_nil))) pa_nil))) pa_nil)) (pg_name (i := 1) sc_law.nd rfl (Or.inl rfl))
  (pss_cons (ps_set (i := 2) sc_law.nd rfl (Or.inl rfl) (pe_def D_l_box (hm hr) pass0 (pa_cons (pe_def D_l_cell (hm hr) pass0 (pa_cons (pv 0) (pa_cons (pv 1) pa_nil))) pa_nil)))
  (pss_cons (ps_asg (pe_def D_l_drawn (hm hr) pass0 (pa_cons (pv 2) (pa_cons pe_int pa_nil))) (pg_tup rfl (pgs_cons (pg_name (i := 3) sc_law.nd rfl (Or.inl rfl)) (pgs_cons (pg_name (i := 4) sc_law.nd rfl (Or.inl rfl)) pgs_nil))))
  (pss_cons (ps_set (i := 5) sc_law.nd rfl (Or.inl rfl) (k_bm (K := K) rfl PySem.F.plainAttrs_str PySem.F.slot_str_join PySem.F.type_str_join (k_join (K := K) rfl) pe_str (pa_cons (pe_def D_l_lines (hm hr) pass0 (pa_cons (pv 3) (pa_cons (pe_def D_l_rising (hm hr) pass0 (pa_cons (pv 3) (pa_cons (pv 4) pa_nil))) pa_nil))) pa_nil)))
  (pss_cons (ps_if (pt_cmpR (k_eqZ (K := K) rfl hu) (pe_def D_l_take (hm hr) pass0 (pa_cons (pv 2) (pa_cons pe_int pa_nil))) pe_int (nomark _)) (pss_one (ps_set (i := 5) sc_law.nd rfl (Or.inl rfl) (pe_def D_l_great (hm hr) pass0 (pa_cons (pv 2) pa_nil)))) pss_nil)
  (pss_cons (ps_set (i := 6) sc_law.nd rfl (Or.inl rfl) (pe_def D_l_spoilt (hm hr) pass0 (pa_cons (pv 2) (pa_cons (pv 5) pa_nil))))
  (pss_one (ps_for PassesOwn.never rfl (ki_any (K := K) rfl (pe_lst (pa_cons (pv 6) (pa_cons (pe_def D_l_spoilt (hm hr) pass0 (pa_cons (pv 2) (pa_cons (pv 6) pa_nil))) (pa_cons (pv 5) pa_nil))))) (pg_name (i := 7) sc_law.nd rfl (Or.inl rfl))
  (pss_cons (ps_set (i := 8) sc_law.nd rfl (Or.inl rfl) (pe_def D_l_read (hm hr) pass0 (pa_cons (pv 7) pa_nil)))
  (pss_one (ps_if (pt_cmpR (k_neU (K := K) rfl hu) (pv 8) (pe_def D_l_due (hm hr) pass0 (pa_cons (pv 7) pa_nil)) (nomark _)) (pss_one (ps_ret pe_bl)) pss_nil)))))))))))
  (pss_cons (ps_for PassesOwn.never rfl (ki_any (K := K) rfl (pe_lst (pa_cons pe_non (pa_cons pe_int (pa_cons pe_bl (pa_cons (pe_lst pa_nil) (pa_cons (pe_lst (pa_cons pe_str pa_nil)) (pa_cons (pe_tup (pa_cons pe_str pa_nil)) (pa_cons pe_dnewK pa_nil))))))))) (pg_name (i := 7) sc_law.nd rfl (Or.inl rfl))
  (pss_one (ps_if (pt_cmpR (k_neU (K := K) rfl hu) (pe_def D_l_read (hm hr) pass0 (pa_cons (pv 7) pa_nil)) pe_int (nomark _)) (pss_one (ps_ret pe_bl)) pss_nil)))
  (pss_one (ps_ret (pe_and (pe_cmpR (k_eqZ (K := K) rfl hu) (pe_def D_l_read (hm hr) pass0 (pa_cons pe_str pa_nil)) pe_int (nomark _)) (pe_one (pe_cmpR (k_eqZ (K := K) rfl hu) (pe_def D_l_read (hm hr) pass0 (pa_cons pe_str pa_nil)) pe_int (nomark _)))))))), ?_⟩
    walk_at "vc"
    refine vLenLs hS ?_
    walk_at "vc"
    refine ⟨_, _, rfl, ?_⟩
    walk_at "vc"
    refine ⟨_, _, rfl, ?_⟩
    walk_at "vc"
    rw [List.length_map]
    refine ⟨_, rfl, by split <;> split <;> omega, by split <;> split <;> omega, ?_⟩
    generalize hN : (Int.toNat _) = N
    have hN' : N ≤ 63 := by rw [← hN]; split <;> split <;> omega
    clear hN
    refine for_range (fun i σ H' => L2.Same H H' ∧ ∃ x1 x2 x3 x4 x5 x6 x7 x8, σ = [some (.ref a), x1, x2, x3, x4, x5, x6, x7, x8]) ⟨L2.Same.refl H, none, none, none, none, none, none, none, none, rfl⟩ (fun i σ H1 hi hp => ?_) fun σ H1 hp => ?_
    · obtain ⟨s1, x1, x2, x3, x4, x5, x6, x7, x8, rfl⟩ := hp
      walk_at "vc"
      refine ⟨a, nz, _, rfl, s1.seq hS, by omega, by omega, fun c => ?_⟩
      walk_at "vc"
      refine ⟨c, rfl, fun p a1 a2 a3 hp => ?_⟩
      have hp0 : H p = none := s1.free hp
      have s2 := Snew s1 (o := .lst [.int a1, .int a2, .int a3]) hp
      have hB : Box (upd H1 p (.lst [.int a1, .int a2, .int a3])) p := ⟨a1, a2, a3, upd_same⟩
      generalize upd H1 p (.lst [.int a1, .int a2, .int a3]) = H2 at s2 hB ⊢
      walk_at "vc"
      refine vAsgT ?_
      walk_at "vc"
      refine ⟨p, 14, rfl, by decide, by decide, hB, fun t n l ss ts tps H4 b4 ht hn0 hn hO hl0 hl hT => ?_⟩
      refine ⟨t, _, rfl, SqT.of ht, rfl, _, _, rfl, _, _, rfl, rfl, ?_⟩
      have few := hO.few
      walk_at "vc"
      refine ⟨rfl, ?_⟩
      walk_at "vc"
      refine ⟨n, l, ss, ts, tps, rfl, hn.1, few, hl.pl, fun dl ds H5 s45 hdl0 hdl hd196 hds => ?_⟩
      have b5 := b4.same s45
      have hn5 := hn.same s45
      have hD5 : PL H5 dl ds (risOf ss tps ss) := ⟨hdl, hds.mono fun t' ab z => z.2.2⟩
      have hTd : TOk ss (risOf ss tps ss) := TOk.ris hO.nd hT
      clear hds hdl hd196 hl hl0
      generalize risOf ss tps ss = dps at hD5 hTd
      have hs6 : ∀ s ∈ ss, s.length ≤ 6 := fun s hs => nameS_len (hO.nm s hs)
      have hd6 : ∀ ab ∈ dps, ab.2.length ≤ 6 := fun ab hab => by
        obtain ⟨j, k, _, _, g2⟩ := hTd.ok ab hab
        exact hs6 _ (List.mem_of_getElem? g2)
      have hLL := lawT_len (show ss.length ≤ 15 by omega) hs6 hd6 (Nat.le_trans hTd.few (by decide))
      walk_at "vc"
      refine ⟨n, dl, ss, ds, dps, rfl, hn5.1, by omega, hs6, hD5, Nat.le_trans hTd.few (by decide), hd6, fun r H6 s56 hr0 hr => ?_⟩
      have b6 := b5.same s56
      walk_at "vc"
      refine ⟨_, r, _, rfl, rfl, SqL.of hr, Nat.le_trans hLL.1 (by decide), ?_⟩
      have hz := hLL.2
      change tSeq _ _ _ (List.set _ 5 (some (.str (lawT ss dps)))) _
      generalize lawT ss dps = z0 at hz ⊢
      clear hLL hr hr0 hD5 hTd hd6 hs6 hn5 hn hn0 hT hO
      walk_at "vc"
      refine ⟨p, 8, rfl, b6.2, by decide, by decide, fun rr H7 r0 r1 b67 => ?_⟩
      have b7 := b6.trans b67
      walk_at "vc"
      refine .inl (.inl (.inl ⟨rfl, rfl, ?_⟩))
      walk_at "vc"
      refine ite2 (fun _ => ?_) fun _ => ?_
      · walk_at "vc"
        refine ⟨p, rfl, b7.2, fun zg H8 b78 hzg => ?_⟩
        have b8 := b7.trans b78
        walk_at "vc"
        refine ⟨p, zg, rfl, b8.2, by omega, fun z1 H9 b89 hz1 => ?_⟩
        have b9 := b8.trans b89
        walk_at "vc"
        refine ⟨p, z1, rfl, b9.2, by omega, fun z2 H10 b910 hz2 => ?_⟩
        have b10 := b9.trans b910
        walk_at "vc"
        refine ⟨by show 3 ≤ sizeLine; decide, fun g hg => ?_⟩
        have sF : L2.Same H H10 := BB.out s2 hp0 b10
        have hall : ∀ v ∈ ([.str z1, .str z2, .str zg] : List V), ∃ zz : Str, v = .str zz ∧ zz.length ≤ 100000 := fun v hv => by
          simp only [List.mem_cons, List.not_mem_nil, or_false] at hv
          rcases hv with rfl | rfl | rfl
          · exact ⟨z1, rfl, by omega⟩
          · exact ⟨z2, rfl, by omega⟩
          · exact ⟨_, rfl, by omega⟩
        generalize ([.str z1, .str z2, .str zg] : List V) = xs at hall ⊢
        have sG := Snew (L2.Same.refl H10) (o := .lst xs) hg
        have eg : upd H10 g (.lst xs) g = some (.lst xs) := upd_same
        refine .inl ⟨⟨_, SqL.of upd_same⟩, ?_⟩
        generalize upd H10 g (.lst xs) = H11 at sG eg ⊢
        refine for_list (K := K) (fun j σ H' => L2.Same H11 H' ∧ ∃ y7 y8 : Option V, σ = [some (.ref a), some (.int (0 + (i : Int))), some (.ref p), some (.ref n), some (.ref l), some (.str zg), some (.str z1), y7, y8]) ⟨L2.Same.refl H11, _, _, rfl⟩ (fun j σ H' _ hp => SqL.of (hp.1 _ _ eg)) (fun j v σ J1 hv hp => ?_) fun σ J1 hp => ?_
        · obtain ⟨sJ, y7, y8, rfl⟩ := hp
          obtain ⟨zz, rfl, hzz⟩ := hall v (List.mem_of_getElem? hv)
          walk_at "vc"
          refine ⟨g, 0, .str zz, rfl, Th.flat rfl (fun z e => by cases e; exact hzz), fun k hk J2 j12 => ?_, fun z' ss' tps' ez e t0 t1 t2 ts' J2 j12 ht0 ht1 ht2 hts => ?_⟩
          · have hk1 := dueR_str hk
            walk_at "vc"
            refine ⟨zz, rfl, hzz, fun k' e J3 j23 => ?_, fun ss' tps' e => by rw [hk1] at e; cases e⟩
            rw [hk1] at e
            cases e
            refine .inl ⟨rfl, rfl, ?_⟩
            rw [eqV_self rfl]
            walk_at "vc"
            refine ite2 (fun h => by cases h) fun _ => ?_
            exact ⟨(sJ.trans j12).trans j23, _, _, rfl⟩
          · cases ez
            walk_at "vc"
            refine ⟨zz, rfl, hzz, (fun k' e' => by rw [e] at e'; cases e'), fun ss2 tps2 e' u u1 u2 us' J3 j23 hu0 hu1 hu2 hus => ?_⟩
            rw [e] at e'
            cases e'
            refine .inr (.inl ⟨t0, u, true, 3, rfl, rfl, by decide, eq_told6 (j23 _ _ ht0) hu0 (j23 _ _ ht1) hu1 (j23 _ _ ht2) hu2 (hts.mono fun _ _ z => j23 _ _ z) hus, ?_⟩)
            walk_at "vc"
            refine ite2 (fun h => by cases h) fun _ => ?_
            exact ⟨(sJ.trans j12).trans j23, _, _, rfl⟩
        · obtain ⟨sJ, y7, y8, rfl⟩ := hp
          exact ⟨(sF.trans sG).trans sJ, _, _, _, _, _, _, _, _, rfl⟩
      · have b8 := b7
        walk_at "vc"
        refine ⟨p, z0, rfl, b8.2, by omega, fun z1 H9 b89 hz1 => ?_⟩
        have b9 := b8.trans b89
        walk_at "vc"
        refine ⟨p, z1, rfl, b9.2, by omega, fun z2 H10 b910 hz2 => ?_⟩
        have b10 := b9.trans b910
        walk_at "vc"
        refine ⟨by show 3 ≤ sizeLine; decide, fun g hg => ?_⟩
        have sF : L2.Same H H10 := BB.out s2 hp0 b10
        have hall : ∀ v ∈ ([.str z1, .str z2, .str z0] : List V), ∃ zz : Str, v = .str zz ∧ zz.length ≤ 100000 := fun v hv => by
          simp only [List.mem_cons, List.not_mem_nil, or_false] at hv
          rcases hv with rfl | rfl | rfl
          · exact ⟨z1, rfl, by omega⟩
          · exact ⟨z2, rfl, by omega⟩
          · exact ⟨_, rfl, by omega⟩
        generalize ([.str z1, .str z2, .str z0] : List V) = xs at hall ⊢
        have sG := Snew (L2.Same.refl H10) (o := .lst xs) hg
        have eg : upd H10 g (.lst xs) g = some (.lst xs) := upd_same
        refine .inl ⟨⟨_, SqL.of upd_same⟩, ?_⟩
        generalize upd H10 g (.lst xs) = H11 at sG eg ⊢
        refine for_list (K := K) (fun j σ H' => L2.Same H11 H' ∧ ∃ y7 y8 : Option V, σ = [some (.ref a), some (.int (0 + (i : Int))), some (.ref p), some (.ref n), some (.ref l), some (.str z0), some (.str z1), y7, y8]) ⟨L2.Same.refl H11, _, _, rfl⟩ (fun j σ H' _ hp => SqL.of (hp.1 _ _ eg)) (fun j v σ J1 hv hp => ?_) fun σ J1 hp => ?_
        · obtain ⟨sJ, y7, y8, rfl⟩ := hp
          obtain ⟨zz, rfl, hzz⟩ := hall v (List.mem_of_getElem? hv)
          walk_at "vc"
          refine ⟨g, 0, .str zz, rfl, Th.flat rfl (fun z e => by cases e; exact hzz), fun k hk J2 j12 => ?_, fun z' ss' tps' ez e t0 t1 t2 ts' J2 j12 ht0 ht1 ht2 hts => ?_⟩
          · have hk1 := dueR_str hk
            walk_at "vc"
            refine ⟨zz, rfl, hzz, fun k' e J3 j23 => ?_, fun ss' tps' e => by rw [hk1] at e; cases e⟩
            rw [hk1] at e
            cases e
            refine .inl ⟨rfl, rfl, ?_⟩
            rw [eqV_self rfl]
            walk_at "vc"
            refine ite2 (fun h => by cases h) fun _ => ?_
            exact ⟨(sJ.trans j12).trans j23, _, _, rfl⟩
          · cases ez
            walk_at "vc"
            refine ⟨zz, rfl, hzz, (fun k' e' => by rw [e] at e'; cases e'), fun ss2 tps2 e' u u1 u2 us' J3 j23 hu0 hu1 hu2 hus => ?_⟩
            rw [e] at e'
            cases e'
            refine .inr (.inl ⟨t0, u, true, 3, rfl, rfl, by decide, eq_told6 (j23 _ _ ht0) hu0 (j23 _ _ ht1) hu1 (j23 _ _ ht2) hu2 (hts.mono fun _ _ z => j23 _ _ z) hus, ?_⟩)
            walk_at "vc"
            refine ite2 (fun h => by cases h) fun _ => ?_
            exact ⟨(sJ.trans j12).trans j23, _, _, rfl⟩
        · obtain ⟨sJ, y7, y8, rfl⟩ := hp
          exact ⟨(sF.trans sG).trans sJ, _, _, _, _, _, _, _, _, rfl⟩
    · obtain ⟨s1, x1, x2, x3, x4, x5, x6, x7, x8, rfl⟩ := hp
      walk_at "vc"
      refine ⟨by decide, fun l1 h1 => ?_⟩
      have s12 := Snew (L2.Same.refl H1) (o := .lst []) h1
      have e1 : upd H1 l1 (.lst []) l1 = some (.lst []) := upd_same
      generalize upd H1 l1 (.lst []) = H2 at s12 e1 ⊢
      walk_at "vc"
      refine ⟨by show 1 ≤ sizeLine; decide, fun l2 h2 => ?_⟩
      have s23 := Snew (L2.Same.refl H2) (o := .lst [.str "a:"]) h2
      have e2 : upd H2 l2 (.lst [.str "a:"]) l2 = some (.lst [.str "a:"]) := upd_same
      generalize upd H2 l2 (.lst [.str "a:"]) = H3 at s23 e2 ⊢
      walk_at "vc"
      refine ⟨by show 1 ≤ sizeLine; decide, fun t3 h3 => ?_⟩
      have s34 := Snew (L2.Same.refl H3) (o := .tup [.str "a:"]) h3
      have e3 : upd H3 t3 (.tup [.str "a:"]) t3 = some (.tup [.str "a:"]) := upd_same
      generalize upd H3 t3 (.tup [.str "a:"]) = H4 at s34 e3 ⊢
      walk_at "vc"
      intro d4 h4
      have s45 := Snew (L2.Same.refl H4) (o := .dK []) h4
      have e4 : upd H4 d4 (.dK []) d4 = some (.dK []) := upd_same
      generalize upd H4 d4 (.dK []) = H5 at s45 e4 ⊢
      walk_at "vc"
      refine ⟨by show 7 ≤ sizeLine; decide, fun g hg => ?_⟩
      have f1 := s45 _ _ (s34 _ _ (s23 _ _ e1))
      have f2 := s45 _ _ (s34 _ _ e2)
      have f3 := s45 _ _ e3
      have thA : Th g H5 1 (.str "a:") := Th.flat rfl fun z e => by cases e; decide +kernel
      have hall : ∀ v ∈ ([.non, .int 5, .bl true, .ref l1, .ref l2, .ref t3, .ref d4] : List V), Th g H5 2 v ∧ ∀ z, v ≠ .str z := fun v hv => by
        simp only [List.mem_cons, List.not_mem_nil, or_false] at hv
        rcases hv with rfl | rfl | rfl | rfl | rfl | rfl | rfl
        · exact ⟨Th.flat rfl (fun z e => by cases e), fun z e => by cases e⟩
        · exact ⟨Th.flat rfl (fun z e => by cases e), fun z e => by cases e⟩
        · exact ⟨Th.flat rfl (fun z e => by cases e), fun z e => by cases e⟩
        · exact ⟨.lst f1 (ne_of_none f1 hg) (fun x hx => by cases hx) (by decide), fun z e => by cases e⟩
        · exact ⟨.lst f2 (ne_of_none f2 hg) (fun x hx => by rw [List.mem_singleton.mp hx]; exact thA) (by show 1 ≤ 1000; decide), fun z e => by cases e⟩
        · exact ⟨.tup f3 (ne_of_none f3 hg) (fun x hx => by rw [List.mem_singleton.mp hx]; exact thA) (by show 1 ≤ 1000; decide), fun z e => by cases e⟩
        · exact ⟨.dct e4 (ne_of_none e4 hg), fun z e => by cases e⟩
      generalize ([.non, .int 5, .bl true, .ref l1, .ref l2, .ref t3, .ref d4] : List V) = xs at hall ⊢
      have s56 := Snew (L2.Same.refl H5) (o := .lst xs) hg
      have eg : upd H5 g (.lst xs) g = some (.lst xs) := upd_same
      refine .inl ⟨⟨_, SqL.of upd_same⟩, ?_⟩
      generalize upd H5 g (.lst xs) = H6 at s56 eg ⊢
      refine for_list (K := K) (fun j σ H' => L2.Same H6 H' ∧ ∃ y7 : Option V, σ = [some (.ref a), x1, x2, x3, x4, x5, x6, y7, x8]) ⟨L2.Same.refl H6, _, rfl⟩ (fun j σ H' _ hp => SqL.of (hp.1 _ _ eg)) (fun j v σ J1 hv hp => ?_) fun σ J1 hp => ?_
      · obtain ⟨sJ, y7, rfl⟩ := hp
        obtain ⟨hth, hns⟩ := hall v (List.mem_of_getElem? hv)
        walk_at "vc"
        refine ⟨g, 2, v, rfl, hth.same (s56.trans sJ), fun k hk J2 j12 => ?_, fun z ss tps e => absurd e (hns z)⟩
        have hk0 : k = 0 := by
          rcases hk with ⟨_, h⟩ | ⟨z, e, _⟩
          · exact h
          · exact absurd e (hns z)
        subst hk0
        walk_at "vc"
        refine .inl ⟨rfl, rfl, ?_⟩
        rw [show (if true = true then !eqV (V.int ((0 : Nat) : Int)) (V.int 0) else eqV (V.int ((0 : Nat) : Int)) (V.int 0)) = false from rfl]
        walk_at "vc"
        refine ite2 (fun h => by cases h) fun _ => ?_
        exact ⟨sJ.trans j12, _, rfl⟩
      · obtain ⟨sJ, y7, rfl⟩ := hp
        have th1 : ∀ G : Hp, Th g G 0 (.str "a: b\na:\nb:") := fun G => Th.flat rfl fun z e => by cases e; decide +kernel
        have th2 : ∀ G : Hp, Th g G 0 (.str "a: c\nb: a") := fun G => Th.flat rfl fun z e => by cases e; decide +kernel
        walk_at "vc"
        refine ⟨g, 0, _, rfl, th1 _, fun k hk J2 j12 => ?_, fun z ss tps e e2 => by cases e; rw [rd_one] at e2; cases e2⟩
        have hk1 := dueR_str hk
        rw [rd_one] at hk1
        cases hk1
        walk_at "vc"
        refine .inl (.inl (.inl ⟨rfl, rfl, ?_⟩))
        rw [show (if false = true then !eqV (V.int ((1 : Nat) : Int)) (V.int 1) else eqV (V.int ((1 : Nat) : Int)) (V.int 1)) = true from rfl]
        walk_at "vc"
        refine iteT ?_
        walk_at "vc"
        refine ⟨g, 0, _, rfl, th2 _, fun k hk J3 j23 => ?_, fun z ss tps e e2 => by cases e; rw [rd_two] at e2; cases e2⟩
        have hk1 := dueR_str hk
        rw [rd_two] at hk1
        cases hk1
        walk_at "vc"
        refine .inl (.inl (.inl ⟨rfl, rfl, ?_⟩))
        rw [show (if false = true then !eqV (V.int ((0 : Nat) : Int)) (V.int 0) else eqV (V.int ((0 : Nat) : Int)) (V.int 0)) = true from rfl]
        exact q _
end
theorem all_mk {l : W.OpenLaw} {w : World} {K : W.Frag} {h : Heap} {mg : Str → Option Value} {fa Cw C0 C1 C2 C3 C4 C5 C6 g_Qae g_Qad g_Qaf g_Qab g_Qay g_Qax g_Qaz g_Qac g_Qba g_Qaa g_Qah g_Qag g_Qau g_Qao g_Qav g_Qai g_Qaq g_Qam g_Qal g_Qat g_Qaj g_Qar g_Qan g_Qas g_Qap g_Qak g_Qaw g_i0 g_i1 g_i2 g_i3 g_i4 g_i5 g_i6 g_iw g_Qbg g_Qbd g_Qbf g_Qbb g_Qbc g_Qbh g_Qbe : Addr} (X : K.In h) (G : h.Ns mainGlobals mg) (hfa : mg "law" = some (.ref fa))
    {od_Qae od_Qad od_Qaf od_Qab od_Qay od_Qax od_Qaz od_Qac od_Qba od_Qaa od_Qah od_Qag od_Qau od_Qao od_Qav od_Qai od_Qaq od_Qam od_Qal od_Qat od_Qaj od_Qar od_Qan od_Qas od_Qap od_Qak od_Qaw od_i0 od_i1 od_i2 od_i3 od_i4 od_i5 od_i6 od_iw od_Qbg od_Qbd od_Qbf od_Qbb od_Qbc od_Qbh od_Qbe an_Qae an_Qad an_Qaf an_Qab an_Qay an_Qax an_Qaz an_Qac an_Qba an_Qaa an_Qah an_Qag an_Qau an_Qao an_Qav an_Qai an_Qaq an_Qam an_Qal an_Qat an_Qaj an_Qar an_Qan an_Qas an_Qap an_Qak an_Qaw an_i0 an_i1 an_i2 an_i3 an_i4 an_i5 an_i6 an_iw an_Qbg an_Qbd an_Qbf an_Qbb an_Qbc an_Qbh an_Qbe : Option Addr} {sl_Qae sl_Qad sl_Qaf sl_Qab sl_Qay sl_Qax sl_Qaz sl_Qac sl_Qba sl_Qaa sl_Qah sl_Qag sl_Qau sl_Qao sl_Qav sl_Qai sl_Qaq sl_Qam sl_Qal sl_Qat sl_Qaj sl_Qar sl_Qan sl_Qas sl_Qap sl_Qak sl_Qaw sl_i0 sl_i1 sl_i2 sl_i3 sl_i4 sl_i5 sl_i6 sl_iw sl_Qbg sl_Qbd sl_Qbf sl_Qbb sl_Qbc sl_Qbh sl_Qbe : Array (Option Value)} {oc_Qae oc_Qad oc_Qaf oc_Qab oc_Qay oc_Qax oc_Qaz oc_Qac oc_Qba oc_Qaa oc_Qah oc_Qag oc_Qau oc_Qao oc_Qav oc_Qai oc_Qaq oc_Qam oc_Qal oc_Qat oc_Qaj oc_Qar oc_Qan oc_Qas oc_Qap oc_Qak oc_Qaw oc_i0 oc_i1 oc_i2 oc_i3 oc_i4 oc_i5 oc_i6 oc_iw oc_Qbg oc_Qbd oc_Qbf oc_Qbb oc_Qbc oc_Qbh oc_Qbe kV_Qae kV_Qad kV_Qaf kV_Qab kV_Qay kV_Qax kV_Qaz kV_Qac kV_Qba kV_Qaa kV_Qah kV_Qag kV_Qau kV_Qao kV_Qav kV_Qai kV_Qaq kV_Qam kV_Qal kV_Qat kV_Qaj kV_Qar kV_Qan kV_Qas kV_Qap kV_Qak kV_Qaw kV_i0 kV_i1 kV_i2 kV_i3 kV_i4 kV_i5 kV_i6 kV_iw kV_Qbg kV_Qbd kV_Qbf kV_Qbb kV_Qbc kV_Qbh kV_Qbe dc_Qae dc_Qad dc_Qaf dc_Qab dc_Qay dc_Qax dc_Qaz dc_Qac dc_Qba dc_Qaa dc_Qah dc_Qag dc_Qau dc_Qao dc_Qav dc_Qai dc_Qaq dc_Qam dc_Qal dc_Qat dc_Qaj dc_Qar dc_Qan dc_Qas dc_Qap dc_Qak dc_Qaw dc_i0 dc_i1 dc_i2 dc_i3 dc_i4 dc_i5 dc_i6 dc_iw dc_Qbg dc_Qbd dc_Qbf dc_Qbb dc_Qbc dc_Qbh dc_Qbe pm_Qae pm_Qad pm_Qaf pm_Qab pm_Qay pm_Qax pm_Qaz pm_Qac pm_Qba pm_Qaa pm_Qah pm_Qag pm_Qau pm_Qao pm_Qav pm_Qai pm_Qaq pm_Qam pm_Qal pm_Qat pm_Qaj pm_Qar pm_Qan pm_Qas pm_Qap pm_Qak pm_Qaw pm_i0 pm_i1 pm_i2 pm_i3 pm_i4 pm_i5 pm_i6 pm_iw pm_Qbg pm_Qbd pm_Qbf pm_Qbb pm_Qbc pm_Qbh pm_Qbe cd_Qae cd_Qad cd_Qaf cd_Qab cd_Qay cd_Qax cd_Qaz cd_Qac cd_Qba cd_Qaa cd_Qah cd_Qag cd_Qau cd_Qao cd_Qav cd_Qai cd_Qaq cd_Qam cd_Qal cd_Qat cd_Qaj cd_Qar cd_Qan cd_Qas cd_Qap cd_Qak cd_Qaw cd_i0 cd_i1 cd_i2 cd_i3 cd_i4 cd_i5 cd_i6 cd_iw cd_Qbg cd_Qbd cd_Qbf cd_Qbb cd_Qbc cd_Qbh cd_Qbe ct_Qae ct_Qad ct_Qaf ct_Qab ct_Qay ct_Qax ct_Qaz ct_Qac ct_Qba ct_Qaa ct_Qah ct_Qag ct_Qau ct_Qao ct_Qav ct_Qai ct_Qaq ct_Qam ct_Qal ct_Qat ct_Qaj ct_Qar ct_Qan ct_Qas ct_Qap ct_Qak ct_Qaw ct_i0 ct_i1 ct_i2 ct_i3 ct_i4 ct_i5 ct_i6 ct_iw ct_Qbg ct_Qbd ct_Qbf ct_Qbb ct_Qbc ct_Qbh ct_Qbe : Value} {ty0 ty1 ty2 : Tok} {nm0 qn0 : Str} {xn0 : Addr} {bs0 sub0 : List Value} {sn0 : List Str} {hdct0 ab0 : Bool} {col0 : Option Bool} {dd0 : Option Addr} {k00 k10 k20 k30 k50 : Option Value} {nm1 qn1 : Str} {xn1 : Addr} {bs1 sub1 : List Value} {sn1 : List Str} {hdct1 ab1 : Bool} {col1 : Option Bool} {dd1 : Option Addr} {k01 k11 k21 k31 k51 : Option Value} {nm2 qn2 : Str} {xn2 : Addr} {bs2 sub2 : List Value} {sn2 : List Str} {hdct2 ab2 : Bool} {col2 : Option Bool} {dd2 : Option Addr} {k02 k12 k22 k32 k52 : Option Value} {nm3 qn3 : Str} {xn3 : Addr} {bs3 sub3 : List Value} {sn3 : List Str} {hdct3 ab3 : Bool} {col3 : Option Bool} {dd3 : Option Addr} {k03 k13 k23 k33 k53 : Option Value} {nm4 qn4 : Str} {xn4 : Addr} {bs4 sub4 : List Value} {sn4 : List Str} {hdct4 ab4 : Bool} {col4 : Option Bool} {dd4 : Option Addr} {k04 k14 k24 k34 k54 : Option Value} {nm5 qn5 : Str} {xn5 : Addr} {bs5 sub5 : List Value} {sn5 : List Str} {hdct5 ab5 : Bool} {col5 : Option Bool} {dd5 : Option Addr} {k05 k15 k25 k35 k55 : Option Value} {nm6 qn6 : Str} {xn6 : Addr} {bs6 sub6 : List Value} {sn6 : List Str} {hdct6 ab6 : Bool} {col6 : Option Bool} {dd6 : Option Addr} {k06 k16 k26 k36 k56 : Option Value}
    (C0_ : W.nsIn K mainGlobals "NoName" = some (some (.ref C0)))
    (C1_ : W.nsIn K mainGlobals "Twice" = some (some (.ref C1)))
    (C2_ : W.nsIn K mainGlobals "NoPlace" = some (some (.ref C2)))
    (C3_ : W.nsIn K mainGlobals "NoTie" = some (some (.ref C3)))
    (C4_ : W.nsIn K mainGlobals "TooMany" = some (some (.ref C4)))
    (C5_ : W.nsIn K mainGlobals "NoText" = some (some (.ref C5)))
    (C6_ : W.nsIn K mainGlobals "OnceError" = some (some (.ref C6)))
    (Cw_ : W.nsIn K mainGlobals "Web" = some (some (.ref Cw)))
    (a_Qae : W.nsIn K mainGlobals "is_name" = some (some (.ref g_Qae)))
    (l_Qae : K.lookup g_Qae = some ⟨oc_Qae, od_Qae, .func (W.fnOf "is_name" "is_name" (defArgs s_is_name) (defBody s_is_name) (defScope s_is_name) .none kV_Qae dc_Qae pm_Qae an_Qae cd_Qae ct_Qae), sl_Qae⟩)
    (c_Qae : W.codeIn K cd_Qae "is_name" = true) (k_Qae : W.keepIn K (.ref g_Qae) = true)
    (a_Qad : W.nsIn K mainGlobals "has_bit" = some (some (.ref g_Qad)))
    (l_Qad : K.lookup g_Qad = some ⟨oc_Qad, od_Qad, .func (W.fnOf "has_bit" "has_bit" (defArgs s_has_bit) (defBody s_has_bit) (defScope s_has_bit) .none kV_Qad dc_Qad pm_Qad an_Qad cd_Qad ct_Qad), sl_Qad⟩)
    (c_Qad : W.codeIn K cd_Qad "has_bit" = true) (k_Qad : W.keepIn K (.ref g_Qad) = true)
    (a_Qaf : W.nsIn K mainGlobals "is_place" = some (some (.ref g_Qaf)))
    (l_Qaf : K.lookup g_Qaf = some ⟨oc_Qaf, od_Qaf, .func (W.fnOf "is_place" "is_place" (defArgs s_is_place) (defBody s_is_place) (defScope s_is_place) .none kV_Qaf dc_Qaf pm_Qaf an_Qaf cd_Qaf ct_Qaf), sl_Qaf⟩)
    (c_Qaf : W.codeIn K cd_Qaf "is_place" = true) (k_Qaf : W.keepIn K (.ref g_Qaf) = true)
    (a_Qab : W.nsIn K mainGlobals "are_two_places" = some (some (.ref g_Qab)))
    (l_Qab : K.lookup g_Qab = some ⟨oc_Qab, od_Qab, .func (W.fnOf "are_two_places" "are_two_places" (defArgs s_are_two_places) (defBody s_are_two_places) (defScope s_are_two_places) .none kV_Qab dc_Qab pm_Qab an_Qab cd_Qab ct_Qab), sl_Qab⟩)
    (c_Qab : W.codeIn K cd_Qab "are_two_places" = true) (k_Qab : W.keepIn K (.ref g_Qab) = true)
    (a_Qay : W.nsIn K mainGlobals "numbers_of" = some (some (.ref g_Qay)))
    (l_Qay : K.lookup g_Qay = some ⟨oc_Qay, od_Qay, .func (W.fnOf "numbers_of" "numbers_of" (defArgs s_numbers_of) (defBody s_numbers_of) (defScope s_numbers_of) .none kV_Qay dc_Qay pm_Qay an_Qay cd_Qay ct_Qay), sl_Qay⟩)
    (c_Qay : W.codeIn K cd_Qay "numbers_of" = true) (k_Qay : W.keepIn K (.ref g_Qay) = true)
    (a_Qax : W.nsIn K mainGlobals "near_of" = some (some (.ref g_Qax)))
    (l_Qax : K.lookup g_Qax = some ⟨oc_Qax, od_Qax, .func (W.fnOf "near_of" "near_of" (defArgs s_near_of) (defBody s_near_of) (defScope s_near_of) .none kV_Qax dc_Qax pm_Qax an_Qax cd_Qax ct_Qax), sl_Qax⟩)
    (c_Qax : W.codeIn K cd_Qax "near_of" = true) (k_Qax : W.keepIn K (.ref g_Qax) = true)
    (a_Qaz : W.nsIn K mainGlobals "read_web" = some (some (.ref g_Qaz)))
    (l_Qaz : K.lookup g_Qaz = some ⟨oc_Qaz, od_Qaz, .func (W.fnOf "read_web" "read_web" (defArgs s_read_web) (defBody s_read_web) (defScope s_read_web) .none kV_Qaz dc_Qaz pm_Qaz an_Qaz cd_Qaz ct_Qaz), sl_Qaz⟩)
    (c_Qaz : W.codeIn K cd_Qaz "read_web" = true) (k_Qaz : W.keepIn K (.ref g_Qaz) = true)
    (a_Qac : W.nsIn K mainGlobals "first_words" = some (some (.ref g_Qac)))
    (l_Qac : K.lookup g_Qac = some ⟨oc_Qac, od_Qac, .func (W.fnOf "first_words" "first_words" (defArgs s_first_words) (defBody s_first_words) (defScope s_first_words) .none kV_Qac dc_Qac pm_Qac an_Qac cd_Qac ct_Qac), sl_Qac⟩)
    (c_Qac : W.codeIn K cd_Qac "first_words" = true) (k_Qac : W.keepIn K (.ref g_Qac) = true)
    (a_Qba : W.nsIn K mainGlobals "ties_in" = some (some (.ref g_Qba)))
    (l_Qba : K.lookup g_Qba = some ⟨oc_Qba, od_Qba, .func (W.fnOf "ties_in" "ties_in" (defArgs s_ties_in) (defBody s_ties_in) (defScope s_ties_in) .none kV_Qba dc_Qba pm_Qba an_Qba cd_Qba ct_Qba), sl_Qba⟩)
    (c_Qba : W.codeIn K cd_Qba "ties_in" = true) (k_Qba : W.keepIn K (.ref g_Qba) = true)
    (a_Qaa : W.nsIn K mainGlobals "are_farther_below" = some (some (.ref g_Qaa)))
    (l_Qaa : K.lookup g_Qaa = some ⟨oc_Qaa, od_Qaa, .func (W.fnOf "are_farther_below" "are_farther_below" (defArgs s_are_farther_below) (defBody s_are_farther_below) (defScope s_are_farther_below) .none kV_Qaa dc_Qaa pm_Qaa an_Qaa cd_Qaa ct_Qaa), sl_Qaa⟩)
    (c_Qaa : W.codeIn K cd_Qaa "are_farther_below" = true) (k_Qaa : W.keepIn K (.ref g_Qaa) = true)
    (a_Qah : W.nsIn K mainGlobals "_law_cell" = some (some (.ref g_Qah)))
    (l_Qah : K.lookup g_Qah = some ⟨oc_Qah, od_Qah, .func (W.fnOf "_law_cell" "_law_cell" (defArgs s_l_cell) (defBody s_l_cell) (defScope s_l_cell) .none kV_Qah dc_Qah pm_Qah an_Qah cd_Qah ct_Qah), sl_Qah⟩)
    (c_Qah : W.codeIn K cd_Qah "_law_cell" = true) (k_Qah : W.keepIn K (.ref g_Qah) = true)
    (a_Qag : W.nsIn K mainGlobals "_law_box" = some (some (.ref g_Qag)))
    (l_Qag : K.lookup g_Qag = some ⟨oc_Qag, od_Qag, .func (W.fnOf "_law_box" "_law_box" (defArgs s_l_box) (defBody s_l_box) (defScope s_l_box) .none kV_Qag dc_Qag pm_Qag an_Qag cd_Qag ct_Qag), sl_Qag⟩)
    (c_Qag : W.codeIn K cd_Qag "_law_box" = true) (k_Qag : W.keepIn K (.ref g_Qag) = true)
    (a_Qau : W.nsIn K mainGlobals "_law_take" = some (some (.ref g_Qau)))
    (l_Qau : K.lookup g_Qau = some ⟨oc_Qau, od_Qau, .func (W.fnOf "_law_take" "_law_take" (defArgs s_l_take) (defBody s_l_take) (defScope s_l_take) .none kV_Qau dc_Qau pm_Qau an_Qau cd_Qau ct_Qau), sl_Qau⟩)
    (c_Qau : W.codeIn K cd_Qau "_law_take" = true) (k_Qau : W.keepIn K (.ref g_Qau) = true)
    (a_Qao : W.nsIn K mainGlobals "_law_names" = some (some (.ref g_Qao)))
    (l_Qao : K.lookup g_Qao = some ⟨oc_Qao, od_Qao, .func (W.fnOf "_law_names" "_law_names" (defArgs s_l_names) (defBody s_l_names) (defScope s_l_names) .none kV_Qao dc_Qao pm_Qao an_Qao cd_Qao ct_Qao), sl_Qao⟩)
    (c_Qao : W.codeIn K cd_Qao "_law_names" = true) (k_Qao : W.keepIn K (.ref g_Qao) = true)
    (a_Qav : W.nsIn K mainGlobals "_law_ties" = some (some (.ref g_Qav)))
    (l_Qav : K.lookup g_Qav = some ⟨oc_Qav, od_Qav, .func (W.fnOf "_law_ties" "_law_ties" (defArgs s_l_ties) (defBody s_l_ties) (defScope s_l_ties) .none kV_Qav dc_Qav pm_Qav an_Qav cd_Qav ct_Qav), sl_Qav⟩)
    (c_Qav : W.codeIn K cd_Qav "_law_ties" = true) (k_Qav : W.keepIn K (.ref g_Qav) = true)
    (a_Qai : W.nsIn K mainGlobals "_law_drawn" = some (some (.ref g_Qai)))
    (l_Qai : K.lookup g_Qai = some ⟨oc_Qai, od_Qai, .func (W.fnOf "_law_drawn" "_law_drawn" (defArgs s_l_drawn) (defBody s_l_drawn) (defScope s_l_drawn) .none kV_Qai dc_Qai pm_Qai an_Qai cd_Qai ct_Qai), sl_Qai⟩)
    (c_Qai : W.codeIn K cd_Qai "_law_drawn" = true) (k_Qai : W.keepIn K (.ref g_Qai) = true)
    (a_Qaq : W.nsIn K mainGlobals "_law_rising" = some (some (.ref g_Qaq)))
    (l_Qaq : K.lookup g_Qaq = some ⟨oc_Qaq, od_Qaq, .func (W.fnOf "_law_rising" "_law_rising" (defArgs s_l_rising) (defBody s_l_rising) (defScope s_l_rising) .none kV_Qaq dc_Qaq pm_Qaq an_Qaq cd_Qaq ct_Qaq), sl_Qaq⟩)
    (c_Qaq : W.codeIn K cd_Qaq "_law_rising" = true) (k_Qaq : W.keepIn K (.ref g_Qaq) = true)
    (a_Qam : W.nsIn K mainGlobals "_law_lines" = some (some (.ref g_Qam)))
    (l_Qam : K.lookup g_Qam = some ⟨oc_Qam, od_Qam, .func (W.fnOf "_law_lines" "_law_lines" (defArgs s_l_lines) (defBody s_l_lines) (defScope s_l_lines) .none kV_Qam dc_Qam pm_Qam an_Qam cd_Qam ct_Qam), sl_Qam⟩)
    (c_Qam : W.codeIn K cd_Qam "_law_lines" = true) (k_Qam : W.keepIn K (.ref g_Qam) = true)
    (a_Qal : W.nsIn K mainGlobals "_law_is_name" = some (some (.ref g_Qal)))
    (l_Qal : K.lookup g_Qal = some ⟨oc_Qal, od_Qal, .func (W.fnOf "_law_is_name" "_law_is_name" (defArgs s_l_is_name) (defBody s_l_is_name) (defScope s_l_is_name) .none kV_Qal dc_Qal pm_Qal an_Qal cd_Qal ct_Qal), sl_Qal⟩)
    (c_Qal : W.codeIn K cd_Qal "_law_is_name" = true) (k_Qal : W.keepIn K (.ref g_Qal) = true)
    (a_Qat : W.nsIn K mainGlobals "_law_tail" = some (some (.ref g_Qat)))
    (l_Qat : K.lookup g_Qat = some ⟨oc_Qat, od_Qat, .func (W.fnOf "_law_tail" "_law_tail" (defArgs s_l_tail) (defBody s_l_tail) (defScope s_l_tail) .none kV_Qat dc_Qat pm_Qat an_Qat cd_Qat ct_Qat), sl_Qat⟩)
    (c_Qat : W.codeIn K cd_Qat "_law_tail" = true) (k_Qat : W.keepIn K (.ref g_Qat) = true)
    (a_Qaj : W.nsIn K mainGlobals "_law_due" = some (some (.ref g_Qaj)))
    (l_Qaj : K.lookup g_Qaj = some ⟨oc_Qaj, od_Qaj, .func (W.fnOf "_law_due" "_law_due" (defArgs s_l_due) (defBody s_l_due) (defScope s_l_due) .none kV_Qaj dc_Qaj pm_Qaj an_Qaj cd_Qaj ct_Qaj), sl_Qaj⟩)
    (c_Qaj : W.codeIn K cd_Qaj "_law_due" = true) (k_Qaj : W.keepIn K (.ref g_Qaj) = true)
    (a_Qar : W.nsIn K mainGlobals "_law_sign" = some (some (.ref g_Qar)))
    (l_Qar : K.lookup g_Qar = some ⟨oc_Qar, od_Qar, .func (W.fnOf "_law_sign" "_law_sign" (defArgs s_l_sign) (defBody s_l_sign) (defScope s_l_sign) .none kV_Qar dc_Qar pm_Qar an_Qar cd_Qar ct_Qar), sl_Qar⟩)
    (c_Qar : W.codeIn K cd_Qar "_law_sign" = true) (k_Qar : W.keepIn K (.ref g_Qar) = true)
    (a_Qan : W.nsIn K mainGlobals "_law_moved" = some (some (.ref g_Qan)))
    (l_Qan : K.lookup g_Qan = some ⟨oc_Qan, od_Qan, .func (W.fnOf "_law_moved" "_law_moved" (defArgs s_l_moved) (defBody s_l_moved) (defScope s_l_moved) .none kV_Qan dc_Qan pm_Qan an_Qan cd_Qan ct_Qan), sl_Qan⟩)
    (c_Qan : W.codeIn K cd_Qan "_law_moved" = true) (k_Qan : W.keepIn K (.ref g_Qan) = true)
    (a_Qas : W.nsIn K mainGlobals "_law_spoilt" = some (some (.ref g_Qas)))
    (l_Qas : K.lookup g_Qas = some ⟨oc_Qas, od_Qas, .func (W.fnOf "_law_spoilt" "_law_spoilt" (defArgs s_l_spoilt) (defBody s_l_spoilt) (defScope s_l_spoilt) .none kV_Qas dc_Qas pm_Qas an_Qas cd_Qas ct_Qas), sl_Qas⟩)
    (c_Qas : W.codeIn K cd_Qas "_law_spoilt" = true) (k_Qas : W.keepIn K (.ref g_Qas) = true)
    (a_Qap : W.nsIn K mainGlobals "_law_read" = some (some (.ref g_Qap)))
    (l_Qap : K.lookup g_Qap = some ⟨oc_Qap, od_Qap, .func (W.fnOf "_law_read" "_law_read" (defArgs s_l_read) (defBody s_l_read) (defScope s_l_read) .none kV_Qap dc_Qap pm_Qap an_Qap cd_Qap ct_Qap), sl_Qap⟩)
    (c_Qap : W.codeIn K cd_Qap "_law_read" = true) (k_Qap : W.keepIn K (.ref g_Qap) = true)
    (a_Qak : W.nsIn K mainGlobals "_law_great" = some (some (.ref g_Qak)))
    (l_Qak : K.lookup g_Qak = some ⟨oc_Qak, od_Qak, .func (W.fnOf "_law_great" "_law_great" (defArgs s_l_great) (defBody s_l_great) (defScope s_l_great) .none kV_Qak dc_Qak pm_Qak an_Qak cd_Qak ct_Qak), sl_Qak⟩)
    (c_Qak : W.codeIn K cd_Qak "_law_great" = true) (k_Qak : W.keepIn K (.ref g_Qak) = true)
    (a_Qaw : W.nsIn K mainGlobals "law" = some (some (.ref g_Qaw)))
    (l_Qaw : K.lookup g_Qaw = some ⟨oc_Qaw, od_Qaw, .func (W.fnOf "law" "law" (defArgs s_law) (defBody s_law) (defScope s_law) .none kV_Qaw dc_Qaw pm_Qaw an_Qaw cd_Qaw ct_Qaw), sl_Qaw⟩)
    (c_Qaw : W.codeIn K cd_Qaw "law" = true) (k_Qaw : W.keepIn K (.ref g_Qaw) = true)
    (a_i0 : W.findIn K (.ref C0) "__init__" = some (some (.ref g_i0)))
    (l_i0 : K.lookup g_i0 = some ⟨oc_i0, od_i0, .func (W.fnOf "__init__" "NoName.__init__" (defArgs s_NoName_init) (defBody s_NoName_init) (defScope s_NoName_init) .none kV_i0 dc_i0 pm_i0 an_i0 cd_i0 ct_i0), sl_i0⟩)
    (c_i0 : W.codeIn K cd_i0 "NoName.__init__" = true) (k_i0 : W.keepIn K (.ref g_i0) = true)
    (n_i0 : W.isFn K (.ref g_i0) = true)
    (a_i1 : W.findIn K (.ref C1) "__init__" = some (some (.ref g_i1)))
    (l_i1 : K.lookup g_i1 = some ⟨oc_i1, od_i1, .func (W.fnOf "__init__" "Twice.__init__" (defArgs s_Twice_init) (defBody s_Twice_init) (defScope s_Twice_init) .none kV_i1 dc_i1 pm_i1 an_i1 cd_i1 ct_i1), sl_i1⟩)
    (c_i1 : W.codeIn K cd_i1 "Twice.__init__" = true) (k_i1 : W.keepIn K (.ref g_i1) = true)
    (n_i1 : W.isFn K (.ref g_i1) = true)
    (a_i2 : W.findIn K (.ref C2) "__init__" = some (some (.ref g_i2)))
    (l_i2 : K.lookup g_i2 = some ⟨oc_i2, od_i2, .func (W.fnOf "__init__" "NoPlace.__init__" (defArgs s_NoPlace_init) (defBody s_NoPlace_init) (defScope s_NoPlace_init) .none kV_i2 dc_i2 pm_i2 an_i2 cd_i2 ct_i2), sl_i2⟩)
    (c_i2 : W.codeIn K cd_i2 "NoPlace.__init__" = true) (k_i2 : W.keepIn K (.ref g_i2) = true)
    (n_i2 : W.isFn K (.ref g_i2) = true)
    (a_i3 : W.findIn K (.ref C3) "__init__" = some (some (.ref g_i3)))
    (l_i3 : K.lookup g_i3 = some ⟨oc_i3, od_i3, .func (W.fnOf "__init__" "NoTie.__init__" (defArgs s_NoTie_init) (defBody s_NoTie_init) (defScope s_NoTie_init) .none kV_i3 dc_i3 pm_i3 an_i3 cd_i3 ct_i3), sl_i3⟩)
    (c_i3 : W.codeIn K cd_i3 "NoTie.__init__" = true) (k_i3 : W.keepIn K (.ref g_i3) = true)
    (n_i3 : W.isFn K (.ref g_i3) = true)
    (a_i4 : W.findIn K (.ref C4) "__init__" = some (some (.ref g_i4)))
    (l_i4 : K.lookup g_i4 = some ⟨oc_i4, od_i4, .func (W.fnOf "__init__" "TooMany.__init__" (defArgs s_TooMany_init) (defBody s_TooMany_init) (defScope s_TooMany_init) .none kV_i4 dc_i4 pm_i4 an_i4 cd_i4 ct_i4), sl_i4⟩)
    (c_i4 : W.codeIn K cd_i4 "TooMany.__init__" = true) (k_i4 : W.keepIn K (.ref g_i4) = true)
    (n_i4 : W.isFn K (.ref g_i4) = true)
    (a_i5 : W.findIn K (.ref C5) "__init__" = some (some (.ref g_i5)))
    (l_i5 : K.lookup g_i5 = some ⟨oc_i5, od_i5, .func (W.fnOf "__init__" "NoText.__init__" (defArgs s_NoText_init) (defBody s_NoText_init) (defScope s_NoText_init) .none kV_i5 dc_i5 pm_i5 an_i5 cd_i5 ct_i5), sl_i5⟩)
    (c_i5 : W.codeIn K cd_i5 "NoText.__init__" = true) (k_i5 : W.keepIn K (.ref g_i5) = true)
    (n_i5 : W.isFn K (.ref g_i5) = true)
    (a_i6 : W.findIn K (.ref C6) "__init__" = some (some (.ref g_i6)))
    (l_i6 : K.lookup g_i6 = some ⟨oc_i6, od_i6, .func (W.fnOf "__init__" "OnceError.__init__" (defArgs s_OnceError_init) (defBody s_OnceError_init) (defScope s_OnceError_init) .none kV_i6 dc_i6 pm_i6 an_i6 cd_i6 ct_i6), sl_i6⟩)
    (c_i6 : W.codeIn K cd_i6 "OnceError.__init__" = true) (k_i6 : W.keepIn K (.ref g_i6) = true)
    (n_i6 : W.isFn K (.ref g_i6) = true)
    (a_iw : W.findIn K (.ref Cw) "__init__" = some (some (.ref g_iw)))
    (l_iw : K.lookup g_iw = some ⟨oc_iw, od_iw, .func (W.fnOf "__init__" "Web.__init__" (defArgs s_Web_init) (defBody s_Web_init) (defScope s_Web_init) .none kV_iw dc_iw pm_iw an_iw cd_iw ct_iw), sl_iw⟩)
    (c_iw : W.codeIn K cd_iw "Web.__init__" = true) (k_iw : W.keepIn K (.ref g_iw) = true)
    (n_iw : W.isFn K (.ref g_iw) = true)
    (a_Qbg : W.findIn K (.ref Cw) "ties" = some (some (.ref g_Qbg)))
    (l_Qbg : K.lookup g_Qbg = some ⟨oc_Qbg, od_Qbg, .func (W.fnOf "ties" "Web.ties" (defArgs s_Web_ties) (defBody s_Web_ties) (defScope s_Web_ties) .none kV_Qbg dc_Qbg pm_Qbg an_Qbg cd_Qbg ct_Qbg), sl_Qbg⟩)
    (c_Qbg : W.codeIn K cd_Qbg "Web.ties" = true) (k_Qbg : W.keepIn K (.ref g_Qbg) = true)
    (n_Qbg : W.isFn K (.ref g_Qbg) = true)
    (a_Qbd : W.findIn K (.ref Cw) "has_place" = some (some (.ref g_Qbd)))
    (l_Qbd : K.lookup g_Qbd = some ⟨oc_Qbd, od_Qbd, .func (W.fnOf "has_place" "Web.has_place" (defArgs s_Web_has_place) (defBody s_Web_has_place) (defScope s_Web_has_place) .none kV_Qbd dc_Qbd pm_Qbd an_Qbd cd_Qbd ct_Qbd), sl_Qbd⟩)
    (c_Qbd : W.codeIn K cd_Qbd "Web.has_place" = true) (k_Qbd : W.keepIn K (.ref g_Qbd) = true)
    (n_Qbd : W.isFn K (.ref g_Qbd) = true)
    (a_Qbf : W.findIn K (.ref Cw) "number_of" = some (some (.ref g_Qbf)))
    (l_Qbf : K.lookup g_Qbf = some ⟨oc_Qbf, od_Qbf, .func (W.fnOf "number_of" "Web.number_of" (defArgs s_Web_number_of) (defBody s_Web_number_of) (defScope s_Web_number_of) .none kV_Qbf dc_Qbf pm_Qbf an_Qbf cd_Qbf ct_Qbf), sl_Qbf⟩)
    (c_Qbf : W.codeIn K cd_Qbf "Web.number_of" = true) (k_Qbf : W.keepIn K (.ref g_Qbf) = true)
    (n_Qbf : W.isFn K (.ref g_Qbf) = true)
    (a_Qbb : W.findIn K (.ref Cw) "beside" = some (some (.ref g_Qbb)))
    (l_Qbb : K.lookup g_Qbb = some ⟨oc_Qbb, od_Qbb, .func (W.fnOf "beside" "Web.beside" (defArgs s_Web_beside) (defBody s_Web_beside) (defScope s_Web_beside) .none kV_Qbb dc_Qbb pm_Qbb an_Qbb cd_Qbb ct_Qbb), sl_Qbb⟩)
    (c_Qbb : W.codeIn K cd_Qbb "Web.beside" = true) (k_Qbb : W.keepIn K (.ref g_Qbb) = true)
    (n_Qbb : W.isFn K (.ref g_Qbb) = true)
    (a_Qbc : W.findIn K (.ref Cw) "bits_beside" = some (some (.ref g_Qbc)))
    (l_Qbc : K.lookup g_Qbc = some ⟨oc_Qbc, od_Qbc, .func (W.fnOf "bits_beside" "Web.bits_beside" (defArgs s_Web_bits_beside) (defBody s_Web_bits_beside) (defScope s_Web_bits_beside) .none kV_Qbc dc_Qbc pm_Qbc an_Qbc cd_Qbc ct_Qbc), sl_Qbc⟩)
    (c_Qbc : W.codeIn K cd_Qbc "Web.bits_beside" = true) (k_Qbc : W.keepIn K (.ref g_Qbc) = true)
    (n_Qbc : W.isFn K (.ref g_Qbc) = true)
    (a_Qbh : W.findIn K (.ref Cw) "told" = some (some (.ref g_Qbh)))
    (l_Qbh : K.lookup g_Qbh = some ⟨oc_Qbh, od_Qbh, .func (W.fnOf "told" "Web.told" (defArgs s_Web_told) (defBody s_Web_told) (defScope s_Web_told) .none kV_Qbh dc_Qbh pm_Qbh an_Qbh cd_Qbh ct_Qbh), sl_Qbh⟩)
    (c_Qbh : W.codeIn K cd_Qbh "Web.told" = true) (k_Qbh : W.keepIn K (.ref g_Qbh) = true)
    (n_Qbh : W.isFn K (.ref g_Qbh) = true)
    (a_Qbe : W.findIn K (.ref Cw) "names_in" = some (some (.ref g_Qbe)))
    (l_Qbe : K.lookup g_Qbe = some ⟨oc_Qbe, od_Qbe, .func (W.fnOf "names_in" "Web.names_in" (defArgs s_Web_names_in) (defBody s_Web_names_in) (defScope s_Web_names_in) .none kV_Qbe dc_Qbe pm_Qbe an_Qbe cd_Qbe ct_Qbe), sl_Qbe⟩)
    (c_Qbe : W.codeIn K cd_Qbe "Web.names_in" = true) (k_Qbe : W.keepIn K (.ref g_Qbe) = true)
    (n_Qbe : W.isFn K (.ref g_Qbe) = true)
    (x0 : K.lookup C0 = some (excClassObj nm0 qn0 C0 xn0 bs0 (.ref C6 :: veMro) hdct0 sn0 sub0 ab0 col0 dd0 k00 k10 k20 k30 k50 "ValueError.__new__"))
    (xa0 : W.findIn K (.ref C0) "__getattribute__" = some (some (.builtin "BaseException.__getattribute__")))
    (xb0 : W.findIn K (.ref C0) "__getattr__" = some none)
    (xd0 : W.mroIn K C0 (.type "BaseException") = some true)
    (xe0 : W.mroIn K C0 (.type "object") = some true)
    (xf0 : W.hasDictIn K C0 = true)
    (xg0 : W.findIn K (.ref C0) "__class__" = some (some (.builtin "object.__class__")))
    (xh0 : W.findIn K (.ref C0) "__setattr__" = some (some (.builtin "object.__setattr__")))
    (p0 : W.keepIn K (.ref C0) = true)
    (x1 : K.lookup C1 = some (excClassObj nm1 qn1 C1 xn1 bs1 (.ref C6 :: veMro) hdct1 sn1 sub1 ab1 col1 dd1 k01 k11 k21 k31 k51 "ValueError.__new__"))
    (xa1 : W.findIn K (.ref C1) "__getattribute__" = some (some (.builtin "BaseException.__getattribute__")))
    (xb1 : W.findIn K (.ref C1) "__getattr__" = some none)
    (xd1 : W.mroIn K C1 (.type "BaseException") = some true)
    (xe1 : W.mroIn K C1 (.type "object") = some true)
    (xf1 : W.hasDictIn K C1 = true)
    (xg1 : W.findIn K (.ref C1) "__class__" = some (some (.builtin "object.__class__")))
    (xh1 : W.findIn K (.ref C1) "__setattr__" = some (some (.builtin "object.__setattr__")))
    (p1 : W.keepIn K (.ref C1) = true)
    (x2 : K.lookup C2 = some (excClassObj nm2 qn2 C2 xn2 bs2 (.ref C6 :: veMro) hdct2 sn2 sub2 ab2 col2 dd2 k02 k12 k22 k32 k52 "ValueError.__new__"))
    (xa2 : W.findIn K (.ref C2) "__getattribute__" = some (some (.builtin "BaseException.__getattribute__")))
    (xb2 : W.findIn K (.ref C2) "__getattr__" = some none)
    (xd2 : W.mroIn K C2 (.type "BaseException") = some true)
    (xe2 : W.mroIn K C2 (.type "object") = some true)
    (xf2 : W.hasDictIn K C2 = true)
    (xg2 : W.findIn K (.ref C2) "__class__" = some (some (.builtin "object.__class__")))
    (xh2 : W.findIn K (.ref C2) "__setattr__" = some (some (.builtin "object.__setattr__")))
    (p2 : W.keepIn K (.ref C2) = true)
    (x3 : K.lookup C3 = some (excClassObj nm3 qn3 C3 xn3 bs3 (.ref C6 :: veMro) hdct3 sn3 sub3 ab3 col3 dd3 k03 k13 k23 k33 k53 "ValueError.__new__"))
    (xa3 : W.findIn K (.ref C3) "__getattribute__" = some (some (.builtin "BaseException.__getattribute__")))
    (xb3 : W.findIn K (.ref C3) "__getattr__" = some none)
    (xd3 : W.mroIn K C3 (.type "BaseException") = some true)
    (xe3 : W.mroIn K C3 (.type "object") = some true)
    (xf3 : W.hasDictIn K C3 = true)
    (xg3 : W.findIn K (.ref C3) "__class__" = some (some (.builtin "object.__class__")))
    (xh3 : W.findIn K (.ref C3) "__setattr__" = some (some (.builtin "object.__setattr__")))
    (p3 : W.keepIn K (.ref C3) = true)
    (x4 : K.lookup C4 = some (excClassObj nm4 qn4 C4 xn4 bs4 (.ref C6 :: veMro) hdct4 sn4 sub4 ab4 col4 dd4 k04 k14 k24 k34 k54 "ValueError.__new__"))
    (xa4 : W.findIn K (.ref C4) "__getattribute__" = some (some (.builtin "BaseException.__getattribute__")))
    (xb4 : W.findIn K (.ref C4) "__getattr__" = some none)
    (xd4 : W.mroIn K C4 (.type "BaseException") = some true)
    (xe4 : W.mroIn K C4 (.type "object") = some true)
    (xf4 : W.hasDictIn K C4 = true)
    (xg4 : W.findIn K (.ref C4) "__class__" = some (some (.builtin "object.__class__")))
    (xh4 : W.findIn K (.ref C4) "__setattr__" = some (some (.builtin "object.__setattr__")))
    (p4 : W.keepIn K (.ref C4) = true)
    (x5 : K.lookup C5 = some (excClassObj nm5 qn5 C5 xn5 bs5 (.ref C6 :: veMro) hdct5 sn5 sub5 ab5 col5 dd5 k05 k15 k25 k35 k55 "ValueError.__new__"))
    (xa5 : W.findIn K (.ref C5) "__getattribute__" = some (some (.builtin "BaseException.__getattribute__")))
    (xb5 : W.findIn K (.ref C5) "__getattr__" = some none)
    (xd5 : W.mroIn K C5 (.type "BaseException") = some true)
    (xe5 : W.mroIn K C5 (.type "object") = some true)
    (xf5 : W.hasDictIn K C5 = true)
    (xg5 : W.findIn K (.ref C5) "__class__" = some (some (.builtin "object.__class__")))
    (xh5 : W.findIn K (.ref C5) "__setattr__" = some (some (.builtin "object.__setattr__")))
    (p5 : W.keepIn K (.ref C5) = true)
    (x6 : K.lookup C6 = some (excClassObj nm6 qn6 C6 xn6 bs6 veMro hdct6 sn6 sub6 ab6 col6 dd6 k06 k16 k26 k36 k56 "ValueError.__new__"))
    (xa6 : W.findIn K (.ref C6) "__getattribute__" = some (some (.builtin "BaseException.__getattribute__")))
    (xb6 : W.findIn K (.ref C6) "__getattr__" = some none)
    (xd6 : W.mroIn K C6 (.type "BaseException") = some true)
    (xe6 : W.mroIn K C6 (.type "object") = some true)
    (xf6 : W.hasDictIn K C6 = true)
    (xg6 : W.findIn K (.ref C6) "__class__" = some (some (.builtin "object.__class__")))
    (xh6 : W.findIn K (.ref C6) "__setattr__" = some (some (.builtin "object.__setattr__")))
    (p6 : W.keepIn K (.ref C6) = true)
    (y0 : W.findIn K (.ref C0) "found" = some none)
    (y1 : W.findIn K (.ref C1) "name" = some none)
    (y2 : W.findIn K (.ref C2) "found" = some none)
    (y3 : W.findIn K (.ref C3) "found" = some none)
    (y4 : W.findIn K (.ref C4) "many" = some none)
    (y5 : W.findIn K (.ref C5) "at" = some none)
    (mo0 : W.mroIn K C0 (.ref C6) = some true)
    (mo1 : W.mroIn K C1 (.ref C6) = some true)
    (mo2 : W.mroIn K C2 (.ref C6) = some true)
    (mo3 : W.mroIn K C3 (.ref C6) = some true)
    (mo4 : W.mroIn K C4 (.ref C6) = some true)
    (mo5 : W.mroIn K C5 (.ref C6) = some true)
    (nd : ([C0, C1, C2, C3, C4, C5] ++ [C6]).Nodup)
    (r1 : W.readsIn K C6 (.type "type") = true)
    (r2 : W.findCls K (.ref C6) (.type "type") "__init__" = some (.val (.ref g_i6)))
    (r3 : W.specialIn K (.ref C6) "__getattribute__" = some (some (.builtin "type.__getattribute__")))
    (v1 : W.findIn K (.type "type") "__getattribute__" = some (some (.builtin "type.__getattribute__")))
    (v3 : W.subIn K (.type "type") (.type "type") = some true)
    (v4 : W.findCls K (.type "ValueError") (.type "type") "__init__" = some (.val (.builtin "ValueError.__init__")))
    (w1 : W.plainGet K Cw Str.empty = true)
    (w2 : W.hasDictIn K Cw = true)
    (w3 : W.plainOver K Cw = true)
    (w4 : W.findIn K (.ref Cw) "__setattr__" = some (some (.builtin "object.__setattr__")))
    (w5 : W.makesIn K Cw = true)
    (w6 : W.keepIn K (.ref Cw) = true)
    (w7 : W.findIn K (.ref Cw) "numbers" = some none)
    (w8 : W.findIn K (.ref Cw) "order" = some none)
    (w9 : W.findIn K (.ref Cw) "near" = some none)
    (w16 : W.specialIn K (.builtin "object.__class__") "__get__" = some (some (.builtin "getset_descriptor.__get__")))
    (w17 : W.takesIn K (.builtin "object.__class__") = some true)
    (z0 : W.nsIn K mainGlobals "len" = some none)
    (z1 : W.nsIn K mainGlobals "int" = some none)
    (z2 : W.nsIn K mainGlobals "enumerate" = some none)
    (z3 : W.nsIn K mainGlobals "all" = some none)
    (z4 : W.nsIn K mainGlobals "max" = some none)
    (z5 : W.nsIn K mainGlobals "min" = some none)
    (z6 : W.nsIn K mainGlobals "isinstance" = some none)
    (z7 : W.nsIn K mainGlobals "bool" = some none)
    (z8 : W.nsIn K mainGlobals "str" = some none)
    (z9 : W.nsIn K mainGlobals "range" = some none)
    (z10 : W.nsIn K mainGlobals "list" = some none)
    (z11 : W.nsIn K mainGlobals "tuple" = some none)
    (z12 : W.nsIn K mainGlobals "ValueError" = some none)
    (u0 : W.nsIn K mainGlobals "LONGEST_NAME" = some (some (.int 6 ty0)))
    (u1 : W.nsIn K mainGlobals "MOST_PLACES" = some (some (.int 14 ty1)))
    (u2 : W.nsIn K mainGlobals "MOST_TIES" = some (some (.int 30 ty2))) :
    ∃ fd : FuncData, (∀ (s : Shared) (v : Value), BindsTo s fd ⟨[v], []⟩ [("_law_script", v)]) ∧ ∀ base : Heap, K.In base → base.Ns mainGlobals mg → FnOk l.prog w K mg base CX0 10 fa fd ["_law_script"] (spLaw K) := by
  have e := hfa.symm.trans (W.mg_of X G a_Qaw)
  cases e
  have X0 : XL K C0 (.ref C6 :: veMro) := ⟨_, _, _, _, _, _, _, _, _, _, _, _, _, _, _, x0⟩
  have X1 : XL K C1 (.ref C6 :: veMro) := ⟨_, _, _, _, _, _, _, _, _, _, _, _, _, _, _, x1⟩
  have X2 : XL K C2 (.ref C6 :: veMro) := ⟨_, _, _, _, _, _, _, _, _, _, _, _, _, _, _, x2⟩
  have X3 : XL K C3 (.ref C6 :: veMro) := ⟨_, _, _, _, _, _, _, _, _, _, _, _, _, _, _, x3⟩
  have X4 : XL K C4 (.ref C6 :: veMro) := ⟨_, _, _, _, _, _, _, _, _, _, _, _, _, _, _, x4⟩
  have X5 : XL K C5 (.ref C6 :: veMro) := ⟨_, _, _, _, _, _, _, _, _, _, _, _, _, _, _, x5⟩
  have X6 : XL K C6 veMro := ⟨_, _, _, _, _, _, _, _, _, _, _, _, _, _, _, x6⟩
  have Y0 : XAt K C0 := X0.xat xmro_on xa0 xb0 xd0 xe0 xf0 xg0 w16 w17 xh0
  have Y1 : XAt K C1 := X1.xat xmro_on xa1 xb1 xd1 xe1 xf1 xg1 w16 w17 xh1
  have Y2 : XAt K C2 := X2.xat xmro_on xa2 xb2 xd2 xe2 xf2 xg2 w16 w17 xh2
  have Y3 : XAt K C3 := X3.xat xmro_on xa3 xb3 xd3 xe3 xf3 xg3 w16 w17 xh3
  have Y4 : XAt K C4 := X4.xat xmro_on xa4 xb4 xd4 xe4 xf4 xg4 w16 w17 xh4
  have Y5 : XAt K C5 := X5.xat xmro_on xa5 xb5 xd5 xe5 xf5 xg5 w16 w17 xh5
  have Y6 : XAt K C6 := X6.xat xmro_ve xa6 xb6 xd6 xe6 xf6 xg6 w16 w17 xh6
  obtain ⟨kt1, kt2, kt3, kt4⟩ := kits nd (fun i hi => match i, hi with | 0, _ => X0 | 1, _ => X1 | 2, _ => X2 | 3, _ => X3 | 4, _ => X4 | 5, _ => X5 | n + 6, h => absurd h (by simp only [List.length_cons, List.length_nil]; omega)) X6
  have wcl : Cls K Cw := ⟨w1, w2, w3, w4⟩
  have T : Txt K mg (fun i => ([C0, C1, C2, C3, C4, C5] : List Addr).getD i C6) Cw := ⟨W.mg_none_of X G z0,
    W.mg_none_of X G z1,
    W.mg_none_of X G z2,
    W.mg_none_of X G z3,
    W.mg_none_of X G z4,
    W.mg_none_of X G z5,
    W.mg_none_of X G z6,
    W.mg_none_of X G z7,
    W.mg_none_of X G z8,
    W.mg_none_of X G z9,
    W.mg_none_of X G z10,
    W.mg_none_of X G z11,
    W.mg_none_of X G z12,
    ⟨ty0, W.mg_of X G u0⟩,
    ⟨ty1, W.mg_of X G u1⟩,
    ⟨ty2, W.mg_of X G u2⟩,
    W.mg_of X G C0_,
    W.mg_of X G C1_,
    W.mg_of X G C2_,
    W.mg_of X G C3_,
    W.mg_of X G C4_,
    W.mg_of X G C5_,
    W.mg_of X G C6_,
    ⟨v1, v3, v4⟩,
    fun i hi => match i, hi with | 0, _ => Y0 | 1, _ => Y1 | 2, _ => Y2 | 3, _ => Y3 | 4, _ => Y4 | 5, _ => Y5 | 6, _ => Y6 | n + 7, h => absurd h (by omega),
    fun i hi => match i, hi with | 0, _ => y0 | 1, _ => y1 | 2, _ => y2 | 3, _ => y3 | 4, _ => y4 | 5, _ => y5 | n + 6, h => absurd h (by omega),
    kt1,
    kt3,
    fun i hi => match i, hi with | 0, _ => mo0 | 1, _ => mo1 | 2, _ => mo2 | 3, _ => mo3 | 4, _ => mo4 | 5, _ => mo5 | n + 6, h => absurd h (by omega),
    wcl,
    w7,
    w8,
    w9⟩
  have F_Qae := fun_mk (st := s_is_name) l_Qae c_Qae k_Qae
  have b_Qae := F_Qae.binds (ps := ["thing"]) fun _ _ _ _ _ _ us hl => match us, hl with | [_], _ => rfl
  have F_Qad := fun_mk (st := s_has_bit) l_Qad c_Qad k_Qad
  have b_Qad := F_Qad.binds (ps := ["bits", "number"]) fun _ _ _ _ _ _ us hl => match us, hl with | [_, _], _ => rfl
  have F_Qaf := fun_mk (st := s_is_place) l_Qaf c_Qaf k_Qaf
  have b_Qaf := F_Qaf.binds (ps := ["numbers", "thing"]) fun _ _ _ _ _ _ us hl => match us, hl with | [_, _], _ => rfl
  have F_Qab := fun_mk (st := s_are_two_places) l_Qab c_Qab k_Qab
  have b_Qab := F_Qab.binds (ps := ["numbers", "thing"]) fun _ _ _ _ _ _ us hl => match us, hl with | [_, _], _ => rfl
  have F_Qay := fun_mk (st := s_numbers_of) l_Qay c_Qay k_Qay
  have b_Qay := F_Qay.binds (ps := ["names"]) fun _ _ _ _ _ _ us hl => match us, hl with | [_], _ => rfl
  have F_Qax := fun_mk (st := s_near_of) l_Qax c_Qax k_Qax
  have b_Qax := F_Qax.binds (ps := ["numbers", "ties"]) fun _ _ _ _ _ _ us hl => match us, hl with | [_, _], _ => rfl
  have F_Qaz := fun_mk (st := s_read_web) l_Qaz c_Qaz k_Qaz
  have b_Qaz := F_Qaz.binds (ps := ["text"]) fun _ _ _ _ _ _ us hl => match us, hl with | [_], _ => rfl
  have F_Qac := fun_mk (st := s_first_words) l_Qac c_Qac k_Qac
  have b_Qac := F_Qac.binds (ps := ["lines"]) fun _ _ _ _ _ _ us hl => match us, hl with | [_], _ => rfl
  have F_Qba := fun_mk (st := s_ties_in) l_Qba c_Qba k_Qba
  have b_Qba := F_Qba.binds (ps := ["lines", "numbers"]) fun _ _ _ _ _ _ us hl => match us, hl with | [_, _], _ => rfl
  have F_Qaa := fun_mk (st := s_are_farther_below) l_Qaa c_Qaa k_Qaa
  have b_Qaa := F_Qaa.binds (ps := ["names", "at", "numbers"]) fun _ _ _ _ _ _ us hl => match us, hl with | [_, _, _], _ => rfl
  have F_Qah := fun_mk (st := s_l_cell) l_Qah c_Qah k_Qah
  have b_Qah := F_Qah.binds (ps := ["_law_script", "_law_k"]) fun _ _ _ _ _ _ us hl => match us, hl with | [_, _], _ => rfl
  have F_Qag := fun_mk (st := s_l_box) l_Qag c_Qag k_Qag
  have b_Qag := F_Qag.binds (ps := ["_law_cell_here"]) fun _ _ _ _ _ _ us hl => match us, hl with | [_], _ => rfl
  have F_Qau := fun_mk (st := s_l_take) l_Qau c_Qau k_Qau
  have b_Qau := F_Qau.binds (ps := ["_law_box_here", "_law_many"]) fun _ _ _ _ _ _ us hl => match us, hl with | [_, _], _ => rfl
  have F_Qao := fun_mk (st := s_l_names) l_Qao c_Qao k_Qao
  have b_Qao := F_Qao.binds (ps := ["_law_box_here", "_law_many"]) fun _ _ _ _ _ _ us hl => match us, hl with | [_, _], _ => rfl
  have F_Qav := fun_mk (st := s_l_ties) l_Qav c_Qav k_Qav
  have b_Qav := F_Qav.binds (ps := ["_law_box_here", "_law_names_here"]) fun _ _ _ _ _ _ us hl => match us, hl with | [_, _], _ => rfl
  have F_Qai := fun_mk (st := s_l_drawn) l_Qai c_Qai k_Qai
  have b_Qai := F_Qai.binds (ps := ["_law_box_here", "_law_most"]) fun _ _ _ _ _ _ us hl => match us, hl with | [_, _], _ => rfl
  have F_Qaq := fun_mk (st := s_l_rising) l_Qaq c_Qaq k_Qaq
  have b_Qaq := F_Qaq.binds (ps := ["_law_names_here", "_law_ties_here"]) fun _ _ _ _ _ _ us hl => match us, hl with | [_, _], _ => rfl
  have F_Qam := fun_mk (st := s_l_lines) l_Qam c_Qam k_Qam
  have b_Qam := F_Qam.binds (ps := ["_law_names_here", "_law_ties_here"]) fun _ _ _ _ _ _ us hl => match us, hl with | [_, _], _ => rfl
  have F_Qal := fun_mk (st := s_l_is_name) l_Qal c_Qal k_Qal
  have b_Qal := F_Qal.binds (ps := ["_law_word"]) fun _ _ _ _ _ _ us hl => match us, hl with | [_], _ => rfl
  have F_Qat := fun_mk (st := s_l_tail) l_Qat c_Qat k_Qat
  have b_Qat := F_Qat.binds (ps := ["_law_words", "_law_at", "_law_line"]) fun _ _ _ _ _ _ us hl => match us, hl with | [_, _, _], _ => rfl
  have F_Qaj := fun_mk (st := s_l_due) l_Qaj c_Qaj k_Qaj
  have b_Qaj := F_Qaj.binds (ps := ["_law_text"]) fun _ _ _ _ _ _ us hl => match us, hl with | [_], _ => rfl
  have F_Qar := fun_mk (st := s_l_sign) l_Qar c_Qar k_Qar
  have b_Qar := F_Qar.binds (ps := ["_law_box_here"]) fun _ _ _ _ _ _ us hl => match us, hl with | [_], _ => rfl
  have F_Qan := fun_mk (st := s_l_moved) l_Qan c_Qan k_Qan
  have b_Qan := F_Qan.binds (ps := ["_law_box_here", "_law_some"]) fun _ _ _ _ _ _ us hl => match us, hl with | [_, _], _ => rfl
  have F_Qas := fun_mk (st := s_l_spoilt) l_Qas c_Qas k_Qas
  have b_Qas := F_Qas.binds (ps := ["_law_box_here", "_law_text"]) fun _ _ _ _ _ _ us hl => match us, hl with | [_, _], _ => rfl
  have F_Qap := fun_mk (st := s_l_read) l_Qap c_Qap k_Qap
  have b_Qap := F_Qap.binds (ps := ["_law_thing"]) fun _ _ _ _ _ _ us hl => match us, hl with | [_], _ => rfl
  have F_Qak := fun_mk (st := s_l_great) l_Qak c_Qak k_Qak
  have b_Qak := F_Qak.binds (ps := ["_law_box_here"]) fun _ _ _ _ _ _ us hl => match us, hl with | [_], _ => rfl
  have F_Qaw := fun_mk (st := s_law) l_Qaw c_Qaw k_Qaw
  have F_i0 := fun_mk (st := s_NoName_init) l_i0 c_i0 k_i0
  have b_i0 := F_i0.binds (ps := ["self", "found"]) fun _ _ _ _ _ _ us hl => match us, hl with | [_, _], _ => rfl
  have F_i1 := fun_mk (st := s_Twice_init) l_i1 c_i1 k_i1
  have b_i1 := F_i1.binds (ps := ["self", "name"]) fun _ _ _ _ _ _ us hl => match us, hl with | [_, _], _ => rfl
  have F_i2 := fun_mk (st := s_NoPlace_init) l_i2 c_i2 k_i2
  have b_i2 := F_i2.binds (ps := ["self", "found"]) fun _ _ _ _ _ _ us hl => match us, hl with | [_, _], _ => rfl
  have F_i3 := fun_mk (st := s_NoTie_init) l_i3 c_i3 k_i3
  have b_i3 := F_i3.binds (ps := ["self", "found"]) fun _ _ _ _ _ _ us hl => match us, hl with | [_, _], _ => rfl
  have F_i4 := fun_mk (st := s_TooMany_init) l_i4 c_i4 k_i4
  have b_i4 := F_i4.binds (ps := ["self", "many"]) fun _ _ _ _ _ _ us hl => match us, hl with | [_, _], _ => rfl
  have F_i5 := fun_mk (st := s_NoText_init) l_i5 c_i5 k_i5
  have b_i5 := F_i5.binds (ps := ["self", "at"]) fun _ _ _ _ _ _ us hl => match us, hl with | [_, _], _ => rfl
  have F_i6 := fun_mk (st := s_OnceError_init) l_i6 c_i6 k_i6
  have b_i6 := F_i6.binds (ps := ["self", "text"]) fun _ _ _ _ _ _ us hl => match us, hl with | [_, _], _ => rfl
  have F_iw := fun_mk (st := s_Web_init) l_iw c_iw k_iw
  have b_iw := F_iw.binds (ps := ["self", "names", "ties"]) fun _ _ _ _ _ _ us hl => match us, hl with | [_, _, _], _ => rfl
  have F_Qbg := fun_mk (st := s_Web_ties) l_Qbg c_Qbg k_Qbg
  have b_Qbg := F_Qbg.binds (ps := ["self"]) fun _ _ _ _ _ _ us hl => match us, hl with | [_], _ => rfl
  have F_Qbd := fun_mk (st := s_Web_has_place) l_Qbd c_Qbd k_Qbd
  have b_Qbd := F_Qbd.binds (ps := ["self", "thing"]) fun _ _ _ _ _ _ us hl => match us, hl with | [_, _], _ => rfl
  have F_Qbf := fun_mk (st := s_Web_number_of) l_Qbf c_Qbf k_Qbf
  have b_Qbf := F_Qbf.binds (ps := ["self", "place"]) fun _ _ _ _ _ _ us hl => match us, hl with | [_, _], _ => rfl
  have F_Qbb := fun_mk (st := s_Web_beside) l_Qbb c_Qbb k_Qbb
  have b_Qbb := F_Qbb.binds (ps := ["self", "place"]) fun _ _ _ _ _ _ us hl => match us, hl with | [_, _], _ => rfl
  have F_Qbc := fun_mk (st := s_Web_bits_beside) l_Qbc c_Qbc k_Qbc
  have b_Qbc := F_Qbc.binds (ps := ["self", "place"]) fun _ _ _ _ _ _ us hl => match us, hl with | [_, _], _ => rfl
  have F_Qbh := fun_mk (st := s_Web_told) l_Qbh c_Qbh k_Qbh
  have b_Qbh := F_Qbh.binds (ps := ["self"]) fun _ _ _ _ _ _ us hl => match us, hl with | [_], _ => rfl
  have F_Qbe := fun_mk (st := s_Web_names_in) l_Qbe c_Qbe k_Qbe
  have b_Qbe := F_Qbe.binds (ps := ["self", "bits"]) fun _ _ _ _ _ _ us hl => match us, hl with | [_, _], _ => rfl
  refine ⟨W.fnOf "law" "law" (defArgs s_law) (defBody s_law) (defScope s_law) .none kV_Qaw dc_Qaw pm_Qaw an_Qaw cd_Qaw ct_Qaw, fun s v => .of_eq rfl, fun base _ _ => ?_⟩
  have mk_is_name : ∀ {CX : CXT} {k : Nat} {sp : Sp}, FnOk l.prog w K mg base CX k _ _ ["thing"] sp → DefOk l.prog w K mg base CX k "is_name" ["thing"] sp := fun h => ⟨_, _, h, W.mg_of X G a_Qae, F_Qae.kp, b_Qae⟩
  have mk_has_bit : ∀ {CX : CXT} {k : Nat} {sp : Sp}, FnOk l.prog w K mg base CX k _ _ ["bits", "number"] sp → DefOk l.prog w K mg base CX k "has_bit" ["bits", "number"] sp := fun h => ⟨_, _, h, W.mg_of X G a_Qad, F_Qad.kp, b_Qad⟩
  have mk_is_place : ∀ {CX : CXT} {k : Nat} {sp : Sp}, FnOk l.prog w K mg base CX k _ _ ["numbers", "thing"] sp → DefOk l.prog w K mg base CX k "is_place" ["numbers", "thing"] sp := fun h => ⟨_, _, h, W.mg_of X G a_Qaf, F_Qaf.kp, b_Qaf⟩
  have mk_are_two_places : ∀ {CX : CXT} {k : Nat} {sp : Sp}, FnOk l.prog w K mg base CX k _ _ ["numbers", "thing"] sp → DefOk l.prog w K mg base CX k "are_two_places" ["numbers", "thing"] sp := fun h => ⟨_, _, h, W.mg_of X G a_Qab, F_Qab.kp, b_Qab⟩
  have mk_numbers_of : ∀ {CX : CXT} {k : Nat} {sp : Sp}, FnOk l.prog w K mg base CX k _ _ ["names"] sp → DefOk l.prog w K mg base CX k "numbers_of" ["names"] sp := fun h => ⟨_, _, h, W.mg_of X G a_Qay, F_Qay.kp, b_Qay⟩
  have mk_near_of : ∀ {CX : CXT} {k : Nat} {sp : Sp}, FnOk l.prog w K mg base CX k _ _ ["numbers", "ties"] sp → DefOk l.prog w K mg base CX k "near_of" ["numbers", "ties"] sp := fun h => ⟨_, _, h, W.mg_of X G a_Qax, F_Qax.kp, b_Qax⟩
  have mk_read_web : ∀ {CX : CXT} {k : Nat} {sp : Sp}, FnOk l.prog w K mg base CX k _ _ ["text"] sp → DefOk l.prog w K mg base CX k "read_web" ["text"] sp := fun h => ⟨_, _, h, W.mg_of X G a_Qaz, F_Qaz.kp, b_Qaz⟩
  have mk_first_words : ∀ {CX : CXT} {k : Nat} {sp : Sp}, FnOk l.prog w K mg base CX k _ _ ["lines"] sp → DefOk l.prog w K mg base CX k "first_words" ["lines"] sp := fun h => ⟨_, _, h, W.mg_of X G a_Qac, F_Qac.kp, b_Qac⟩
  have mk_ties_in : ∀ {CX : CXT} {k : Nat} {sp : Sp}, FnOk l.prog w K mg base CX k _ _ ["lines", "numbers"] sp → DefOk l.prog w K mg base CX k "ties_in" ["lines", "numbers"] sp := fun h => ⟨_, _, h, W.mg_of X G a_Qba, F_Qba.kp, b_Qba⟩
  have mk_are_farther_below : ∀ {CX : CXT} {k : Nat} {sp : Sp}, FnOk l.prog w K mg base CX k _ _ ["names", "at", "numbers"] sp → DefOk l.prog w K mg base CX k "are_farther_below" ["names", "at", "numbers"] sp := fun h => ⟨_, _, h, W.mg_of X G a_Qaa, F_Qaa.kp, b_Qaa⟩
  have mk_l_cell : ∀ {CX : CXT} {k : Nat} {sp : Sp}, FnOk l.prog w K mg base CX k _ _ ["_law_script", "_law_k"] sp → DefOk l.prog w K mg base CX k "_law_cell" ["_law_script", "_law_k"] sp := fun h => ⟨_, _, h, W.mg_of X G a_Qah, F_Qah.kp, b_Qah⟩
  have mk_l_box : ∀ {CX : CXT} {k : Nat} {sp : Sp}, FnOk l.prog w K mg base CX k _ _ ["_law_cell_here"] sp → DefOk l.prog w K mg base CX k "_law_box" ["_law_cell_here"] sp := fun h => ⟨_, _, h, W.mg_of X G a_Qag, F_Qag.kp, b_Qag⟩
  have mk_l_take : ∀ {CX : CXT} {k : Nat} {sp : Sp}, FnOk l.prog w K mg base CX k _ _ ["_law_box_here", "_law_many"] sp → DefOk l.prog w K mg base CX k "_law_take" ["_law_box_here", "_law_many"] sp := fun h => ⟨_, _, h, W.mg_of X G a_Qau, F_Qau.kp, b_Qau⟩
  have mk_l_names : ∀ {CX : CXT} {k : Nat} {sp : Sp}, FnOk l.prog w K mg base CX k _ _ ["_law_box_here", "_law_many"] sp → DefOk l.prog w K mg base CX k "_law_names" ["_law_box_here", "_law_many"] sp := fun h => ⟨_, _, h, W.mg_of X G a_Qao, F_Qao.kp, b_Qao⟩
  have mk_l_ties : ∀ {CX : CXT} {k : Nat} {sp : Sp}, FnOk l.prog w K mg base CX k _ _ ["_law_box_here", "_law_names_here"] sp → DefOk l.prog w K mg base CX k "_law_ties" ["_law_box_here", "_law_names_here"] sp := fun h => ⟨_, _, h, W.mg_of X G a_Qav, F_Qav.kp, b_Qav⟩
  have mk_l_drawn : ∀ {CX : CXT} {k : Nat} {sp : Sp}, FnOk l.prog w K mg base CX k _ _ ["_law_box_here", "_law_most"] sp → DefOk l.prog w K mg base CX k "_law_drawn" ["_law_box_here", "_law_most"] sp := fun h => ⟨_, _, h, W.mg_of X G a_Qai, F_Qai.kp, b_Qai⟩
  have mk_l_rising : ∀ {CX : CXT} {k : Nat} {sp : Sp}, FnOk l.prog w K mg base CX k _ _ ["_law_names_here", "_law_ties_here"] sp → DefOk l.prog w K mg base CX k "_law_rising" ["_law_names_here", "_law_ties_here"] sp := fun h => ⟨_, _, h, W.mg_of X G a_Qaq, F_Qaq.kp, b_Qaq⟩
  have mk_l_lines : ∀ {CX : CXT} {k : Nat} {sp : Sp}, FnOk l.prog w K mg base CX k _ _ ["_law_names_here", "_law_ties_here"] sp → DefOk l.prog w K mg base CX k "_law_lines" ["_law_names_here", "_law_ties_here"] sp := fun h => ⟨_, _, h, W.mg_of X G a_Qam, F_Qam.kp, b_Qam⟩
  have mk_l_is_name : ∀ {CX : CXT} {k : Nat} {sp : Sp}, FnOk l.prog w K mg base CX k _ _ ["_law_word"] sp → DefOk l.prog w K mg base CX k "_law_is_name" ["_law_word"] sp := fun h => ⟨_, _, h, W.mg_of X G a_Qal, F_Qal.kp, b_Qal⟩
  have mk_l_tail : ∀ {CX : CXT} {k : Nat} {sp : Sp}, FnOk l.prog w K mg base CX k _ _ ["_law_words", "_law_at", "_law_line"] sp → DefOk l.prog w K mg base CX k "_law_tail" ["_law_words", "_law_at", "_law_line"] sp := fun h => ⟨_, _, h, W.mg_of X G a_Qat, F_Qat.kp, b_Qat⟩
  have mk_l_due : ∀ {CX : CXT} {k : Nat} {sp : Sp}, FnOk l.prog w K mg base CX k _ _ ["_law_text"] sp → DefOk l.prog w K mg base CX k "_law_due" ["_law_text"] sp := fun h => ⟨_, _, h, W.mg_of X G a_Qaj, F_Qaj.kp, b_Qaj⟩
  have mk_l_sign : ∀ {CX : CXT} {k : Nat} {sp : Sp}, FnOk l.prog w K mg base CX k _ _ ["_law_box_here"] sp → DefOk l.prog w K mg base CX k "_law_sign" ["_law_box_here"] sp := fun h => ⟨_, _, h, W.mg_of X G a_Qar, F_Qar.kp, b_Qar⟩
  have mk_l_moved : ∀ {CX : CXT} {k : Nat} {sp : Sp}, FnOk l.prog w K mg base CX k _ _ ["_law_box_here", "_law_some"] sp → DefOk l.prog w K mg base CX k "_law_moved" ["_law_box_here", "_law_some"] sp := fun h => ⟨_, _, h, W.mg_of X G a_Qan, F_Qan.kp, b_Qan⟩
  have mk_l_spoilt : ∀ {CX : CXT} {k : Nat} {sp : Sp}, FnOk l.prog w K mg base CX k _ _ ["_law_box_here", "_law_text"] sp → DefOk l.prog w K mg base CX k "_law_spoilt" ["_law_box_here", "_law_text"] sp := fun h => ⟨_, _, h, W.mg_of X G a_Qas, F_Qas.kp, b_Qas⟩
  have mk_l_read : ∀ {CX : CXT} {k : Nat} {sp : Sp}, FnOk l.prog w K mg base CX k _ _ ["_law_thing"] sp → DefOk l.prog w K mg base CX k "_law_read" ["_law_thing"] sp := fun h => ⟨_, _, h, W.mg_of X G a_Qap, F_Qap.kp, b_Qap⟩
  have mk_l_great : ∀ {CX : CXT} {k : Nat} {sp : Sp}, FnOk l.prog w K mg base CX k _ _ ["_law_box_here"] sp → DefOk l.prog w K mg base CX k "_law_great" ["_law_box_here"] sp := fun h => ⟨_, _, h, W.mg_of X G a_Qak, F_Qak.kp, b_Qak⟩
  have mm_ties : ∀ {CX : CXT} {k : Nat} {sp : Sp}, FnOk l.prog w K mg base CX k _ _ ["self"] sp → MethOk l.prog w K mg base CX k Cw "ties" ["self"] sp := fun h => ⟨⟨_, _, h, ⟨a_Qbg, n_Qbg, k_Qbg⟩, b_Qbg⟩, wcl⟩
  have mm_has_place : ∀ {CX : CXT} {k : Nat} {sp : Sp}, FnOk l.prog w K mg base CX k _ _ ["self", "thing"] sp → MethOk l.prog w K mg base CX k Cw "has_place" ["self", "thing"] sp := fun h => ⟨⟨_, _, h, ⟨a_Qbd, n_Qbd, k_Qbd⟩, b_Qbd⟩, wcl⟩
  have mm_number_of : ∀ {CX : CXT} {k : Nat} {sp : Sp}, FnOk l.prog w K mg base CX k _ _ ["self", "place"] sp → MethOk l.prog w K mg base CX k Cw "number_of" ["self", "place"] sp := fun h => ⟨⟨_, _, h, ⟨a_Qbf, n_Qbf, k_Qbf⟩, b_Qbf⟩, wcl⟩
  have mm_beside : ∀ {CX : CXT} {k : Nat} {sp : Sp}, FnOk l.prog w K mg base CX k _ _ ["self", "place"] sp → MethOk l.prog w K mg base CX k Cw "beside" ["self", "place"] sp := fun h => ⟨⟨_, _, h, ⟨a_Qbb, n_Qbb, k_Qbb⟩, b_Qbb⟩, wcl⟩
  have mm_bits_beside : ∀ {CX : CXT} {k : Nat} {sp : Sp}, FnOk l.prog w K mg base CX k _ _ ["self", "place"] sp → MethOk l.prog w K mg base CX k Cw "bits_beside" ["self", "place"] sp := fun h => ⟨⟨_, _, h, ⟨a_Qbc, n_Qbc, k_Qbc⟩, b_Qbc⟩, wcl⟩
  have mm_told : ∀ {CX : CXT} {k : Nat} {sp : Sp}, FnOk l.prog w K mg base CX k _ _ ["self"] sp → MethOk l.prog w K mg base CX k Cw "told" ["self"] sp := fun h => ⟨⟨_, _, h, ⟨a_Qbh, n_Qbh, k_Qbh⟩, b_Qbh⟩, wcl⟩
  have mm_names_in : ∀ {CX : CXT} {k : Nat} {sp : Sp}, FnOk l.prog w K mg base CX k _ _ ["self", "bits"] sp → MethOk l.prog w K mg base CX k Cw "names_in" ["self", "bits"] sp := fun h => ⟨⟨_, _, h, ⟨a_Qbe, n_Qbe, k_Qbe⟩, b_Qbe⟩, wcl⟩
  have once := ok_once (P := l.prog) (w := w) (base := base) F_i6 T
  have d_once : CMethOk l.prog w K mg base CX0 1 C6 "OnceError" "__init__" ["self", "text"] (spOnce K) := ⟨⟨_, _, once, ⟨r1, r2, r3, k_i6⟩, b_i6⟩, W.mg_of X G C6_⟩
  have d0 : XMakeOk l.prog w K mg base 2 C0 "NoName" ["self", "found"] (spX C0 (fldn 0)) := ⟨⟨_, _, ok_NoName (P := l.prog) (w := w) (base := base) F_i0 T d_once, ⟨Y0, a_i0, n_i0, p0⟩, b_i0⟩, W.mg_of X G C0_⟩
  have d1 : XMakeOk l.prog w K mg base 2 C1 "Twice" ["self", "name"] (spX C1 (fldn 1)) := ⟨⟨_, _, ok_Twice (P := l.prog) (w := w) (base := base) F_i1 T d_once, ⟨Y1, a_i1, n_i1, p1⟩, b_i1⟩, W.mg_of X G C1_⟩
  have d2 : XMakeOk l.prog w K mg base 2 C2 "NoPlace" ["self", "found"] (spX C2 (fldn 2)) := ⟨⟨_, _, ok_NoPlace (P := l.prog) (w := w) (base := base) F_i2 T d_once, ⟨Y2, a_i2, n_i2, p2⟩, b_i2⟩, W.mg_of X G C2_⟩
  have d3 : XMakeOk l.prog w K mg base 2 C3 "NoTie" ["self", "found"] (spX C3 (fldn 3)) := ⟨⟨_, _, ok_NoTie (P := l.prog) (w := w) (base := base) F_i3 T d_once, ⟨Y3, a_i3, n_i3, p3⟩, b_i3⟩, W.mg_of X G C3_⟩
  have d4 : XMakeOk l.prog w K mg base 2 C4 "TooMany" ["self", "many"] (spX C4 (fldn 4)) := ⟨⟨_, _, ok_TooMany (P := l.prog) (w := w) (base := base) F_i4 T d_once, ⟨Y4, a_i4, n_i4, p4⟩, b_i4⟩, W.mg_of X G C4_⟩
  have d5 : XMakeOk l.prog w K mg base 2 C5 "NoText" ["self", "at"] (spX C5 (fldn 5)) := ⟨⟨_, _, ok_NoText (P := l.prog) (w := w) (base := base) F_i5 T d_once, ⟨Y5, a_i5, n_i5, p5⟩, b_i5⟩, W.mg_of X G C5_⟩
  have d_take := mk_l_take (ok_take F_Qau)
  have d_name := mk_is_name (ok_name F_Qae T)
  have d_place := mk_is_place (ok_place F_Qaf d_name)
  have d_two := mk_are_two_places (ok_two F_Qab T d_place)
  have d_bit := mk_has_bit (ok_bit F_Qad)
  have d_nums := mk_numbers_of (ok_nums F_Qay T d_name d0 d1 d4)
  have d_near := mk_near_of (ok_near F_Qax T d_two d_bit d3 d4)
  have o_web := ok_web F_iw T d_nums d_near
  have q_web : MakeOk l.prog w K mg base CX0 5 Cw "Web" ["self", "names", "ties"] (fun vs H Q _ => spWeb (fun i => ([C0, C1, C2, C3, C4, C5] : List Addr).getD i C6) Cw vs H Q E0) := ⟨⟨_, _, o_web.quiet, ⟨w5, a_iw, n_iw, w6⟩, b_iw⟩, W.mg_of X G Cw_⟩
  have m_web : MakeOk l.prog w K mg base (CX1 l.prog w) 5 Cw "Web" ["self", "names", "ties"] (spWeb (fun i => ([C0, C1, C2, C3, C4, C5] : List Addr).getD i C6) Cw) := ⟨⟨_, _, o_web, ⟨w5, a_iw, n_iw, w6⟩, b_iw⟩, W.mg_of X G Cw_⟩
  have m_has := mm_has_place (ok_has F_Qbd T d_place)
  have o_num := ok_num F_Qbf T m_has d2
  have m_num := mm_number_of o_num
  have q_num := mm_number_of o_num.quiet
  have o_bb := ok_bb F_Qbc T m_num
  have m_bb := mm_bits_beside o_bb
  have m_nin := mm_names_in (ok_nin F_Qbe T d_bit)
  have o_bs := ok_bs F_Qbb T m_bb m_nin
  have m_bs := mm_beside o_bs
  have q_bs := mm_beside o_bs.quiet
  have m_ts := mm_ties (ok_ts F_Qbg T q_bs)
  have m_told := mm_told (ok_told F_Qbh T m_ts)
  have d_fw := mk_first_words (ok_fw F_Qac T d_name d5)
  have d_bel := mk_are_farther_below (ok_bel F_Qaa T)
  have d_ti := mk_ties_in (ok_ti F_Qba T d_bel d5)
  have o_read := ok_read F_Qaz T d_fw d_ti m_web d5
  have d_read := mk_read_web o_read
  have d_names := mk_l_names (ok_names F_Qao T d_take)
  have d_ties := mk_l_ties (ok_ties F_Qav T d_take)
  have d_drawn := mk_l_drawn (ok_drawn F_Qai d_take d_names d_ties)
  have d_ris := mk_l_rising (ok_ris F_Qaq)
  have d_lns := mk_l_lines (ok_lns F_Qam)
  have d_isn := mk_l_is_name (ok_isn F_Qal T)
  have d_tail := mk_l_tail (ok_tail F_Qat T)
  have d_due := mk_l_due (ok_due F_Qaj T d_isn d_tail)
  have d_sign := mk_l_sign (ok_sign F_Qar T d_take)
  have d_moved := mk_l_moved (ok_moved F_Qan T d_take)
  have d_spoilt := mk_l_spoilt (ok_spoilt F_Qas T d_take d_sign d_moved)
  have d_lread := mk_l_read (ok_lread F_Qap T d_read m_told)
  have d_great := mk_l_great (ok_great F_Qak T d_take d_lns)
  exact ok_law6 F_Qaw T (mk_l_cell (ok_cell F_Qah T)) (mk_l_box (ok_box F_Qag)) d_take d_drawn d_ris d_lns d_great d_spoilt d_lread d_due
theorem walk {l : PySem.W.OpenLaw} {q : Program} {loose : List Str} {XP : (Str → Option Value) → Heap → Prop} {YP : World → Heap → Prop} {d : DefRec} {K : Params → PySem.W.Frag} (hn : l.most = some 63) (hdf : d.params.defaults = [])
    (hY : ∀ (w : World) (h : Heap), YP w h → (K w.params).In h)
    (F : ∀ (w : World) (mg : Str → Option Value) (fa : Addr) (h : Heap), (K w.params).In h → h.Ns mainGlobals mg → mg d.name = some (.ref fa) →
      ∃ fd : FuncData, (∀ (s : Shared) (u : Value), BindsTo s fd ⟨[u], []⟩ [("_law_script", u)]) ∧ ∀ base : Heap, (K w.params).In base → base.Ns mainGlobals mg → FnOk l.prog w (K w.params) mg base CX0 10 fa fd ["_law_script"] (spLaw (K w.params))) :
    PySem.W.WalkO q loose XP YP l.row.toRowW d [] (fun f vs => PySem.call f vs) :=
  L2.walk_of (n := 63) (k := 10) (x := "_law_script") (CX := fun _ => CX0) (sp := fun w => spLaw (K w.params)) hn (by decide) hdf ⟨rfl, by decide, by decide⟩ hY F (fun _ _ a ns hl _ hS => ⟨a, ns, rfl, hS, hl, fun _ => rfl⟩) fun _ _ _ _ _ z => z
end K06
namespace Hd
open PySem PySem.W PySem.Calls PyProof.Rows
def runT (tb : String → Option Builtin) (p : Program) (w : World) (n₀ : Nat) (ann : Option Value) : Nat → SharedT → Thread → Option SharedT
  | 0, _, _ => none
  | n + 1, s, t => match through t with
    | true => some s
    | false => match stepOk n₀ ann t with
      | false => none
      | true => match stepT (denote tb) p w s t with
        | some (s', t') => runT tb p w n₀ ann n s' t'
        | none => none
theorem run_of {tb : String → Option Builtin} {p : Program} {w : World} {n₀ : Nat} {ann : Option Value} : ∀ {n : Nat} {s s' : SharedT} {t : Thread}, runT tb p w n₀ ann n s t = some s' → topRun tb p w n₀ ann n s.abs t = some s'.abs
  | 0, _, _, _, h => by cases h
  | n + 1, s, s', t, h => by
    unfold runT at h
    unfold topRun
    cases he : through t with
    | true => rw [he] at h; cases h; rfl
    | false =>
      rw [he] at h
      cases hk : stepOk n₀ ann t with
      | false => rw [hk] at h; cases h
      | true =>
        rw [hk] at h
        cases hs : stepT (denote tb) p w s t with
        | none => rw [hs] at h; cases h
        | some r => obtain ⟨s₂, t₂⟩ := r; rw [hs] at h; rw [stepT_spec hs]; exact run_of h
def treeIns : List Obj → Nat → BT → BT
  | [], _, t => t
  | o :: r, n, t => treeIns r (n + 1) (t.ins n o)
noncomputable def bootT (P : Params) (os : OsState) : SharedT := ⟨treeIns (boot_heap P).objs.toList 0 .nil, (boot_heap P).objs.size, (boot_heap P).life, Array.mk [], boot_drawn, boot_toks, os⟩
theorem boot_abs (P : Params) : absHeap (treeIns (boot_heap P).objs.toList 0 .nil) (boot_heap P).objs.size (boot_heap P).life = boot_heap P := by kernel_rfl
noncomputable def lookT (p q : Program) (Xt : Shared → Bool) {α : Type} (Yf : Shared → α) (N : Nat) (w : World) (os : OsState) := match (boot_heap w.params).isNs mainGlobals && (Array.mk [] : Array GenState).size == 0 with
  | true => (runT treeTable p w (boot_heap w.params).objs.size ((boot_heap w.params).nsMap mainGlobals "__annotations__") N (bootT w.params os) (topStub p)).bind fun s => match staticsOk (importedModules p.main.body) (boot_heap w.params) s.abs.heap && namesBound p s.abs.heap && gensDone s.abs && laidKept (boot_heap w.params) s.abs.heap with
      | true => some (openSeen q [] (importedModules p.main.body) Xt true s.abs, Yf s.abs)
      | false => none
  | false => none
theorem left_of {p q : Program} {Xt : Shared → Bool} {α : Type} {Yf : Shared → α} {Ya : World → α} {N : Nat} (e : opening p = plainProg p.main.scope.names) (hN : Nat.ble 600 N = true) (f : ∀ s, fenceModules? p s = some s)
    (h : ∀ w os, lookT p q Xt Yf N w os = some (openGood q [], Ya w)) : LeftO p q [] Xt Yf Ya N := fun w => by
  obtain ⟨⟨h0, gs, d, k, os⟩, e1, e2⟩ := Option.map_eq_some_iff.mp (boot_open e hN f w)
  obtain ⟨rfl, rfl, rfl, rfl⟩ : h0 = boot_heap w.params ∧ gs = Array.mk [] ∧ d = boot_drawn ∧ k = boot_toks := by simpa using e2
  have hh := h w os
  unfold lookT at hh
  unfold openEnds
  rw [e1]
  show (topFrom treeTable p w N _).map _ = _
  unfold topFrom
  dsimp only
  split at hh
  · rename_i z
    rw [z]
    obtain ⟨s, hs, q2⟩ := Option.bind_eq_some_iff.mp hh
    have r := run_of hs
    have ba : (bootT w.params os).abs = ⟨boot_heap w.params, Array.mk [], boot_drawn, boot_toks, os⟩ := by
      unfold bootT SharedT.abs
      dsimp only
      rw [boot_abs]
    rw [ba] at r
    dsimp only
    rw [r]
    split at q2
    · rename_i z2
      show ((match staticsOk (importedModules p.main.body) (boot_heap w.params) s.abs.heap && namesBound p s.abs.heap && gensDone s.abs && laidKept (boot_heap w.params) s.abs.heap with | true => some s.abs | false => none) : Option Shared).map _ = _
      rw [z2]
      exact q2
    · cases q2
  · cases hh
end Hd
namespace K06
open PySem L2 PyProof.Rows PySem.W
abbrev NN : Nat := 20000
noncomputable def Q : Program := view PySem.Challenge.pw_onceroad_k06_web_texts_refused [0, 2, 3, 4, 5, 6, 7, 8, 10, 11, 13, 14, 15, 16, 17, 18, 19, 20, 22, 23, 24, 25, 27, 28, 29, 30, 31, 32, 33, 34, 35, 36, 37, 38, 39, 40, 41, 42, 43, 44, 45]
def en (P : Params) (k : Str) (t : Tok) (v : Value) : DictEntry := ⟨PyData.keyHash P k, .str k t, v⟩
noncomputable def Kf (P : Params) : Frag :=
  (nat_lit 2, (⟨.none, none, .dict #[] 0, #[]⟩ : Obj)) ::
  (nat_lit 3, (⟨(.type "dict"), none, .dict #[en P "__name__" 165 (.str "law_onceroad_k06_web_texts_refused" 633), en P "__doc__" 166 .none, en P "__package__" 167 .none, en P "__loader__" 168 (.builtin "__main__.__loader__#opaque"), en P "__spec__" 169 .none, en P "__annotations__" 170 (.ref 6), en P "__builtins__" 171 (.ref 4), en P "__file__" 173 (.str "/claim/cut.py" 172), en P "__cached__" 174 .none, en P "_wall" 193 (.ref 21), en P "OnceError" 221 (.ref 38), en P "NoName" 246 (.ref 58), en P "Twice" 271 (.ref 77), en P "NoPlace" 296 (.ref 96), en P "NoTie" 321 (.ref 115), en P "TooMany" 346 (.ref 134), en P "NoText" 371 (.ref 153), en P "LONGEST_NAME" 375 (.int 6 374), en P "is_name" 381 (.ref 160), en P "MOST_PLACES" 385 (.int 14 384), en P "MOST_TIES" 387 (.int 30 386), en P "Web" 546 (.ref 287), en P "has_bit" 554 (.ref 298), en P "is_place" 562 (.ref 305), en P "are_two_places" 571 (.ref 312), en P "numbers_of" 580 (.ref 319), en P "near_of" 592 (.ref 326), en P "read_web" 603 (.ref 333), en P "first_words" 615 (.ref 340), en P "ties_in" 621 (.ref 345), en P "are_farther_below" 632 (.ref 352), en P "_law_cell" 642 (.ref 359), en P "_law_box" 649 (.ref 366), en P "_law_take" 658 (.ref 373), en P "_law_names" 664 (.ref 378), en P "_law_ties" 676 (.ref 385), en P "_law_drawn" 686 (.ref 392), en P "_law_shuffled" 692 (.ref 397), en P "_law_fresh" 698 (.ref 402), en P "_law_rising" 704 (.ref 407), en P "_law_lines" 710 (.ref 412), en P "_law_is_name" 716 (.ref 417), en P "_law_tail" 729 (.ref 424), en P "_law_due" 735 (.ref 429), en P "_law_sign" 743 (.ref 436), en P "_law_moved" 755 (.ref 443), en P "_law_spoilt" 768 (.ref 450), en P "_law_read" 778 (.ref 457), en P "_law_great" 784 (.ref 462), en P "law" 799 (.ref 469)] 50, #[]⟩ : Obj)) ::
  (nat_lit 34, (⟨(.type "code"), none, .fields #[(.str "__init__" 208), (.str "OnceError.__init__" 209), (.str "/claim/cut.py" 210), (.int 7 0), (.int 2 0), (.int 0 0), (.int 0 0), (.int 3 0), (.ref 29), (.bool true), (.int 181 0), (.ref 30), .none, (.ref 31), (.ref 32), (.ref 33), (.int 213 0), (.int 7 0), (.str "/claim/cut.py" 214)], #[]⟩ : Obj)) ::
  (nat_lit 35, (⟨(.type "function"), none, .func (fnOf "__init__" "OnceError.__init__" (defArgs s_OnceError_init) (defBody s_OnceError_init) (defScope s_OnceError_init) .none .none .none (.str "onceroad.errors" 194) none (.ref 34) .none), #[]⟩ : Obj)) ::
  (nat_lit 37, (⟨(.type "dict"), none, .dict #[en P "__module__" 203 (.str "onceroad.errors" 194), en P "__firstlineno__" 207 (.int 5 206), en P "__init__" 215 (.ref 35), en P "__static_attributes__" 216 (.ref 36), en P "__weakref__" 218 (.ref 39), en P "__doc__" 219 .none] 3, #[]⟩ : Obj)) ::
  (nat_lit 38, (⟨(.type "type"), none, .cls { name := "OnceError", bases := [(.type "ValueError")], mro := [(.ref 38), (.type "ValueError"), (.type "Exception"), (.type "BaseException"), (.type "object")], ns := 37, qualname := "OnceError", hasDict := true, slotNames := [], subclasses := [(.ref 58), (.ref 77), (.ref 96), (.ref 115), (.ref 134), (.ref 153)], abstract := false, collection := none, hasDel := false }, #[(some (.ref 22)), none, (some (.str "OnceError" 196)), (some (.str "OnceError" 204)), (some (.builtin "ValueError.__new__")), (some (.bool true))]⟩ : Obj)) ::
  (nat_lit 54, (⟨(.type "code"), none, .fields #[(.str "__init__" 234), (.str "NoName.__init__" 235), (.str "/claim/cut.py" 236), (.int 11 0), (.int 2 0), (.int 0 0), (.int 0 0), (.int 3 0), (.ref 49), (.bool true), (.int 181 0), (.ref 50), .none, (.ref 51), (.ref 52), (.ref 53), (.int 239 0), (.int 11 0), (.str "/claim/cut.py" 240)], #[]⟩ : Obj)) ::
  (nat_lit 55, (⟨(.type "function"), none, .func (fnOf "__init__" "NoName.__init__" (defArgs s_NoName_init) (defBody s_NoName_init) (defScope s_NoName_init) .none .none .none (.str "onceroad.errors" 194) none (.ref 54) .none), #[]⟩ : Obj)) ::
  (nat_lit 57, (⟨(.type "dict"), none, .dict #[en P "__module__" 229 (.str "onceroad.errors" 194), en P "__firstlineno__" 233 (.int 9 232), en P "__init__" 241 (.ref 55), en P "__static_attributes__" 243 (.ref 56), en P "__doc__" 244 .none] 2, #[]⟩ : Obj)) ::
  (nat_lit 58, (⟨(.type "type"), none, .cls { name := "NoName", bases := [(.ref 38)], mro := [(.ref 58), (.ref 38), (.type "ValueError"), (.type "Exception"), (.type "BaseException"), (.type "object")], ns := 57, qualname := "NoName", hasDict := true, slotNames := [], subclasses := [], abstract := false, collection := none, hasDel := false }, #[(some (.ref 42)), none, (some (.str "NoName" 222)), (some (.str "NoName" 230)), (some (.builtin "ValueError.__new__")), (some (.bool true))]⟩ : Obj)) ::
  (nat_lit 73, (⟨(.type "code"), none, .fields #[(.str "__init__" 259), (.str "Twice.__init__" 260), (.str "/claim/cut.py" 261), (.int 16 0), (.int 2 0), (.int 0 0), (.int 0 0), (.int 3 0), (.ref 68), (.bool true), (.int 181 0), (.ref 69), .none, (.ref 70), (.ref 71), (.ref 72), (.int 264 0), (.int 16 0), (.str "/claim/cut.py" 265)], #[]⟩ : Obj)) ::
  (nat_lit 74, (⟨(.type "function"), none, .func (fnOf "__init__" "Twice.__init__" (defArgs s_Twice_init) (defBody s_Twice_init) (defScope s_Twice_init) .none .none .none (.str "onceroad.errors" 194) none (.ref 73) .none), #[]⟩ : Obj)) ::
  (nat_lit 76, (⟨(.type "dict"), none, .dict #[en P "__module__" 254 (.str "onceroad.errors" 194), en P "__firstlineno__" 258 (.int 14 257), en P "__init__" 266 (.ref 74), en P "__static_attributes__" 268 (.ref 75), en P "__doc__" 269 .none] 2, #[]⟩ : Obj)) ::
  (nat_lit 77, (⟨(.type "type"), none, .cls { name := "Twice", bases := [(.ref 38)], mro := [(.ref 77), (.ref 38), (.type "ValueError"), (.type "Exception"), (.type "BaseException"), (.type "object")], ns := 76, qualname := "Twice", hasDict := true, slotNames := [], subclasses := [], abstract := false, collection := none, hasDel := false }, #[(some (.ref 61)), none, (some (.str "Twice" 247)), (some (.str "Twice" 255)), (some (.builtin "ValueError.__new__")), (some (.bool true))]⟩ : Obj)) ::
  (nat_lit 92, (⟨(.type "code"), none, .fields #[(.str "__init__" 284), (.str "NoPlace.__init__" 285), (.str "/claim/cut.py" 286), (.int 21 0), (.int 2 0), (.int 0 0), (.int 0 0), (.int 3 0), (.ref 87), (.bool true), (.int 181 0), (.ref 88), .none, (.ref 89), (.ref 90), (.ref 91), (.int 289 0), (.int 21 0), (.str "/claim/cut.py" 290)], #[]⟩ : Obj)) ::
  (nat_lit 93, (⟨(.type "function"), none, .func (fnOf "__init__" "NoPlace.__init__" (defArgs s_NoPlace_init) (defBody s_NoPlace_init) (defScope s_NoPlace_init) .none .none .none (.str "onceroad.errors" 194) none (.ref 92) .none), #[]⟩ : Obj)) ::
  (nat_lit 95, (⟨(.type "dict"), none, .dict #[en P "__module__" 279 (.str "onceroad.errors" 194), en P "__firstlineno__" 283 (.int 19 282), en P "__init__" 291 (.ref 93), en P "__static_attributes__" 293 (.ref 94), en P "__doc__" 294 .none] 2, #[]⟩ : Obj)) ::
  (nat_lit 96, (⟨(.type "type"), none, .cls { name := "NoPlace", bases := [(.ref 38)], mro := [(.ref 96), (.ref 38), (.type "ValueError"), (.type "Exception"), (.type "BaseException"), (.type "object")], ns := 95, qualname := "NoPlace", hasDict := true, slotNames := [], subclasses := [], abstract := false, collection := none, hasDel := false }, #[(some (.ref 80)), none, (some (.str "NoPlace" 272)), (some (.str "NoPlace" 280)), (some (.builtin "ValueError.__new__")), (some (.bool true))]⟩ : Obj)) ::
  (nat_lit 111, (⟨(.type "code"), none, .fields #[(.str "__init__" 309), (.str "NoTie.__init__" 310), (.str "/claim/cut.py" 311), (.int 26 0), (.int 2 0), (.int 0 0), (.int 0 0), (.int 3 0), (.ref 106), (.bool true), (.int 181 0), (.ref 107), .none, (.ref 108), (.ref 109), (.ref 110), (.int 314 0), (.int 26 0), (.str "/claim/cut.py" 315)], #[]⟩ : Obj)) ::
  (nat_lit 112, (⟨(.type "function"), none, .func (fnOf "__init__" "NoTie.__init__" (defArgs s_NoTie_init) (defBody s_NoTie_init) (defScope s_NoTie_init) .none .none .none (.str "onceroad.errors" 194) none (.ref 111) .none), #[]⟩ : Obj)) ::
  (nat_lit 114, (⟨(.type "dict"), none, .dict #[en P "__module__" 304 (.str "onceroad.errors" 194), en P "__firstlineno__" 308 (.int 24 307), en P "__init__" 316 (.ref 112), en P "__static_attributes__" 318 (.ref 113), en P "__doc__" 319 .none] 2, #[]⟩ : Obj)) ::
  (nat_lit 115, (⟨(.type "type"), none, .cls { name := "NoTie", bases := [(.ref 38)], mro := [(.ref 115), (.ref 38), (.type "ValueError"), (.type "Exception"), (.type "BaseException"), (.type "object")], ns := 114, qualname := "NoTie", hasDict := true, slotNames := [], subclasses := [], abstract := false, collection := none, hasDel := false }, #[(some (.ref 99)), none, (some (.str "NoTie" 297)), (some (.str "NoTie" 305)), (some (.builtin "ValueError.__new__")), (some (.bool true))]⟩ : Obj)) ::
  (nat_lit 130, (⟨(.type "code"), none, .fields #[(.str "__init__" 334), (.str "TooMany.__init__" 335), (.str "/claim/cut.py" 336), (.int 31 0), (.int 2 0), (.int 0 0), (.int 0 0), (.int 3 0), (.ref 125), (.bool true), (.int 181 0), (.ref 126), .none, (.ref 127), (.ref 128), (.ref 129), (.int 339 0), (.int 31 0), (.str "/claim/cut.py" 340)], #[]⟩ : Obj)) ::
  (nat_lit 131, (⟨(.type "function"), none, .func (fnOf "__init__" "TooMany.__init__" (defArgs s_TooMany_init) (defBody s_TooMany_init) (defScope s_TooMany_init) .none .none .none (.str "onceroad.errors" 194) none (.ref 130) .none), #[]⟩ : Obj)) ::
  (nat_lit 133, (⟨(.type "dict"), none, .dict #[en P "__module__" 329 (.str "onceroad.errors" 194), en P "__firstlineno__" 333 (.int 29 332), en P "__init__" 341 (.ref 131), en P "__static_attributes__" 343 (.ref 132), en P "__doc__" 344 .none] 2, #[]⟩ : Obj)) ::
  (nat_lit 134, (⟨(.type "type"), none, .cls { name := "TooMany", bases := [(.ref 38)], mro := [(.ref 134), (.ref 38), (.type "ValueError"), (.type "Exception"), (.type "BaseException"), (.type "object")], ns := 133, qualname := "TooMany", hasDict := true, slotNames := [], subclasses := [], abstract := false, collection := none, hasDel := false }, #[(some (.ref 118)), none, (some (.str "TooMany" 322)), (some (.str "TooMany" 330)), (some (.builtin "ValueError.__new__")), (some (.bool true))]⟩ : Obj)) ::
  (nat_lit 149, (⟨(.type "code"), none, .fields #[(.str "__init__" 359), (.str "NoText.__init__" 360), (.str "/claim/cut.py" 361), (.int 36 0), (.int 2 0), (.int 0 0), (.int 0 0), (.int 3 0), (.ref 144), (.bool true), (.int 181 0), (.ref 145), .none, (.ref 146), (.ref 147), (.ref 148), (.int 364 0), (.int 36 0), (.str "/claim/cut.py" 365)], #[]⟩ : Obj)) ::
  (nat_lit 150, (⟨(.type "function"), none, .func (fnOf "__init__" "NoText.__init__" (defArgs s_NoText_init) (defBody s_NoText_init) (defScope s_NoText_init) .none .none .none (.str "onceroad.errors" 194) none (.ref 149) .none), #[]⟩ : Obj)) ::
  (nat_lit 152, (⟨(.type "dict"), none, .dict #[en P "__module__" 354 (.str "onceroad.errors" 194), en P "__firstlineno__" 358 (.int 34 357), en P "__init__" 366 (.ref 150), en P "__static_attributes__" 368 (.ref 151), en P "__doc__" 369 .none] 2, #[]⟩ : Obj)) ::
  (nat_lit 153, (⟨(.type "type"), none, .cls { name := "NoText", bases := [(.ref 38)], mro := [(.ref 153), (.ref 38), (.type "ValueError"), (.type "Exception"), (.type "BaseException"), (.type "object")], ns := 152, qualname := "NoText", hasDict := true, slotNames := [], subclasses := [], abstract := false, collection := none, hasDel := false }, #[(some (.ref 137)), none, (some (.str "NoText" 347)), (some (.str "NoText" 355)), (some (.builtin "ValueError.__new__")), (some (.bool true))]⟩ : Obj)) ::
  (nat_lit 159, (⟨(.type "code"), none, .fields #[(.str "is_name" 376), (.str "is_name" 377), (.str "/claim/cut.py" 378), (.int 41 0), (.int 1 0), (.int 0 0), (.int 0 0), (.int 3 0), (.ref 156), (.bool true), (.int 181 0), (.ref 157), .none, .none, .none, (.ref 158), (.int 379 0), (.int 41 0), (.str "/claim/cut.py" 380)], #[]⟩ : Obj)) ::
  (nat_lit 160, (⟨(.type "function"), none, .func (fnOf "is_name" "is_name" (defArgs s_is_name) (defBody s_is_name) (defScope s_is_name) .none .none .none (.str "onceroad.names" 372) none (.ref 159) .none), #[]⟩ : Obj)) ::
  (nat_lit 173, (⟨(.type "code"), none, .fields #[(.str "__init__" 400), (.str "Web.__init__" 401), (.str "/claim/cut.py" 402), (.int 50 0), (.int 3 0), (.int 0 0), (.int 0 0), (.int 3 0), (.ref 168), (.bool true), (.int 181 0), (.ref 169), .none, (.ref 170), (.ref 171), (.ref 172), (.int 406 0), (.int 50 0), (.str "/claim/cut.py" 407)], #[]⟩ : Obj)) ::
  (nat_lit 174, (⟨(.type "function"), none, .func (fnOf "__init__" "Web.__init__" (defArgs s_Web_init) (defBody s_Web_init) (defScope s_Web_init) .none .none .none (.str "onceroad.webs" 382) none (.ref 173) .none), #[]⟩ : Obj)) ::
  (nat_lit 187, (⟨(.type "code"), none, .fields #[(.str "ties" 416), (.str "Web.ties" 417), (.str "/claim/cut.py" 418), (.int 58 0), (.int 1 0), (.int 0 0), (.int 0 0), (.int 3 0), (.ref 182), (.bool true), (.int 181 0), (.ref 183), .none, (.ref 184), (.ref 185), (.ref 186), (.int 423 0), (.int 58 0), (.str "/claim/cut.py" 424)], #[]⟩ : Obj)) ::
  (nat_lit 188, (⟨(.type "function"), none, .func (fnOf "ties" "Web.ties" (defArgs s_Web_ties) (defBody s_Web_ties) (defScope s_Web_ties) .none .none .none (.str "onceroad.webs" 382) none (.ref 187) .none), #[]⟩ : Obj)) ::
  (nat_lit 201, (⟨(.type "code"), none, .fields #[(.str "has_place" 433), (.str "Web.has_place" 434), (.str "/claim/cut.py" 435), (.int 69 0), (.int 2 0), (.int 0 0), (.int 0 0), (.int 3 0), (.ref 196), (.bool true), (.int 181 0), (.ref 197), .none, (.ref 198), (.ref 199), (.ref 200), (.int 438 0), (.int 69 0), (.str "/claim/cut.py" 439)], #[]⟩ : Obj)) ::
  (nat_lit 202, (⟨(.type "function"), none, .func (fnOf "has_place" "Web.has_place" (defArgs s_Web_has_place) (defBody s_Web_has_place) (defScope s_Web_has_place) .none .none .none (.str "onceroad.webs" 382) none (.ref 201) .none), #[]⟩ : Obj)) ::
  (nat_lit 215, (⟨(.type "code"), none, .fields #[(.str "number_of" 449), (.str "Web.number_of" 450), (.str "/claim/cut.py" 451), (.int 75 0), (.int 2 0), (.int 0 0), (.int 0 0), (.int 3 0), (.ref 210), (.bool true), (.int 181 0), (.ref 211), .none, (.ref 212), (.ref 213), (.ref 214), (.int 454 0), (.int 75 0), (.str "/claim/cut.py" 455)], #[]⟩ : Obj)) ::
  (nat_lit 216, (⟨(.type "function"), none, .func (fnOf "number_of" "Web.number_of" (defArgs s_Web_number_of) (defBody s_Web_number_of) (defScope s_Web_number_of) .none .none .none (.str "onceroad.webs" 382) none (.ref 215) .none), #[]⟩ : Obj)) ::
  (nat_lit 222, (⟨(.type "code"), none, .fields #[(.str "beside" 457), (.str "Web.beside" 458), (.str "/claim/cut.py" 459), (.int 80 0), (.int 2 0), (.int 0 0), (.int 0 0), (.int 3 0), (.ref 217), (.bool true), (.int 181 0), (.ref 218), .none, (.ref 219), (.ref 220), (.ref 221), (.int 462 0), (.int 80 0), (.str "/claim/cut.py" 463)], #[]⟩ : Obj)) ::
  (nat_lit 223, (⟨(.type "function"), none, .func (fnOf "beside" "Web.beside" (defArgs s_Web_beside) (defBody s_Web_beside) (defScope s_Web_beside) .none .none .none (.str "onceroad.webs" 382) none (.ref 222) .none), #[]⟩ : Obj)) ::
  (nat_lit 229, (⟨(.type "code"), none, .fields #[(.str "bits_beside" 465), (.str "Web.bits_beside" 466), (.str "/claim/cut.py" 467), (.int 83 0), (.int 2 0), (.int 0 0), (.int 0 0), (.int 3 0), (.ref 224), (.bool true), (.int 181 0), (.ref 225), .none, (.ref 226), (.ref 227), (.ref 228), (.int 470 0), (.int 83 0), (.str "/claim/cut.py" 471)], #[]⟩ : Obj)) ::
  (nat_lit 230, (⟨(.type "function"), none, .func (fnOf "bits_beside" "Web.bits_beside" (defArgs s_Web_bits_beside) (defBody s_Web_bits_beside) (defScope s_Web_bits_beside) .none .none .none (.str "onceroad.webs" 382) none (.ref 229) .none), #[]⟩ : Obj)) ::
  (nat_lit 250, (⟨(.type "code"), none, .fields #[(.str "told" 489), (.str "Web.told" 490), (.str "/claim/cut.py" 491), (.int 92 0), (.int 1 0), (.int 0 0), (.int 0 0), (.int 3 0), (.ref 245), (.bool true), (.int 181 0), (.ref 246), .none, (.ref 247), (.ref 248), (.ref 249), (.int 493 0), (.int 92 0), (.str "/claim/cut.py" 494)], #[]⟩ : Obj)) ::
  (nat_lit 251, (⟨(.type "function"), none, .func (fnOf "told" "Web.told" (defArgs s_Web_told) (defBody s_Web_told) (defScope s_Web_told) .none .none .none (.str "onceroad.webs" 382) none (.ref 250) .none), #[]⟩ : Obj)) ::
  (nat_lit 255, (⟨(.type "code"), none, .fields #[(.str "names_in" 496), (.str "Web.names_in" 497), (.str "/claim/cut.py" 498), (.int 95 0), (.int 2 0), (.int 0 0), (.int 0 0), (.int 3 0), (.ref 252), (.bool true), (.int 181 0), (.ref 253), .none, .none, .none, (.ref 254), (.int 499 0), (.int 95 0), (.str "/claim/cut.py" 500)], #[]⟩ : Obj)) ::
  (nat_lit 256, (⟨(.type "function"), none, .func (fnOf "names_in" "Web.names_in" (defArgs s_Web_names_in) (defBody s_Web_names_in) (defScope s_Web_names_in) .none .none .none (.str "onceroad.webs" 382) none (.ref 255) .none), #[]⟩ : Obj)) ::
  (nat_lit 286, (⟨(.type "dict"), none, .dict #[en P "__module__" 395 (.str "onceroad.webs" 382), en P "__firstlineno__" 399 (.int 48 398), en P "__init__" 408 (.ref 174), en P "places" 415 (.ref 181), en P "ties" 425 (.ref 188), en P "how_many" 432 (.ref 195), en P "has_place" 440 (.ref 202), en P "has_tie" 448 (.ref 209), en P "number_of" 456 (.ref 216), en P "beside" 464 (.ref 223), en P "bits_beside" 472 (.ref 230), en P "tied" 481 (.ref 237), en P "pieces" 488 (.ref 244), en P "told" 495 (.ref 251), en P "names_in" 501 (.ref 256), en P "without" 509 (.ref 263), en P "with_place" 517 (.ref 270), en P "with_tie" 526 (.ref 277), en P "without_tie" 535 (.ref 284), en P "__static_attributes__" 539 (.ref 285), en P "__dict__" 541 (.ref 288), en P "__weakref__" 543 (.ref 289), en P "__doc__" 544 .none] 4, #[]⟩ : Obj)) ::
  (nat_lit 287, (⟨(.type "type"), none, .cls { name := "Web", bases := [(.type "object")], mro := [(.ref 287), (.type "object")], ns := 286, qualname := "Web", hasDict := true, slotNames := [], subclasses := [], abstract := false, collection := none, hasDel := false }, #[none, none, (some (.str "Web" 388)), (some (.str "Web" 396)), (some (.builtin "object.__new__")), (some (.bool true))]⟩ : Obj)) ::
  (nat_lit 297, (⟨(.type "code"), none, .fields #[(.str "has_bit" 547), (.str "has_bit" 548), (.str "/claim/cut.py" 549), (.int 109 0), (.int 2 0), (.int 0 0), (.int 0 0), (.int 3 0), (.ref 292), (.bool true), (.int 181 0), (.ref 293), .none, (.ref 294), (.ref 295), (.ref 296), (.int 552 0), (.int 109 0), (.str "/claim/cut.py" 553)], #[]⟩ : Obj)) ::
  (nat_lit 298, (⟨(.type "function"), none, .func (fnOf "has_bit" "has_bit" (defArgs s_has_bit) (defBody s_has_bit) (defScope s_has_bit) .none .none .none (.str "onceroad.webs" 382) none (.ref 297) .none), #[]⟩ : Obj)) ::
  (nat_lit 304, (⟨(.type "code"), none, .fields #[(.str "is_place" 555), (.str "is_place" 556), (.str "/claim/cut.py" 557), (.int 111 0), (.int 2 0), (.int 0 0), (.int 0 0), (.int 3 0), (.ref 299), (.bool true), (.int 181 0), (.ref 300), .none, (.ref 301), (.ref 302), (.ref 303), (.int 560 0), (.int 111 0), (.str "/claim/cut.py" 561)], #[]⟩ : Obj)) ::
  (nat_lit 305, (⟨(.type "function"), none, .func (fnOf "is_place" "is_place" (defArgs s_is_place) (defBody s_is_place) (defScope s_is_place) .none .none .none (.str "onceroad.webs" 382) none (.ref 304) .none), #[]⟩ : Obj)) ::
  (nat_lit 311, (⟨(.type "code"), none, .fields #[(.str "are_two_places" 563), (.str "are_two_places" 564), (.str "/claim/cut.py" 565), (.int 113 0), (.int 2 0), (.int 0 0), (.int 0 0), (.int 3 0), (.ref 306), (.bool true), (.int 181 0), (.ref 307), .none, (.ref 308), (.ref 309), (.ref 310), (.int 569 0), (.int 113 0), (.str "/claim/cut.py" 570)], #[]⟩ : Obj)) ::
  (nat_lit 312, (⟨(.type "function"), none, .func (fnOf "are_two_places" "are_two_places" (defArgs s_are_two_places) (defBody s_are_two_places) (defScope s_are_two_places) .none .none .none (.str "onceroad.webs" 382) none (.ref 311) .none), #[]⟩ : Obj)) ::
  (nat_lit 318, (⟨(.type "code"), none, .fields #[(.str "numbers_of" 572), (.str "numbers_of" 573), (.str "/claim/cut.py" 574), (.int 118 0), (.int 1 0), (.int 0 0), (.int 0 0), (.int 3 0), (.ref 313), (.bool true), (.int 181 0), (.ref 314), .none, (.ref 315), (.ref 316), (.ref 317), (.int 578 0), (.int 118 0), (.str "/claim/cut.py" 579)], #[]⟩ : Obj)) ::
  (nat_lit 319, (⟨(.type "function"), none, .func (fnOf "numbers_of" "numbers_of" (defArgs s_numbers_of) (defBody s_numbers_of) (defScope s_numbers_of) .none .none .none (.str "onceroad.webs" 382) none (.ref 318) .none), #[]⟩ : Obj)) ::
  (nat_lit 325, (⟨(.type "code"), none, .fields #[(.str "near_of" 581), (.str "near_of" 582), (.str "/claim/cut.py" 583), (.int 131 0), (.int 2 0), (.int 0 0), (.int 0 0), (.int 3 0), (.ref 320), (.bool true), (.int 181 0), (.ref 321), .none, (.ref 322), (.ref 323), (.ref 324), (.int 590 0), (.int 131 0), (.str "/claim/cut.py" 591)], #[]⟩ : Obj)) ::
  (nat_lit 326, (⟨(.type "function"), none, .func (fnOf "near_of" "near_of" (defArgs s_near_of) (defBody s_near_of) (defScope s_near_of) .none .none .none (.str "onceroad.webs" 382) none (.ref 325) .none), #[]⟩ : Obj)) ::
  (nat_lit 332, (⟨(.type "code"), none, .fields #[(.str "read_web" 595), (.str "read_web" 596), (.str "/claim/cut.py" 597), (.int 148 0), (.int 1 0), (.int 0 0), (.int 0 0), (.int 3 0), (.ref 327), (.bool true), (.int 181 0), (.ref 328), .none, (.ref 329), (.ref 330), (.ref 331), (.int 601 0), (.int 148 0), (.str "/claim/cut.py" 602)], #[]⟩ : Obj)) ::
  (nat_lit 333, (⟨(.type "function"), none, .func (fnOf "read_web" "read_web" (defArgs s_read_web) (defBody s_read_web) (defScope s_read_web) .none .none .none (.str "onceroad.webtext" 593) none (.ref 332) .none), #[]⟩ : Obj)) ::
  (nat_lit 339, (⟨(.type "code"), none, .fields #[(.str "first_words" 604), (.str "first_words" 605), (.str "/claim/cut.py" 606), (.int 156 0), (.int 1 0), (.int 0 0), (.int 0 0), (.int 3 0), (.ref 334), (.bool true), (.int 181 0), (.ref 335), .none, (.ref 336), (.ref 337), (.ref 338), (.int 613 0), (.int 156 0), (.str "/claim/cut.py" 614)], #[]⟩ : Obj)) ::
  (nat_lit 340, (⟨(.type "function"), none, .func (fnOf "first_words" "first_words" (defArgs s_first_words) (defBody s_first_words) (defScope s_first_words) .none .none .none (.str "onceroad.webtext" 593) none (.ref 339) .none), #[]⟩ : Obj)) ::
  (nat_lit 344, (⟨(.type "code"), none, .fields #[(.str "ties_in" 616), (.str "ties_in" 617), (.str "/claim/cut.py" 618), (.int 165 0), (.int 2 0), (.int 0 0), (.int 0 0), (.int 3 0), (.ref 341), (.bool true), (.int 181 0), (.ref 342), .none, .none, .none, (.ref 343), (.int 619 0), (.int 165 0), (.str "/claim/cut.py" 620)], #[]⟩ : Obj)) ::
  (nat_lit 345, (⟨(.type "function"), none, .func (fnOf "ties_in" "ties_in" (defArgs s_ties_in) (defBody s_ties_in) (defScope s_ties_in) .none .none .none (.str "onceroad.webtext" 593) none (.ref 344) .none), #[]⟩ : Obj)) ::
  (nat_lit 351, (⟨(.type "code"), none, .fields #[(.str "are_farther_below" 622), (.str "are_farther_below" 623), (.str "/claim/cut.py" 624), (.int 176 0), (.int 3 0), (.int 0 0), (.int 0 0), (.int 3 0), (.ref 346), (.bool true), (.int 181 0), (.ref 347), .none, (.ref 348), (.ref 349), (.ref 350), (.int 630 0), (.int 176 0), (.str "/claim/cut.py" 631)], #[]⟩ : Obj)) ::
  (nat_lit 352, (⟨(.type "function"), none, .func (fnOf "are_farther_below" "are_farther_below" (defArgs s_are_farther_below) (defBody s_are_farther_below) (defScope s_are_farther_below) .none .none .none (.str "onceroad.webtext" 593) none (.ref 351) .none), #[]⟩ : Obj)) ::
  (nat_lit 358, (⟨(.type "code"), none, .fields #[(.str "_law_cell" 635), (.str "_law_cell" 636), (.str "/claim/cut.py" 637), (.int 184 0), (.int 2 0), (.int 0 0), (.int 0 0), (.int 3 0), (.ref 353), (.bool true), (.int 181 0), (.ref 354), .none, (.ref 355), (.ref 356), (.ref 357), (.int 640 0), (.int 184 0), (.str "/claim/cut.py" 641)], #[]⟩ : Obj)) ::
  (nat_lit 359, (⟨(.type "function"), none, .func (fnOf "_law_cell" "_law_cell" (defArgs s_l_cell) (defBody s_l_cell) (defScope s_l_cell) .none .none .none (.str "law_onceroad_k06_web_texts_refused" 633) none (.ref 358) .none), #[]⟩ : Obj)) ::
  (nat_lit 365, (⟨(.type "code"), none, .fields #[(.str "_law_box" 643), (.str "_law_box" 644), (.str "/claim/cut.py" 645), (.int 188 0), (.int 1 0), (.int 0 0), (.int 0 0), (.int 3 0), (.ref 360), (.bool true), (.int 181 0), (.ref 361), .none, (.ref 362), (.ref 363), (.ref 364), (.int 647 0), (.int 188 0), (.str "/claim/cut.py" 648)], #[]⟩ : Obj)) ::
  (nat_lit 366, (⟨(.type "function"), none, .func (fnOf "_law_box" "_law_box" (defArgs s_l_box) (defBody s_l_box) (defScope s_l_box) .none .none .none (.str "law_onceroad_k06_web_texts_refused" 633) none (.ref 365) .none), #[]⟩ : Obj)) ::
  (nat_lit 372, (⟨(.type "code"), none, .fields #[(.str "_law_take" 650), (.str "_law_take" 651), (.str "/claim/cut.py" 652), (.int 192 0), (.int 2 0), (.int 0 0), (.int 0 0), (.int 3 0), (.ref 367), (.bool true), (.int 181 0), (.ref 368), .none, (.ref 369), (.ref 370), (.ref 371), (.int 656 0), (.int 192 0), (.str "/claim/cut.py" 657)], #[]⟩ : Obj)) ::
  (nat_lit 373, (⟨(.type "function"), none, .func (fnOf "_law_take" "_law_take" (defArgs s_l_take) (defBody s_l_take) (defScope s_l_take) .none .none .none (.str "law_onceroad_k06_web_texts_refused" 633) none (.ref 372) .none), #[]⟩ : Obj)) ::
  (nat_lit 377, (⟨(.type "code"), none, .fields #[(.str "_law_names" 659), (.str "_law_names" 660), (.str "/claim/cut.py" 661), (.int 201 0), (.int 2 0), (.int 0 0), (.int 0 0), (.int 3 0), (.ref 374), (.bool true), (.int 181 0), (.ref 375), .none, .none, .none, (.ref 376), (.int 662 0), (.int 201 0), (.str "/claim/cut.py" 663)], #[]⟩ : Obj)) ::
  (nat_lit 378, (⟨(.type "function"), none, .func (fnOf "_law_names" "_law_names" (defArgs s_l_names) (defBody s_l_names) (defScope s_l_names) .none .none .none (.str "law_onceroad_k06_web_texts_refused" 633) none (.ref 377) .none), #[]⟩ : Obj)) ::
  (nat_lit 384, (⟨(.type "code"), none, .fields #[(.str "_law_ties" 665), (.str "_law_ties" 666), (.str "/claim/cut.py" 667), (.int 215 0), (.int 2 0), (.int 0 0), (.int 0 0), (.int 3 0), (.ref 379), (.bool true), (.int 181 0), (.ref 380), .none, (.ref 381), (.ref 382), (.ref 383), (.int 674 0), (.int 215 0), (.str "/claim/cut.py" 675)], #[]⟩ : Obj)) ::
  (nat_lit 385, (⟨(.type "function"), none, .func (fnOf "_law_ties" "_law_ties" (defArgs s_l_ties) (defBody s_l_ties) (defScope s_l_ties) .none .none .none (.str "law_onceroad_k06_web_texts_refused" 633) none (.ref 384) .none), #[]⟩ : Obj)) ::
  (nat_lit 391, (⟨(.type "code"), none, .fields #[(.str "_law_drawn" 677), (.str "_law_drawn" 678), (.str "/claim/cut.py" 679), (.int 223 0), (.int 2 0), (.int 0 0), (.int 0 0), (.int 3 0), (.ref 386), (.bool true), (.int 181 0), (.ref 387), .none, (.ref 388), (.ref 389), (.ref 390), (.int 684 0), (.int 223 0), (.str "/claim/cut.py" 685)], #[]⟩ : Obj)) ::
  (nat_lit 392, (⟨(.type "function"), none, .func (fnOf "_law_drawn" "_law_drawn" (defArgs s_l_drawn) (defBody s_l_drawn) (defScope s_l_drawn) .none .none .none (.str "law_onceroad_k06_web_texts_refused" 633) none (.ref 391) .none), #[]⟩ : Obj)) ::
  (nat_lit 406, (⟨(.type "code"), none, .fields #[(.str "_law_rising" 699), (.str "_law_rising" 700), (.str "/claim/cut.py" 701), (.int 237 0), (.int 2 0), (.int 0 0), (.int 0 0), (.int 3 0), (.ref 403), (.bool true), (.int 181 0), (.ref 404), .none, .none, .none, (.ref 405), (.int 702 0), (.int 237 0), (.str "/claim/cut.py" 703)], #[]⟩ : Obj)) ::
  (nat_lit 407, (⟨(.type "function"), none, .func (fnOf "_law_rising" "_law_rising" (defArgs s_l_rising) (defBody s_l_rising) (defScope s_l_rising) .none .none .none (.str "law_onceroad_k06_web_texts_refused" 633) none (.ref 406) .none), #[]⟩ : Obj)) ::
  (nat_lit 411, (⟨(.type "code"), none, .fields #[(.str "_law_lines" 705), (.str "_law_lines" 706), (.str "/claim/cut.py" 707), (.int 242 0), (.int 2 0), (.int 0 0), (.int 0 0), (.int 3 0), (.ref 408), (.bool true), (.int 181 0), (.ref 409), .none, .none, .none, (.ref 410), (.int 708 0), (.int 242 0), (.str "/claim/cut.py" 709)], #[]⟩ : Obj)) ::
  (nat_lit 412, (⟨(.type "function"), none, .func (fnOf "_law_lines" "_law_lines" (defArgs s_l_lines) (defBody s_l_lines) (defScope s_l_lines) .none .none .none (.str "law_onceroad_k06_web_texts_refused" 633) none (.ref 411) .none), #[]⟩ : Obj)) ::
  (nat_lit 416, (⟨(.type "code"), none, .fields #[(.str "_law_is_name" 711), (.str "_law_is_name" 712), (.str "/claim/cut.py" 713), (.int 247 0), (.int 1 0), (.int 0 0), (.int 0 0), (.int 3 0), (.ref 413), (.bool true), (.int 181 0), (.ref 414), .none, .none, .none, (.ref 415), (.int 714 0), (.int 247 0), (.str "/claim/cut.py" 715)], #[]⟩ : Obj)) ::
  (nat_lit 417, (⟨(.type "function"), none, .func (fnOf "_law_is_name" "_law_is_name" (defArgs s_l_is_name) (defBody s_l_is_name) (defScope s_l_is_name) .none .none .none (.str "law_onceroad_k06_web_texts_refused" 633) none (.ref 416) .none), #[]⟩ : Obj)) ::
  (nat_lit 423, (⟨(.type "code"), none, .fields #[(.str "_law_tail" 717), (.str "_law_tail" 718), (.str "/claim/cut.py" 719), (.int 249 0), (.int 3 0), (.int 0 0), (.int 0 0), (.int 3 0), (.ref 418), (.bool true), (.int 181 0), (.ref 419), .none, (.ref 420), (.ref 421), (.ref 422), (.int 727 0), (.int 249 0), (.str "/claim/cut.py" 728)], #[]⟩ : Obj)) ::
  (nat_lit 424, (⟨(.type "function"), none, .func (fnOf "_law_tail" "_law_tail" (defArgs s_l_tail) (defBody s_l_tail) (defScope s_l_tail) .none .none .none (.str "law_onceroad_k06_web_texts_refused" 633) none (.ref 423) .none), #[]⟩ : Obj)) ::
  (nat_lit 428, (⟨(.type "code"), none, .fields #[(.str "_law_due" 730), (.str "_law_due" 731), (.str "/claim/cut.py" 732), (.int 262 0), (.int 1 0), (.int 0 0), (.int 0 0), (.int 3 0), (.ref 425), (.bool true), (.int 181 0), (.ref 426), .none, .none, .none, (.ref 427), (.int 733 0), (.int 262 0), (.str "/claim/cut.py" 734)], #[]⟩ : Obj)) ::
  (nat_lit 429, (⟨(.type "function"), none, .func (fnOf "_law_due" "_law_due" (defArgs s_l_due) (defBody s_l_due) (defScope s_l_due) .none .none .none (.str "law_onceroad_k06_web_texts_refused" 633) none (.ref 428) .none), #[]⟩ : Obj)) ::
  (nat_lit 435, (⟨(.type "code"), none, .fields #[(.str "_law_sign" 736), (.str "_law_sign" 737), (.str "/claim/cut.py" 738), (.int 277 0), (.int 1 0), (.int 0 0), (.int 0 0), (.int 3 0), (.ref 430), (.bool true), (.int 181 0), (.ref 431), .none, (.ref 432), (.ref 433), (.ref 434), (.int 741 0), (.int 277 0), (.str "/claim/cut.py" 742)], #[]⟩ : Obj)) ::
  (nat_lit 436, (⟨(.type "function"), none, .func (fnOf "_law_sign" "_law_sign" (defArgs s_l_sign) (defBody s_l_sign) (defScope s_l_sign) .none .none .none (.str "law_onceroad_k06_web_texts_refused" 633) none (.ref 435) .none), #[]⟩ : Obj)) ::
  (nat_lit 442, (⟨(.type "code"), none, .fields #[(.str "_law_moved" 744), (.str "_law_moved" 745), (.str "/claim/cut.py" 746), (.int 280 0), (.int 2 0), (.int 0 0), (.int 0 0), (.int 3 0), (.ref 437), (.bool true), (.int 181 0), (.ref 438), .none, (.ref 439), (.ref 440), (.ref 441), (.int 753 0), (.int 280 0), (.str "/claim/cut.py" 754)], #[]⟩ : Obj)) ::
  (nat_lit 443, (⟨(.type "function"), none, .func (fnOf "_law_moved" "_law_moved" (defArgs s_l_moved) (defBody s_l_moved) (defScope s_l_moved) .none .none .none (.str "law_onceroad_k06_web_texts_refused" 633) none (.ref 442) .none), #[]⟩ : Obj)) ::
  (nat_lit 449, (⟨(.type "code"), none, .fields #[(.str "_law_spoilt" 756), (.str "_law_spoilt" 757), (.str "/claim/cut.py" 758), (.int 292 0), (.int 2 0), (.int 0 0), (.int 0 0), (.int 3 0), (.ref 444), (.bool true), (.int 181 0), (.ref 445), .none, (.ref 446), (.ref 447), (.ref 448), (.int 766 0), (.int 292 0), (.str "/claim/cut.py" 767)], #[]⟩ : Obj)) ::
  (nat_lit 450, (⟨(.type "function"), none, .func (fnOf "_law_spoilt" "_law_spoilt" (defArgs s_l_spoilt) (defBody s_l_spoilt) (defScope s_l_spoilt) .none .none .none (.str "law_onceroad_k06_web_texts_refused" 633) none (.ref 449) .none), #[]⟩ : Obj)) ::
  (nat_lit 456, (⟨(.type "code"), none, .fields #[(.str "_law_read" 769), (.str "_law_read" 770), (.str "/claim/cut.py" 771), (.int 311 0), (.int 1 0), (.int 0 0), (.int 0 0), (.int 3 0), (.ref 451), (.bool true), (.int 181 0), (.ref 452), .none, (.ref 453), (.ref 454), (.ref 455), (.int 776 0), (.int 311 0), (.str "/claim/cut.py" 777)], #[]⟩ : Obj)) ::
  (nat_lit 457, (⟨(.type "function"), none, .func (fnOf "_law_read" "_law_read" (defArgs s_l_read) (defBody s_l_read) (defScope s_l_read) .none .none .none (.str "law_onceroad_k06_web_texts_refused" 633) none (.ref 456) .none), #[]⟩ : Obj)) ::
  (nat_lit 461, (⟨(.type "code"), none, .fields #[(.str "_law_great" 779), (.str "_law_great" 780), (.str "/claim/cut.py" 781), (.int 323 0), (.int 1 0), (.int 0 0), (.int 0 0), (.int 3 0), (.ref 458), (.bool true), (.int 181 0), (.ref 459), .none, .none, .none, (.ref 460), (.int 782 0), (.int 323 0), (.str "/claim/cut.py" 783)], #[]⟩ : Obj)) ::
  (nat_lit 462, (⟨(.type "function"), none, .func (fnOf "_law_great" "_law_great" (defArgs s_l_great) (defBody s_l_great) (defScope s_l_great) .none .none .none (.str "law_onceroad_k06_web_texts_refused" 633) none (.ref 461) .none), #[]⟩ : Obj)) ::
  (nat_lit 468, (⟨(.type "code"), none, .fields #[(.str "law" 785), (.str "law" 786), (.str "/claim/cut.py" 787), (.int 330 0), (.int 1 0), (.int 0 0), (.int 0 0), (.int 3 0), (.ref 463), (.bool true), (.int 181 0), (.ref 464), .none, (.ref 465), (.ref 466), (.ref 467), (.int 797 0), (.int 330 0), (.str "/claim/cut.py" 798)], #[]⟩ : Obj)) ::
  (nat_lit 469, (⟨(.type "function"), none, .func (fnOf "law" "law" (defArgs s_law) (defBody s_law) (defScope s_law) .none .none .none (.str "law_onceroad_k06_web_texts_refused" 633) none (.ref 468) .none), #[]⟩ : Obj)) ::
  []
def ks : List Addr := [2, 3, 34, 35, 37, 38, 54, 55, 57, 58, 73, 74, 76, 77, 92, 93, 95, 96, 111, 112, 114, 115, 130, 131, 133, 134, 149, 150, 152, 153, 159, 160, 173, 174, 187, 188, 201, 202, 215, 216, 222, 223, 229, 230, 250, 251, 255, 256, 286, 287, 297, 298, 304, 305, 311, 312, 318, 319, 325, 326, 332, 333, 339, 340, 344, 345, 351, 352, 358, 359, 365, 366, 372, 373, 377, 378, 384, 385, 391, 392, 406, 407, 411, 412, 416, 417, 423, 424, 428, 429, 435, 436, 442, 443, 449, 450, 456, 457, 461, 462, 468, 469]
theorem ks_eq : ∀ P, ks = (Kf P).map (·.1) := fun P => by kernel_rfl
noncomputable abbrev Hk : Hook := kHook Kf ks ks_eq
noncomputable abbrev Xt (s : Shared) : Bool := xlAt Q [] s && recOk [] s
noncomputable def runAt (w : World) (os : OsState) := Hd.lookT PySem.Challenge.pw_onceroad_k06_web_texts_refused Q Xt (fun s => ks.map s.heap.get?) NN w os
noncomputable def goodAt (w : World) (_ : OsState) := some (openGood Q [], (Kf w.params).map fun p => some p.2)
def tag {α : Type} (f g : World → OsState → α) : Bool := true
theorem tag1 : tag runAt goodAt = true := by k_qdec
theorem hl1 (w : World) (os : OsState) : runAt w os = goodAt w os := by
  rw [PySem.W.Fast.te12449556304319073855, PySem.W.Fast.te11139466053981500771]
  kernel_rfl
theorem hl : LeftO PySem.Challenge.pw_onceroad_k06_web_texts_refused Q [] Xt (Hook.obs Hk) (Hook.val Hk) NN := Hd.left_of (by kernel_rfl) (by decide) (fun s => by kernel_rfl) fun w os => hl1 w os
end K06
set_option maxRecDepth 100000 in
set_option maxHeartbeats 0 in
theorem PySem.Challenge.cw_onceroad_k06_web_texts_refused_holds : PySem.Challenge.rw_onceroad_k06_web_texts_refused.Holds := by
  w_on; o_law
  refine PySem.W.holds_open (q := K06.Q) (loose := []) (Xt := K06.Xt) (XP := PySem.W.XL K06.Q []) (Yf := PySem.W.Hook.obs K06.Hk) (Ya := PySem.W.Hook.val K06.Hk) (YP := PySem.W.Hook.says (PySem.W.kHook K06.Kf K06.ks K06.ks_eq)) (N := K06.NN) K06.hl (PySem.W.Hook.of K06.Hk) (PySem.W.Hook.keeps K06.Hk) (fun s e => PySem.W.xl_of s (Bool.and_eq_true_iff.mp e).1) PySem.W.XL.keeps (by rfl) (by rfl) (by rfl) (fun s e => PySem.W.recFacts_of (Bool.and_eq_true_iff.mp e).2) (by rfl) (by first | assumption | decide +kernel) (by decide +kernel) ⟨rfl, rfl, rfl, rfl, rfl, by decide +kernel⟩ ?hw ?hc
  (case hw => w_witness2)
  k_fill
  refine K06.walk (l := PySem.Challenge.rw_onceroad_k06_web_texts_refused) rfl rfl (fun w h Y => PySem.W.kIn_of Y) ?F
  case F =>
    intro w mg fa h KX G hmg
    refine' K06.all_mk KX G hmg ?_ ?_ ?_ ?_ ?_ ?_ ?_ ?_ ?_ ?_ ?_ ?_ ?_ ?_ ?_ ?_ ?_ ?_ ?_ ?_ ?_ ?_ ?_ ?_ ?_ ?_ ?_ ?_ ?_ ?_ ?_ ?_ ?_ ?_ ?_ ?_ ?_ ?_ ?_ ?_ ?_ ?_ ?_ ?_ ?_ ?_ ?_ ?_ ?_ ?_ ?_ ?_ ?_ ?_ ?_ ?_ ?_ ?_ ?_ ?_ ?_ ?_ ?_ ?_ ?_ ?_ ?_ ?_ ?_ ?_ ?_ ?_ ?_ ?_ ?_ ?_ ?_ ?_ ?_ ?_ ?_ ?_ ?_ ?_ ?_ ?_ ?_ ?_ ?_ ?_ ?_ ?_ ?_ ?_ ?_ ?_ ?_ ?_ ?_ ?_ ?_ ?_ ?_ ?_ ?_ ?_ ?_ ?_ ?_ ?_ ?_ ?_ ?_ ?_ ?_ ?_ ?_ ?_ ?_ ?_ ?_ ?_ ?_ ?_ ?_ ?_ ?_ ?_ ?_ ?_ ?_ ?_ ?_ ?_ ?_ ?_ ?_ ?_ ?_ ?_ ?_ ?_ ?_ ?_ ?_ ?_ ?_ ?_ ?_ ?_ ?_ ?_ ?_ ?_ ?_ ?_ ?_ ?_ ?_ ?_ ?_ ?_ ?_ ?_ ?_ ?_ ?_ ?_ ?_ ?_ ?_ ?_ ?_ ?_ ?_ ?_ ?_ ?_ ?_ ?_ ?_ ?_ ?_ ?_ ?_ ?_ ?_ ?_ ?_ ?_ ?_ ?_ ?_ ?_ ?_ ?_ ?_ ?_ ?_ ?_ ?_ ?_ ?_ ?_ ?_ ?_ ?_ ?_ ?_ ?_ ?_ ?_ ?_ ?_ ?_ ?_ ?_ ?_ ?_ ?_ ?_ ?_ ?_ ?_ ?_ ?_ ?_ ?_ ?_ ?_ ?_ ?_ ?_ ?_ ?_ ?_ ?_ ?_ ?_ ?_ ?_ ?_ ?_ ?_ ?_ ?_ ?_ ?_ ?_ ?_ ?_ ?_ ?_ ?_ ?_ ?_ ?_ ?_ ?_ ?_ ?_ ?_ ?_ ?_ ?_ ?_ ?_ ?_ ?_ ?_ ?_ ?_ ?_ ?_ ?_ ?_ ?_ ?_ ?_ ?_ ?_ ?_ ?_ ?_ ?_ ?_ ?_ ?_ ?_ ?_ ?_ ?_ ?_ ?_ ?_ ?_ ?_ ?_ ?_ ?_
    any_goals first | k_is | decide
