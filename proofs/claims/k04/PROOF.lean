import PyProof.Rows.All
import Wide.All
import OpenK.AllK
import Wide.FinOn
import PyProof.EqAt
import PyProof.EqKinds
import PyProof.TupleCall
import Lean
import PySem.Challenge.RW_onceroad_k04_webs_made_of_one
set_option Elab.async false
set_option linter.all false
set_option maxRecDepth 100000
namespace L2
open PySem PySem.Spec PyProof.Rows
abbrev Key:=Sum Int Str
def qcI:Key→Value→Bool
 | .inl k,v=>Value.isInt k v
 | .inr x,v=>Value.isStrOf x v
def keyH (w:World):Key→Int
 | .inl k=>hashInt k
 | .inr x=>hashStr w x
theorem q9:∀ {k:Key} {v:Value},qcI k v=true→(∃ i t,k=Sum.inl i∧v=Value.int i t)∨(∃ x t,k=Sum.inr x∧v=Value.str x t)
 | .inl i,v,h=>by
  obtain ⟨t,e⟩:=Value.isInt_shape (k:=i) (v:=v) h
  exact .inl ⟨i,t,rfl,e⟩
 | .inr x,v,h=>by
  obtain ⟨t,e⟩:=Value.isStrOf_shape (x:=x) (v:=v) h
  exact .inr ⟨x,t,rfl,e⟩
theorem keyIs_int (i:Int) (t:Tok):qcI (.inl i) (.int i t)=true:=by simp [qcI,Value.isInt]
theorem keyIs_str (x:Str) (t:Tok):qcI (.inr x) (.str x t)=true:=by simp [qcI,Value.isStrOf]
theorem key_ll (a b:Int):decide ((Sum.inl a:Key)=Sum.inl b)=(a==b):=by
 by_cases e:a=b
 ·subst e;simp
 ·have h:¬ (Sum.inl a:Key)=Sum.inl b:=fun q=>e (Sum.inl.inj q)
  rw [decide_eq_false h]
  exact (beq_eq_false_iff_ne.mpr e).symm
theorem key_rr (a b:Str):decide ((Sum.inr a:Key)=Sum.inr b)=decide (a=b):=by
 by_cases e:a=b
 ·subst e;simp
 ·have h:¬ (Sum.inr a:Key)=Sum.inr b:=fun q=>e (Sum.inr.inj q)
  rw [decide_eq_false h,decide_eq_false e]
theorem key_lr (a:Int) (b:Str):decide ((Sum.inl a:Key)=Sum.inr b)=false:=decide_eq_false (fun q=>nomatch q)
theorem key_rl (a:Str) (b:Int):decide ((Sum.inr a:Key)=Sum.inl b)=false:=decide_eq_false (fun q=>nomatch q)
def jN (prog:Program) (w:World):PySem.KeyKind prog w Key where
 is:=qcI
 hash:=keyH w
 inj:=fun v a b ha hb=>by
  rcases q9 ha with ⟨i,t,rfl,rfl⟩ | ⟨x,t,rfl,rfl⟩
  ·rcases q9 hb with ⟨j,u,rfl,e⟩ | ⟨y,u,rfl,e⟩
   ·injection e with e1 _;rw [e1]
   ·exact nomatch e
  ·rcases q9 hb with ⟨j,u,rfl,e⟩ | ⟨y,u,rfl,e⟩
   ·exact nomatch e
   ·injection e with e1 _;rw [e1]
 byValue:=fun k v h=>by
  rcases q9 h with ⟨i,t,rfl,rfl⟩ | ⟨x,t,rfl,rfl⟩<;>rfl
 pyHash:=fun hv h=>by
  rcases q9 hv with ⟨i,t,rfl,rfl⟩ | ⟨x,t,rfl,rfl⟩
  ·exact wpAny_pyHash_int h
  ·exact wpAny_pyHash_str h
 eqBool:=fun hu hv h=>by
  rcases q9 hu with ⟨i,t,rfl,rfl⟩ | ⟨x,t,rfl,rfl⟩
  ·rcases q9 hv with ⟨j,u,rfl,rfl⟩ | ⟨y,u,rfl,rfl⟩
   ·rw [key_ll] at h;exact wpAny_eqBool_int h
   ·rw [key_lr] at h;exact SeqAt.EqAt.int_str i t y u _ _ _ _ h
  ·rcases q9 hv with ⟨j,u,rfl,rfl⟩ | ⟨y,u,rfl,rfl⟩
   ·rw [key_rl] at h;exact SeqAt.EqAt.str_int x t j u _ _ _ _ h
   ·rw [key_rr] at h;exact wpAny_eqBool_str h
 «strs»:=fun k x t v h=>by
  rcases q9 h with ⟨i,u,rfl,e⟩ | ⟨y,u,rfl,e⟩
  ·exact nomatch e
  ·injection e with e1 _
   subst e1
   cases v<;>rfl
theorem mixKind_int (prog:Program) (w:World) (i:Int) (t:Tok):(jN prog w).is (.inl i) (.int i t)=true:=keyIs_int i t
theorem mixKind_str (prog:Program) (w:World) (x:Str) (t:Tok):(jN prog w).is (.inr x) (.str x t)=true:=keyIs_str x t
end L2
namespace L2
open PySem PySem.Spec PyProof.Rows
inductive V where
 | non | bl (b:Bool) | int (i:Int) | str (x:Str) | byt (b:Array UInt8) | flt (b:UInt64) | ref (a:Addr) | ty (n:String)
 deriving DecidableEq
def RelV:V→Value→Prop
 | .non,u=>u=Value.none
 | .bl b,u=>u=Value.bool b
 | .int i,u=>∃ t,u=Value.int i t
 | .str x,u=>∃ t,u=Value.str x t
 | .byt b,u=>∃ t,u=Value.bytes b t
 | .flt b,u=>∃ t,u=Value.float b t
 | .ref a,u=>u=Value.ref a
 | .ty n,u=>u=Value.type n
abbrev Vals:List V→List Value→Prop:=Paired RelV
theorem Vals.length {xs:List V} {us:List Value} (r:Vals xs us):xs.length=us.length:=Paired.length r
theorem Vals.get:∀ {xs:List V} {us:List Value} {i:Nat} {x:V},Vals xs us→xs[i]?=some x→∃ u,us[i]?=some u∧RelV x u
 | _,_,_,_,.nil,e=>by simp at e
 | _,_,0,_,.cons r _,e=>by simp at e;subst e;exact ⟨_,rfl,r⟩
 | _,_,i + 1,x,.cons _ t,e=>by
  obtain ⟨u,h1,h2⟩:=Vals.get (i:=i) (x:=x) t (by simpa using e)
  exact ⟨u,by simpa using h1,h2⟩
theorem Vals.set {x:V} {u:Value} (r:RelV x u):∀ {xs:List V} {us:List Value} (i:Nat),Vals xs us→Vals (xs.set i x) (us.set i u)
 | _,_,_,.nil=>.nil
 | _,_,0,.cons _ t=>.cons r t
 | _,_,i + 1,.cons q t=>.cons q (Vals.set r i t)
theorem Vals.append:∀ {xs ys:List V} {us ws:List Value},Vals xs us→Vals ys ws→Vals (xs++ys) (us++ws)
 | _,_,_,_,.nil,s=>s
 | _,_,_,_,.cons r t,s=>.cons r (Vals.append t s)
theorem Vals.take:∀ {xs:List V} {us:List Value} (n:Nat),Vals xs us→Vals (xs.take n) (us.take n)
 | _,_,0,_=>.nil
 | _,_,_ + 1,.nil=>.nil
 | _,_,n + 1,.cons r t=>.cons r (Vals.take n t)
theorem Vals.drop:∀ {xs:List V} {us:List Value} (n:Nat),Vals xs us→Vals (xs.drop n) (us.drop n)
 | _,_,0,r=>r
 | _,_,_ + 1,.nil=>.nil
 | _,_,n + 1,.cons _ t=>Vals.drop n t
def RelO:Option V→Option Value→Prop
 | some v,some u=>RelV v u
 | none,none=>True
 | _,_=>False
def KV {κ:Type}:List (κ×V)→List (κ×Value)→Prop:=Paired fun (p:κ×V) (q:κ×Value)=>p.1=q.1∧RelV p.2 q.2
def kV:Key→V
 | .inl i=>.int i
 | .inr x=>.str x
inductive HO where
 /-- a list -/
 | lst (xs:List V)
 /-- a tuple (never changes) -/
 | tup (xs:List V)
 /-- a dict whose keys are ints and texts;one whose keys are tuples of ints and texts (the empty one is both) -/
 | dK (kvs:List (Key×V)) | dT (kvs:List (List Key×V))
 /-- a set of ints: its members,its size -/
 | set (S:Int→Bool) (n:Nat)
 /-- an instance of the class at C,its dict at dx,its attributes -/
 | ins (C dx:Addr) (fs:List (Str×V))
 /-- the dict of the instance at x -/
 | own (x:Addr)
 /-- the dict of an exception -/
 | xd (fs:List (Str×V))
 /-- a bound method,f of x -/
 | met (f x:Addr)
 /-- a range object lo,lo + 1,.. below hi -/
 | rng (lo hi:Int)
 /-- a thing that is known to the object (the script;a dict while a loop walks it): read,never written while it is so -/
 | frz (o:Obj) (u:HO)
 /-- a code object's table -/
 | tbl (ps:Array Value)
 /-- any other thing,by what is true of its one object (a def of one's own: SetO a S n:=HO.ext fun h=>..) -/
 | ext (φ:Heap→Prop)
abbrev Hp:=Addr→Option HO
def upd (H:Hp) (a:Addr) (o:HO):Hp:=fun b=>if b=a then some o else H b
theorem qc {H:Hp} {a:Addr} {o:HO}:upd H a o a=some o:=by unfold upd;rw [if_pos rfl]
theorem qr {H:Hp} {a b:Addr} {o:HO} (h:b≠a):upd H a o b=H b:=by unfold upd;rw [if_neg h]
theorem qaS {H:Hp} {a b:Addr} {o u:HO} (h:H a=some o) (h':H b=some u) (d:o≠u):a≠b:=by
 intro e;subst e;rw [h] at h';exact d (Option.some.inj h')
theorem qw {H:Hp} {a b:Addr} {o:HO} (h:H a=some o) (h':H b=none):a≠b:=by
 intro e;subst e;rw [h] at h';cases h'
section
variable (P:Program) (w:World)
def ObjOk (H:Hp) (h:Heap) (a:Addr):HO→Prop
 | .lst xs=>xs.length≤sizeLine∧∃ (its:List Value) (n:Nat),Vals xs its∧h.get? a=some { cls:=.type "list",data:=.seq its.toArray n }
 | .tup xs=>xs.length≤sizeLine∧∃ its:List Value,Vals xs its∧IsTup h a its.toArray
 | .dK kvs=>kvs.length≤sizeLine∧(a==sysModules)=false∧∃ vs,KV kvs vs∧h.DictOf (jN P w) a vs
 | .dT kvs=>kvs.length≤sizeLine∧(a==sysModules)=false∧∃ xs:List (List Key×Addr×Value),
   Paired (fun (p:List Key×V) (q:List Key×Addr×Value)=>p.1=q.1∧H q.2.1=some (.tup (p.1.map kV))∧RelV p.2 q.2.2) kvs xs ∧
   ∃ o es ep,h.get? a=some o∧o.ExactDict∧o.data=.dict es ep∧es.toList=xs.map (entryOfKey (tupleKind (jN P w)))∧(xs.map (·.1)).Nodup
 | .set S n=>h.SetOf (intKind P w) a S n
 | .ins C dx fs=>H dx=some (.own a)∧fs.length≤1000∧dx≠a∧h.get? a=some (PySem.W.instObj C dx) ∧
   ∃ mA,h.Ns1 dx mA∧(∀ f,RelO (fs.lookup f) (mA f))∧PySem.Within mA (fs.map (·.1))
 | .own _=>∃ o,h.get? a=some o
 | .xd fs=>∃ mA,h.Ns1 a mA∧∀ f,RelO (fs.lookup f) (mA f)
 | .rng lo hi=>∃ t u v,h.get? a=some { cls:=.type "range",data:=.fields #[.int lo t,.int hi u,.int 1 v] }
 | .frz o u=>h.get? a=some o∧ObjOk H h a u
 | .tbl ps=>h.get? a=some { cls:=.none,data:=.fields ps }
 | .met f x=>h.get? a=some (PySem.W.methodObj (.ref f) (.ref x))
 | .ext φ=>φ h∧(∃ o,h.get? a=some o)∧∀ h1 h2:Heap,φ h1→(∀ o,h1.get? a=some o→h2.get? a=some o)→φ h2
def HOk (H:Hp) (h:Heap):Prop:=∀ a o,H a=some o→ObjOk P w H h a o
end
section
variable {P:Program} {w:World} {H H':Hp} {h h':Heap} {a:Addr} {o:HO}
theorem ObjOk.lt (x:ObjOk P w H h a o):a < h.objs.size:=by
 cases o with
 | lst xs=>obtain ⟨_,_,_,_,e⟩:=x;exact Heap.lt_size e
 | tup xs=>obtain ⟨_,_,_,p⟩:=x;exact p.lt
 | dK kvs=>obtain ⟨_,_,_,_,o,_,_,e,_⟩:=x;exact Heap.lt_size e
 | dT kvs=>obtain ⟨_,_,_,_,o,_,_,e,_⟩:=x;exact Heap.lt_size e
 | set S n=>obtain ⟨o,_,_,_,e,_⟩:=x;exact Heap.lt_size e
 | ins C dx fs=>obtain ⟨_,_,_,e,_⟩:=x;exact Heap.lt_size e
 | own y=>obtain ⟨_,e⟩:=x;exact Heap.lt_size e
 | xd fs=>obtain ⟨_,⟨_,_,_,e,_⟩,_⟩:=x;exact Heap.lt_size e
 | rng lo hi=>obtain ⟨_,_,_,e⟩:=x;exact Heap.lt_size e
 | frz ob u=>obtain ⟨e,_⟩:=x;exact Heap.lt_size e
 | tbl ps=>exact Heap.lt_size (show h.get? a=some _ from x)
 | met f y=>exact Heap.lt_size (show h.get? a=some _ from x)
 | ext φ=>obtain ⟨_,⟨_,e⟩,_⟩:=x;exact Heap.lt_size e
theorem Paired.mapP {α β:Type} {F G:α→β→Prop}:∀ {l₁:List α} {l₂:List β},Paired F l₁ l₂→(∀ a b,F a b→G a b)→Paired G l₁ l₂
 | _,_,.nil,_=>.nil
 | _,_,.cons r t,f=>.cons (f _ _ r) (Paired.mapP t f)
theorem ObjOk.stay (x:ObjOk P w H h a o) (k:∀ b u,(b=a∨H b=some (.own a))→h.get? b=some u→h'.get? b=some u)
  (ho:∀ b,H b=some (.own a)→H' b=some (.own a)) (ht:∀ b xs,H b=some (.tup xs)→H' b=some (.tup xs)):ObjOk P w H' h' a o:=by
 induction o with
 | lst xs=>obtain ⟨z,its,n,r,e⟩:=x;exact ⟨z,its,n,r,k _ _ (.inl rfl) e⟩
 | tup xs=>obtain ⟨z,its,r,ob,e,c⟩:=x;exact ⟨z,its,r,ob,k _ _ (.inl rfl) e,c⟩
 | dK kvs=>obtain ⟨z,y,vs,r,ob,es,ep,e,c⟩:=x;exact ⟨z,y,vs,r,ob,es,ep,k _ _ (.inl rfl) e,c⟩
 | dT kvs =>
  obtain ⟨z,y,xs,r,ob,es,ep,e,c⟩:=x
  exact ⟨z,y,xs,Paired.mapP r fun p q z=>⟨z.1,ht _ _ z.2.1,z.2.2⟩,ob,es,ep,k _ _ (.inl rfl) e,c⟩
 | set S n=>obtain ⟨ob,es,ep,t,e,c⟩:=x;exact ⟨ob,es,ep,t,k _ _ (.inl rfl) e,c⟩
 | ins C dx fs =>
  obtain ⟨d,z,ne,e,mA,⟨od,es,ep,e2,c⟩,r⟩:=x
  exact ⟨ho _ d,z,ne,k _ _ (.inl rfl) e,mA,⟨od,es,ep,k _ _ (.inr d) e2,c⟩,r⟩
 | own y=>obtain ⟨ob,e⟩:=x;exact ⟨ob,k _ _ (.inl rfl) e⟩
 | xd fs=>obtain ⟨mA,⟨od,es,ep,e,c⟩,r⟩:=x;exact ⟨mA,⟨od,es,ep,k _ _ (.inl rfl) e,c⟩,r⟩
 | rng lo hi=>obtain ⟨t,u,v,e⟩:=x;exact ⟨t,u,v,k _ _ (.inl rfl) e⟩
 | frz ob u ih=>obtain ⟨e,q⟩:=x;exact ⟨k _ _ (.inl rfl) e,ih q⟩
 | tbl ps =>
  have e:h.get? a=some { cls:=.none,data:=.fields ps }:=x
  show h'.get? a=some { cls:=.none,data:=.fields ps }
  exact k a _ (.inl rfl) e
 | met f y =>
  have e:h.get? a=some (PySem.W.methodObj (.ref f) (.ref y)):=x
  show h'.get? a=some (PySem.W.methodObj (.ref f) (.ref y))
  exact k a _ (.inl rfl) e
 | ext φ=>obtain ⟨p,⟨o,e⟩,st⟩:=x;exact ⟨st _ _ p fun o q=>k _ _ (.inl rfl) q,⟨o,k _ _ (.inl rfl) e⟩,st⟩
theorem HOk.lt (x:HOk P w H h) (e:H a=some o):a < h.objs.size:=(x a o e).lt
theorem HOk.fresh (x:HOk P w H h) (e:h.objs.size≤a):H a=none:=by
 cases q:H a with
 | none=>rfl
 | some u=>exact absurd (Nat.lt_of_lt_of_le (x.lt q) e) (Nat.lt_irrefl _)
theorem HOk.kept (x:HOk P w H h) (k:∀ b u,h.get? b=some u→h'.get? b=some u):HOk P w H h':=fun a o e =>
 (x a o e).stay (fun b u _ q=>k b u q) (fun _ q=>q) fun _ _ q=>q
theorem HOk.laid (x:HOk P w H h) (k:∀ b u,h.get? b=some u→h'.get? b=some u) (hp:h.objs.size≤a) (new:ObjOk P w (upd H a o) h' a o):HOk P w (upd H a o) h':=fun b u e=>by
 have hn:=x.fresh hp
 by_cases hb:b=a
 ·subst hb;rw [qc] at e;cases e;exact new
 ·rw [qr hb] at e
  exact (x b u e).stay (fun c v _ q=>k c v q) (fun c q=>by rw [qr (qw q hn)];exact q) fun c xs q=>by rw [qr (qw q hn)];exact q
end
def Rd (H:Hp) (a:Addr) (u:HO):Prop:=H a=some u∨∃ o,H a=some (.frz o u)
theorem Rd.ok {P:Program} {w:World} {H:Hp} {h:Heap} {a:Addr} {u:HO} (r:Rd H a u) (x:HOk P w H h):ObjOk P w H h a u:=by
 rcases r with r | ⟨o,r⟩
 ·exact x a u r
 ·obtain ⟨_,q⟩:=x a _ r
  exact q
def Mut:Option HO→Prop
 | some (.lst _)=>True
 | some (.dK _)=>True
 | some (.dT _)=>True
 | some (.set _ _)=>True
 | some (.ins _ _ _)=>True
 | some (.ext _)=>True
 | _=>False
section
variable {P:Program} {w:World} {H:Hp} {h h':Heap} {x e:Addr} {o':HO}
theorem HOk.write (ok:HOk P w H h) (mu:Mut (H x)) (he:e=x∨H e=some (.own x)) (k:∀ b u,b≠e→h.get? b=some u→h'.get? b=some u) (heo:∃ u,h'.get? e=some u)
  (new:ObjOk P w (upd H x o') h' x o'):HOk P w (upd H x o') h':=fun b u q=>by
 have nown:∀ c y,H c=some (.own y)→c≠x:=fun c y r z=>by subst z;rw [r] at mu;exact mu
 have ntup:∀ c xs,H c=some (.tup xs)→c≠x:=fun c xs r z=>by subst z;rw [r] at mu;exact mu
 by_cases hb:b=x
 ·subst hb;rw [qc] at q;cases q;exact new
 ·rw [qr hb] at q
  by_cases hbe:b=e
  ·have q':H b=some (.own x):=by
    rcases he with z | z
    ·exact absurd (hbe.trans z) hb
    ·rw [hbe];exact z
   rw [q] at q';cases q'
   obtain ⟨v,hv⟩:=heo
   exact ⟨v,by rw [hbe];exact hv⟩
  ·refine (ok b u q).stay (fun c v hc r=>k c v ?_ r) (fun c r=>by rw [qr (nown c b r)];exact r) fun c xs r=>by rw [qr (ntup c xs r)];exact r
   rcases hc with rfl | hc
   ·exact hbe
   ·rintro rfl
    rcases he with z | z
    ·exact nown c b hc z
    ·rw [hc] at z;cases z;exact hb rfl
end
structure Un (fs ex:List Addr) (H H':Hp) (h h':Heap):Prop where
 keep:∀ b o,h.get? b=some o→H b=none→b∉fs→b∉ex→h'.get? b=some o
 slot:∀ b o,h.get? b=some o→H b=none→b∈fs→b∉ex→∃ sl,h'.get? b=some { o with slots:=sl }
 free:∀ b o,h.get? b=some o→H b=none→b∉ex→H' b=none
 there:∀ b o,h.get? b=some o→b∉ex→∃ o',h'.get? b=some o'
 tups:∀ b xs,H b=some (.tup xs)→H' b=some (.tup xs)
 frzs:∀ b o u,H b=some (.frz o u)→H' b=some (.frz o u)
 tbls:∀ b ps,H b=some (.tbl ps)→∃ more,H' b=some (.tbl (ps++more))
section
variable {fs fs' ex ex':List Addr} {H H1 H2:Hp} {h h1 h2 h':Heap} {a x e:Addr} {o:HO}
theorem Un.any (u:Un fs ex H H1 h h1) {b:Addr} {ob:Obj} (q:h.get? b=some ob) (n:H b=none) (hx:b∉ex):∃ sl,h1.get? b=some { ob with slots:=sl }:=by
 by_cases hb:b∈fs
 ·exact u.slot b ob q n hb hx
 ·exact ⟨ob.slots,u.keep b ob q n hb hx⟩
theorem Un.kept (k:∀ b u,h.get? b=some u→h'.get? b=some u):Un fs ex H H h h':=
 ⟨fun b ob q _ _ _=>k b ob q,fun b ob q _ _ _=>⟨ob.slots,k b ob q⟩,fun _ _ _ n _=>n,fun b ob q _=>⟨ob,k b ob q⟩,fun _ _ q=>q,fun _ _ _ q=>q,fun _ ps q=>⟨#[],by rw [q];simp⟩⟩
theorem Un.refl:Un fs ex H H h h:=Un.kept fun _ _ q=>q
theorem Un.laid (k:∀ b u,h.get? b=some u→h'.get? b=some u) (hp:h.objs.size≤a) (hn:H a=none):Un fs ex H (upd H a o) h h' where
 keep:=fun b u q _ _ _=>k b u q
 slot:=fun b u q _ _ _=>⟨u.slots,k b u q⟩
 free:=fun b u q n _=>by rw [qr (Nat.ne_of_lt (Nat.lt_of_lt_of_le (Heap.lt_size q) hp))];exact n
 there:=fun b u q _=>⟨u,k b u q⟩
 tups:=fun b xs q=>by rw [qr (qw q hn)];exact q
 frzs:=fun b u xs q=>by rw [qr (qw q hn)];exact q
 tbls:=fun b ps q=>⟨#[],by rw [qr (qw q hn),q];simp⟩
theorem Un.write (mu:Mut (H x)) (he:e=x∨H e=some (.own x)) (k:∀ b u,b≠e→h.get? b=some u→h'.get? b=some u) (heo:∃ u,h'.get? e=some u):Un fs ex H (upd H x o) h h':=by
 have hx:∀ b,H b=none→b≠x:=fun b n z=>by subst z;rw [n] at mu;exact mu
 have hb:∀ b,H b=none→b≠e:=fun b n z=>by
  subst z
  rcases he with r | r
  ·exact hx b n r
  ·rw [n] at r;cases r
 have hm:∀ b u,H b=some u→¬ Mut (some u)→b≠x:=fun b u q nm z=>by subst z;rw [q] at mu;exact nm mu
 refine ⟨fun b u q n _ _=>k b u (hb b n) q,fun b u q n _ _=>⟨u.slots,k b u (hb b n) q⟩,fun b u q n _=>by rw [qr (hx b n)];exact n,fun b u q _=>?_,
  fun b xs q=>by rw [qr (hm b _ q fun z=>z)];exact q,fun b u xs q=>by rw [qr (hm b _ q fun z=>z)];exact q,fun b ps q=>⟨#[],by rw [qr (hm b _ q fun z=>z),q];simp⟩⟩
 by_cases hbe:b=e
 ·subst hbe;exact heo
 ·exact ⟨u,k b u hbe q⟩
end
def trk (h:Heap) (H:Hp):List Addr:=(List.range h.objs.size).filter fun a=>(H a).isSome
def qeL (h:Heap) (H:Hp):Heap:=PySem.W.hideAll h (trk h H)
theorem hidT_size (h:Heap) (H:Hp):(qeL h H).objs.size=h.objs.size:=PySem.W.hideAll_size _ _
theorem hidT_get {h:Heap} {H:Hp} {b:Addr} {o:Obj} (e:h.get? b=some o) (n:H b=none):(qeL h H).get? b=some o:=
 PySem.W.hideAll_get _ e fun hm=>by
  have q:(H b).isSome=true:=(List.mem_filter.mp hm).2
  rw [n] at q;simp at q
theorem of_hidT {h:Heap} {H:Hp} {b:Addr} {o:Obj} (e:(qeL h H).get? b=some o):h.get? b=some o∧H b=none:=by
 have e':h.get? b=some o:=PySem.W.of_hideAll (trk h H) e
 refine ⟨e',?_⟩
 cases q:H b with
 | none=>rfl
 | some x =>
  have hm:b∈trk h H:=List.mem_filter.mpr ⟨List.mem_range.mpr (Heap.lt_size e'),by simp [q]⟩
  have z:(qeL h H).get? b=none:=PySem.W.hideAll_none (trk h H) hm
  rw [z] at e;cases e
def allNews (g h:Heap) (L:Addr):List (Addr×Obj):=(List.range h.objs.size).filterMap fun a=>if a=L∨(g.get? a).isSome=true then none else (h.get? a).map fun o=>(a,o)
def rest (g h:Heap) (L d:Addr):List (Addr×Obj):=(allNews g h L).filter fun p=>decide (p.1≠d)
end L2
namespace L2
open PySem PySem.Spec PyProof.Rows
structure Mod (K:PySem.W.Frag) (mg:Str→Option Value) (base:Heap):Prop where
 kin:K.In base
 glob:base.Ns mainGlobals mg
 blt:∃ mb,base.Ns builtinsNs mb∧∀ x:Str,x≠"__name__"→mb x=bootBuiltins x
 nolimit:base.NoLimit
structure Cx where
 prog:Program
 w:World
 K:PySem.W.Frag
 mg:Str→Option Value
 base:Heap
 A:Around
 N:List Str
 s₀:Shared
 H₀:Hp
 env:Env
 outer:List Env
 stack:List Env
 ex:List Addr
 fn:Str→Bool
 calm:Bool
 pn:List (Addr×Obj)
 xe:Value→Shared→Prop
def frs (l:List Env):List Addr:=l.filterMap (·.frame)
abbrev Cx.fs (X:Cx):List Addr:=frs X.outer
def Vis (sc:Scope) (x:Str):Prop:=sc.names.lookup x=some .local∨sc.names.lookup x=some .cell∨sc.names.lookup x=some .free
def Loc (sc:Scope) (x:Str):Prop:=sc.names.lookup x=some .local∨sc.names.lookup x=some .cell
def Look (env:Env) (h:Heap) (m:Str→Option Value) (x:Str) (u:Value):Prop:=
 (env.kindOf x=some .local∧m x=some u)∨((env.kindOf x=some .cell∨env.kindOf x=some .free)∧∃ c,env.cells.lookup x=some c∧h.IsCell c (some u))
structure Cx.Ok (X:Cx):Prop where
 mod:Mod X.K X.mg X.base
 kind:X.env.scope.kind=.function
 glob:X.env.globals=mainGlobals
 blt:X.env.builtins=builtinsNs
 above:X.s₀.heap.objs.size≤X.env.locals
 inj:∀ x y c,X.env.cells.lookup x=some c→X.env.cells.lookup y=some c→x=y
 has:∀ x,(X.env.kindOf x=some .cell∨X.env.kindOf x=some .free)→∃ c,X.env.cells.lookup x=some c
 cab:∀ x c,X.fn x=true→X.env.cells.lookup x=some c→X.s₀.heap.objs.size≤c
 hd:X.calm=true→X.A.handled=none
 frames:X.A.frames=some X.stack
 stk:X.stack=X.outer∨(X.stack=X.env::X.outer∧X.env.frame=some X.env.locals)
 exf:∀ b∈X.ex,b≠X.env.locals∧∀ x c,X.env.cells.lookup x=some c→c≠b
 bs:∀ b o,X.base.get? b=some o→X.s₀.heap.get? b=some o∧X.H₀ b=none
 bsz:X.base.objs.size≤X.s₀.heap.objs.size
 noex:∀ b o,X.base.get? b=some o→b∉X.ex
 exfs:∀ b∈X.ex,b∉X.fs
 funs:X.s₀.heap.FunFrames X.base X.outer
 frf:∀ b∈X.fs,X.H₀ b=none
structure Inv (X:Cx) (pins:List (Addr×Obj)) (σ:List (Option V)) (H:Hp) (s:Shared):Prop where
 ok:X.Ok
 os:s.os=X.s₀.os
 bare:AllBare s.gens
 base:Un X.fs X.ex X.H₀ H X.s₀.heap s.heap
 loc:∃ m,s.heap.Ns X.env.locals m∧∀ (i:Nat) (x:Str) (v:V),X.N[i]?=some x→σ[i]?=some (some v)→Vis X.env.scope x→∃ u,RelV v u∧Look X.env s.heap m x u
 cell:∀ x c,X.env.cells.lookup x=some c→∃ v,s.heap.IsCell c v
 free:H X.env.locals=none
 freeC:∀ x c,X.env.cells.lookup x=some c→H c=none
 pin:∀ p∈X.pn++pins,s.heap.get? p.1=some p.2∧H p.1=none∧p.1≠X.env.locals∧p.1∉X.fs∧∀ v,p.2.data≠.cell v
 hok:HOk X.prog X.w H s.heap
 len:σ.length=X.N.length
section
variable {X:Cx} {pins:List (Addr×Obj)} {σ:List (Option V)} {H H':Hp} {s:Shared} {h':Heap}
theorem Cx.Ok.nofr (ok:X.Ok) {b:Addr} {o:Obj} (e:X.base.get? b=some o):b∉X.fs:=fun hb=>by
 have:=(ok.funs.mem hb).1
 rw [e] at this;cases this
theorem Inv.bs (I:Inv X pins σ H s):∀ b o,X.base.get? b=some o→s.heap.get? b=some o∧H b=none:=fun b o e =>
 ⟨I.base.keep b o (I.ok.bs b o e).1 (I.ok.bs b o e).2 (I.ok.nofr e) (I.ok.noex b o e),I.base.free b o (I.ok.bs b o e).1 (I.ok.bs b o e).2 (I.ok.noex b o e)⟩
theorem Inv.bk (I:Inv X pins σ H s):∀ b o,X.base.get? b=some o→s.heap.get? b=some o:=fun b o e=>(I.bs b o e).1
theorem Inv.mod (I:Inv X pins σ H s):Mod X.K X.mg X.base:=I.ok.mod
theorem Inv.kIn (I:Inv X pins σ H s):X.K.In s.heap:=I.ok.mod.kin.keeps I.bk
theorem Inv.lt (I:Inv X pins σ H s):X.env.locals < s.heap.objs.size:=let ⟨_,hn,_⟩:=I.loc;hn.lt
theorem Inv.sz (I:Inv X pins σ H s):X.s₀.heap.objs.size≤s.heap.objs.size:=Nat.le_trans I.ok.above (Nat.le_of_lt I.lt)
theorem Inv.nofs (I:Inv X pins σ H s) {a:Addr} (h:s.heap.objs.size≤a):a∉X.fs:=fun hb=>by
 obtain ⟨_,o,ho,_⟩:=I.ok.funs.mem hb
 exact absurd (Nat.lt_of_lt_of_le (Heap.lt_size ho) (Nat.le_trans I.sz h)) (Nat.lt_irrefl _)
theorem Inv.cne (I:Inv X pins σ H s):∀ x c,X.env.cells.lookup x=some c→c≠X.env.locals:=fun x c e z=>by
 obtain ⟨v,o,ho,hd⟩:=I.cell x c e
 obtain ⟨m,⟨o',es,ep,ho',hd',_⟩,_⟩:=I.loc
 rw [z,ho'] at ho;cases ho;rw [hd'] at hd;cases hd
theorem Inv.funs (I:Inv X pins σ H s):s.heap.FunFrames X.base X.outer:=by
 have all:∀ (l:List Env),(∀ b∈frs l,b∈X.fs)→X.s₀.heap.FunFrames X.base l→s.heap.FunFrames X.base l:=by
  intro l
  induction l with
  | nil=>intro _ _;trivial
  | cons env r ih =>
   intro hs hl
   obtain ⟨hk,⟨L,o,hf,hn,ho,hd⟩,hr⟩:=hl
   have hL:L∈X.fs:=hs L (by unfold frs;rw [List.filterMap_cons,hf];exact List.mem_cons_self)
   obtain ⟨sl,e⟩:=I.base.slot L o ho (I.ok.frf L hL) hL fun z=>I.ok.exfs L z hL
   exact ⟨hk,⟨L,_,hf,hn,e,hd⟩,ih (fun b hb=>hs b (by unfold frs;rw [List.filterMap_cons,hf];exact List.mem_cons_of_mem _ hb)) hr⟩
 exact all X.outer (fun _ hb=>hb) I.ok.funs
theorem Inv.stack (I:Inv X pins σ H s):s.heap.FunFrames X.base X.stack:=by
 rcases I.ok.stk with e | ⟨e,hf⟩
 ·rw [e];exact I.funs
 ·rw [e]
  obtain ⟨m,hn,_⟩:=I.loc
  refine .cons (by rw [I.ok.kind];decide) hf hn ?_ I.funs
  exact Heap.get?_none_of_le (Nat.le_trans I.ok.bsz I.ok.above)
theorem Inv.stkSub (I:Inv X pins σ H s):∀ b∈frs X.stack,b∈X.env.locals::X.fs:=fun b hb=>by
 rcases I.ok.stk with e | ⟨e,hf⟩
 ·rw [e] at hb;exact List.mem_cons_of_mem _ hb
 ·rw [e] at hb
  unfold frs at hb
  rw [List.filterMap_cons,hf] at hb
  exact hb
theorem Inv.stkFree (I:Inv X pins σ H s):∀ b∈frs X.stack,H b=none:=fun b hb=>by
 rcases List.mem_cons.mp (I.stkSub b hb) with e | hb
 ·rw [e];exact I.free
 ·obtain ⟨_,o,ho,_⟩:=I.ok.funs.mem hb
  exact I.base.free b o ho (I.ok.frf b hb) fun z=>I.ok.exfs b z hb
theorem Inv.step {g':Array GenState} {t':Nat} {d':Drawn} {ch:List Addr} (I:Inv X pins σ H s)
  (hch:∀ b∈ch,(b∈X.ex∨X.s₀.heap.objs.size≤b)∧b≠X.env.locals∧(∀ x c,X.env.cells.lookup x=some c→c≠b)∧∀ p∈X.pn++pins,p.1≠b)
  (keep:∀ b o,b≠X.env.locals→b∉X.fs→b∉ch→s.heap.get? b=some o→H b=none→h'.get? b=some o)
  (slot:∀ b o,b≠X.env.locals→b∈X.fs→b∉ch→s.heap.get? b=some o→H b=none→∃ sl,h'.get? b=some { o with slots:=sl }) (free:∀ b o,b∉ch→s.heap.get? b=some o→H b=none→H' b=none)
  (there:∀ b o,b∉ch→s.heap.get? b=some o→∃ o',h'.get? b=some o')
  (tups:∀ b xs,H b=some (.tup xs)→H' b=some (.tup xs)) (frzs:∀ b o u,H b=some (.frz o u)→H' b=some (.frz o u)) (tbls:∀ b ps,H b=some (.tbl ps)→∃ more,H' b=some (.tbl (ps++more)))
  (ns:∀ m,s.heap.Ns X.env.locals m→h'.Ns X.env.locals m) (hok:HOk X.prog X.w H' h') (hg:AllBare g') :
  Inv X pins σ H' { s with heap:=h',gens:=g',drawn:=d',toks:=t' }:=by
 have neL:∀ b o,X.s₀.heap.get? b=some o→b≠X.env.locals:=fun b o e=>Nat.ne_of_lt (Nat.lt_of_lt_of_le (Heap.lt_size e) I.ok.above)
 have neC:∀ b o,X.s₀.heap.get? b=some o→b∉X.ex→b∉ch:=fun b o e hx hb=>by
  rcases (hch b hb).1 with z | z
  ·exact hx z
  ·exact absurd (Nat.lt_of_lt_of_le (Heap.lt_size e) z) (Nat.lt_irrefl _)
 have cellK:∀ x c,X.env.cells.lookup x=some c→∀ v,s.heap.IsCell c v→h'.IsCell c v:=fun x c e v ⟨o,ho,hd⟩=>by
  have nch:c∉ch:=fun z=>(hch c z).2.2.1 x c e rfl
  by_cases hc:c∈X.fs
  ·obtain ⟨sl,q⟩:=slot c o (I.cne x c e) hc nch ho (I.freeC x c e)
   exact ⟨_,q,hd⟩
  ·exact ⟨o,keep c o (I.cne x c e) hc nch ho (I.freeC x c e),hd⟩
 refine ⟨I.ok,I.os,hg,⟨fun b o e n hb hx=>?_,fun b o e n hb hx=>?_,fun b o e n hx=>?_,fun b o e hx=>?_,fun b xs e=>tups b xs (I.base.tups b xs e),fun b o xs e=>frzs b o xs (I.base.frzs b o xs e),fun b ps e=>?_⟩,?_,fun x c e=>?_,?_,fun x c e=>?_,fun p hp=>?_,hok,I.len⟩
 ·exact keep b o (neL b o e) hb (neC b o e hx) (I.base.keep b o e n hb hx) (I.base.free b o e n hx)
 ·obtain ⟨sl,e1⟩:=I.base.slot b o e n hb hx
  obtain ⟨sl',e2⟩:=slot b _ (neL b o e) hb (neC b o e hx) e1 (I.base.free b o e n hx)
  exact ⟨sl',e2⟩
 ·obtain ⟨o',e1⟩:=I.base.there b o e hx
  exact free b o' (neC b o e hx) e1 (I.base.free b o e n hx)
 ·obtain ⟨o',e1⟩:=I.base.there b o e hx
  exact there b o' (neC b o e hx) e1
 ·obtain ⟨m1,e1⟩:=I.base.tbls b ps e
  obtain ⟨m2,e2⟩:=tbls b _ e1
  exact ⟨m1++m2,by rw [e2,Array.append_assoc]⟩
 ·obtain ⟨m,hn,hl⟩:=I.loc
  refine ⟨m,ns m hn,fun i x v e1 e2 e3=>?_⟩
  obtain ⟨u,r,l⟩:=hl i x v e1 e2 e3
  refine ⟨u,r,?_⟩
  rcases l with l | ⟨k,c,e,z⟩
  ·exact .inl l
  ·exact .inr ⟨k,c,e,cellK x c e _ z⟩
 ·obtain ⟨v,z⟩:=I.cell x c e
  exact ⟨v,cellK x c e v z⟩
 ·obtain ⟨m,⟨o,_,_,ho,_⟩,_⟩:=I.loc
  exact free _ o (fun z=>(hch _ z).2.1 rfl) ho I.free
 ·obtain ⟨v,o,ho,hd⟩:=I.cell x c e
  exact free c o (fun z=>(hch c z).2.2.1 x c e rfl) ho (I.freeC x c e)
 ·obtain ⟨e,n,ne,nf,d⟩:=I.pin p hp
  have nch:p.1∉ch:=fun z=>(hch p.1 z).2.2.2 p hp rfl
  exact ⟨keep p.1 p.2 ne nf nch e n,free p.1 p.2 nch e n,ne,nf,d⟩
theorem Inv.un {t':Nat} (I:Inv X pins σ H s) (u:Un X.fs [] H H' s.heap h') (hok:HOk X.prog X.w H' h'):Inv X pins σ H' { s with heap:=h',toks:=t' }:=by
 obtain ⟨m,⟨o,es,ep,ho,r⟩,_⟩:=id I.loc
 obtain ⟨sl,hL⟩:=u.any ho I.free (by simp)
 exact I.step (g':=s.gens) (d':=s.drawn) (ch:=[]) (fun _ z=>nomatch z) (fun b o _ hb _ e n=>u.keep b o e n hb (by simp)) (fun b o _ hb _ e n=>u.slot b o e n hb (by simp)) (fun b o _ e n=>u.free b o e n (by simp)) (fun b o _ e=>u.there b o e (by simp)) u.tups u.frzs u.tbls (fun m' hm=>by
  obtain ⟨o',es',ep',ho',r'⟩:=hm
  rw [ho] at ho';cases ho'
  exact ⟨_,es',ep',hL,r'⟩) hok I.bare
theorem Inv.call {g':Array GenState} {t':Nat} {d':Drawn} {ch:List Addr} (I:Inv X pins σ H s) (u:Un (frs X.stack) ch H H' s.heap h') (hok:HOk X.prog X.w H' h') (hg:AllBare g')
  (hch:∀ b∈ch,(b∈X.ex∨X.s₀.heap.objs.size≤b)∧b≠X.env.locals∧(∀ x c,X.env.cells.lookup x=some c→c≠b)∧∀ p∈X.pn++pins,p.1≠b) :
  Inv X pins σ H' { s with heap:=h',gens:=g',drawn:=d',toks:=t' }:=by
 obtain ⟨m,⟨o,es,ep,ho,r⟩,_⟩:=id I.loc
 obtain ⟨sl,hL⟩:=u.any ho I.free fun z=>(hch _ z).2.1 rfl
 exact I.step (ch:=ch) hch (fun b o hL hb hc e n=>u.keep b o e n (fun z=>(List.mem_cons.mp (I.stkSub b z)).elim hL hb) hc) (fun b o _ _ hc e n=>u.any e n hc) (fun b o hc e n=>u.free b o e n hc) (fun b o hc e=>u.there b o e hc) u.tups u.frzs u.tbls (fun m' hm=>by
  obtain ⟨o',es',ep',ho',r'⟩:=hm
  rw [ho] at ho';cases ho'
  exact ⟨_,es',ep',hL,r'⟩) hok hg
theorem Inv.turned {t':Nat} {it:Addr} (I:Inv X pins σ H s) (k:∀ b o,b≠it→s.heap.get? b=some o→h'.get? b=some o) (hn:H it=none) (hL:it≠X.env.locals)
  (h1:it∈X.ex∨X.s₀.heap.objs.size≤it) (h2:∀ x c,X.env.cells.lookup x=some c→c≠it) (h3:∀ p∈X.pn++pins,p.1≠it):Inv X pins σ H { s with heap:=h',toks:=t' }:=by
 have nit:∀ b u,H b=some u→b≠it:=fun b u e z=>by rw [z,hn] at e;cases e
 refine I.step (g':=s.gens) (d':=s.drawn) (ch:=[it]) (fun b hb=>?_) (fun b o _ _ hc e _=>k b o (fun z=>hc (by simp [z])) e) (fun b o _ _ hc e _=>⟨o.slots,k b o (fun z=>hc (by simp [z])) e⟩) (fun _ _ _ _ n=>n)
  (fun b o hc e=>⟨o,k b o (fun z=>hc (by simp [z])) e⟩) (fun _ _ e=>e) (fun _ _ _ e=>e) (fun b ps e=>⟨#[],by rw [e];simp⟩) (fun m hm=>?_) (fun b u e=>?_) I.bare
 ·have e:b=it:=by simpa using hb
  subst e
  exact ⟨h1,hL,h2,h3⟩
 ·obtain ⟨o,es,ep,ho,r⟩:=hm
  exact ⟨o,es,ep,k _ o (Ne.symm hL) ho,r⟩
 ·refine (I.hok b u e).stay (fun c v hc q=>k c v ?_ q) (fun _ q=>q) fun _ _ q=>q
  rcases hc with z | z
  ·rw [z];exact nit b u e
  ·exact nit c _ z
theorem Inv.tok (I:Inv X pins σ H s) (t:Nat):Inv X pins σ H { s with toks:=t }:=I.un (h':=s.heap) (t':=t) Un.refl I.hok
theorem Inv.kept {t':Nat} (I:Inv X pins σ H s) (k:∀ b u,s.heap.get? b=some u→h'.get? b=some u):Inv X pins σ H { s with heap:=h',toks:=t' }:=I.un (Un.kept k) (I.hok.kept k)
theorem Inv.laid {a:Addr} {o:HO} {t':Nat} (I:Inv X pins σ H s) (k:∀ b u,s.heap.get? b=some u→h'.get? b=some u) (hp:s.heap.objs.size≤a) (new:ObjOk X.prog X.w (upd H a o) h' a o) :
  Inv X pins σ (upd H a o) { s with heap:=h',toks:=t' }:=I.un (Un.laid k hp (I.hok.fresh hp)) (I.hok.laid k hp new)
theorem Inv.write {x e:Addr} {o:HO} {t':Nat} (I:Inv X pins σ H s) (mu:Mut (H x)) (he:e=x∨H e=some (.own x)) (k:∀ b u,b≠e→s.heap.get? b=some u→h'.get? b=some u) (heo:∃ u,h'.get? e=some u)
  (new:ObjOk X.prog X.w (upd H x o) h' x o):Inv X pins σ (upd H x o) { s with heap:=h',toks:=t' }:=I.un (Un.write mu he k heo) (I.hok.write mu he k heo new)
theorem Inv.weak {σ':List (Option V)} (I:Inv X pins σ H s) (hl:σ'.length=σ.length) (w:∀ (i:Nat) v,σ'[i]?=some (some v)→σ[i]?=some (some v)):Inv X pins σ' H s:=
 ⟨I.ok,I.os,I.bare,I.base,let ⟨m,hn,hl'⟩:=I.loc;⟨m,hn,fun i x v e1 e2 e3=>hl' i x v e1 (w i v e2) e3⟩,I.cell,I.free,I.freeC,I.pin,I.hok,hl.trans I.len⟩
theorem Inv.pins_of {pins':List (Addr×Obj)} (I:Inv X pins σ H s) (h:∀ p∈pins',s.heap.get? p.1=some p.2∧H p.1=none∧p.1≠X.env.locals∧p.1∉X.fs∧∀ v,p.2.data≠.cell v):Inv X pins' σ H s:=
 ⟨I.ok,I.os,I.bare,I.base,I.loc,I.cell,I.free,I.freeC,fun p hp=>(List.mem_append.mp hp).elim (fun z=>I.pin p (List.mem_append_left _ z)) (h p),I.hok,I.len⟩
theorem qbM {N:List Str} (hN:N.Nodup) {i j:Nat} {x:Str} (a:N[i]?=some x) (b:N[j]?=some x):i=j:=by
 obtain ⟨h1,e1⟩:=List.getElem?_eq_some_iff.mp a
 obtain ⟨h2,e2⟩:=List.getElem?_eq_some_iff.mp b
 exact (List.getElem_inj hN).mp (e1.trans e2.symm)
theorem qb6 {M:Model} {A:Around} {E:Value→Shared→Prop} {i:Nat} {x:Str} {v:V} {u:Value} {Q:Unit→Shared→Prop} (I:Inv X pins σ H s) (hN:X.N.Nodup) (hi:X.N[i]?=some x) (hx:Loc X.env.scope x) (r:RelV v u)
  (h:∀ s',Inv X pins (σ.set i (some v)) H s'→(∃ a,Heap.SameBut a s.heap s'.heap∧(a=X.env.locals∨X.env.cells.lookup x=some a))→Q () s') (hf:X.fn x=true∨X.env.scope.names.lookup x=some .local:=by first | exact .inl rfl | exact .inr rfl | assumption):wpAny M A (storeName X.env x u) Q E s:=by
 obtain ⟨m,hn,hl⟩:=id I.loc
 have hcls:(X.env.scope.kind==.class||(X.env.scope.kind==.module&&X.env.locals != X.env.globals))=false:=by rw [I.ok.kind];rfl
 have hiσ:i < σ.length:=by rw [I.len];exact (List.getElem?_eq_some_iff.mp hi).1
 have cne:=I.cne
 have tracked:∀ {a:Addr} {h':Heap},(∃ o,s.heap.get? a=some o∧H a=none)→Heap.SameBut a s.heap h'→HOk X.prog X.w H h':=fun {a h'} ha hs b ob e=>by
  obtain ⟨_,_,hfree⟩:=ha
  refine (I.hok b ob e).stay (fun c w' hc q=>(hs.2 c ?_).trans q) (fun _ q=>q) fun _ _ q=>q
  rintro rfl
  rcases hc with rfl | hc
  ·rw [hfree] at e;cases e
  ·rw [hfree] at hc;cases hc
 rcases hx with hk | hk
 ·refine wpAny_storeName_local hk hn (fun h' hn' hs=>?_) hcls
  obtain ⟨oL,_,_,hoL,_⟩:=id hn
  refine h _ ⟨I.ok,I.os,I.bare,⟨fun b o e n hb hx=>?_,fun b o e n hb hx=>?_,I.base.free,fun b o e hx=>?_,I.base.tups,I.base.frzs,I.base.tbls⟩,⟨_,hn',fun j y v' e1 e2 e3=>?_⟩,fun y c e=>?_,I.free,I.freeC,fun p hp=>?_,tracked ⟨oL,hoL,I.free⟩ hs,by simpa using I.len⟩ ⟨_,hs,.inl rfl⟩
  ·exact (hs.2 b (Nat.ne_of_lt (Nat.lt_of_lt_of_le (Heap.lt_size e) I.ok.above))).trans (I.base.keep b o e n hb hx)
  ·obtain ⟨sl,e1⟩:=I.base.slot b o e n hb hx
   exact ⟨sl,(hs.2 b (Nat.ne_of_lt (Nat.lt_of_lt_of_le (Heap.lt_size e) I.ok.above))).trans e1⟩
  ·obtain ⟨o',e1⟩:=I.base.there b o e hx
   exact ⟨o',(hs.2 b (Nat.ne_of_lt (Nat.lt_of_lt_of_le (Heap.lt_size e) I.ok.above))).trans e1⟩
  ·by_cases hj:j=i
   ·subst hj
    rw [hi] at e1;cases e1
    rw [List.getElem?_set_self hiσ] at e2
    cases e2
    exact ⟨u,r,.inl ⟨hk,by simp⟩⟩
   ·rw [List.getElem?_set_ne (Ne.symm hj)] at e2
    obtain ⟨u',r',q⟩:=hl j y v' e1 e2 e3
    refine ⟨u',r',?_⟩
    rcases q with ⟨k,e⟩ | ⟨k,c,e,z⟩
    ·refine .inl ⟨k,?_⟩
     have:y≠x:=fun e=>hj (qbM hN e1 (e ▸ hi))
     simp [this,e]
    ·exact .inr ⟨k,c,e,z.sameBut hs (cne y c e)⟩
  ·obtain ⟨w',z⟩:=I.cell y c e
   exact ⟨w',z.sameBut hs (cne y c e)⟩
  ·obtain ⟨e,n,ne,nf,d⟩:=I.pin p hp
   exact ⟨(hs.2 p.1 ne).trans e,n,ne,nf,d⟩
 ·have hfn:X.fn x=true:=by
   rcases hf with z | z
   ·exact z
   ·rw [z] at hk;cases hk
  obtain ⟨c,hc⟩:=I.ok.has x (.inl hk)
  obtain ⟨w',z⟩:=I.cell x c hc
  refine wpAny_storeName_cell I.ok.kind hk hc z (fun h' hc' hs=>?_)
  obtain ⟨oc,hoc,hocd⟩:=id z
  refine h { s with heap:=h' } ⟨I.ok,I.os,I.bare,⟨fun b o e n hb hx=>?_,fun b o e n hb hx=>?_,I.base.free,fun b o e hx=>?_,I.base.tups,I.base.frzs,I.base.tbls⟩,⟨m,hn.sameBut hs (Ne.symm (cne x c hc)),fun j y v' e1 e2 e3=>?_⟩,fun y c' e=>?_,I.free,I.freeC,fun p hp=>?_,tracked ⟨oc,hoc,I.freeC x c hc⟩ hs,by simpa using I.len⟩ ⟨c,hs,.inr hc⟩
  ·exact (hs.2 b (Nat.ne_of_lt (Nat.lt_of_lt_of_le (Heap.lt_size e) (I.ok.cab x c hfn hc)))).trans (I.base.keep b o e n hb hx)
  ·obtain ⟨sl,e1⟩:=I.base.slot b o e n hb hx
   exact ⟨sl,(hs.2 b (Nat.ne_of_lt (Nat.lt_of_lt_of_le (Heap.lt_size e) (I.ok.cab x c hfn hc)))).trans e1⟩
  ·obtain ⟨o',e1⟩:=I.base.there b o e hx
   exact ⟨o',(hs.2 b (Nat.ne_of_lt (Nat.lt_of_lt_of_le (Heap.lt_size e) (I.ok.cab x c hfn hc)))).trans e1⟩
  ·by_cases hj:j=i
   ·subst hj
    rw [hi] at e1;cases e1
    rw [List.getElem?_set_self hiσ] at e2
    cases e2
    exact ⟨u,r,.inr ⟨.inl hk,c,hc,hc'⟩⟩
   ·rw [List.getElem?_set_ne (Ne.symm hj)] at e2
    obtain ⟨u',r',q⟩:=hl j y v' e1 e2 e3
    refine ⟨u',r',?_⟩
    rcases q with q | ⟨k,c',e,z'⟩
    ·exact .inl q
    ·refine .inr ⟨k,c',e,z'.sameBut hs ?_⟩
     rintro rfl
     exact hj (qbM hN e1 (I.ok.inj _ _ _ e hc ▸ hi))
  ·by_cases hcc:c'=c
   ·subst hcc;exact ⟨_,hc'⟩
   ·obtain ⟨w2,z2⟩:=I.cell y c' e
    exact ⟨w2,z2.sameBut hs hcc⟩
  ·obtain ⟨e,n,ne,nf,d⟩:=I.pin p hp
   refine ⟨(hs.2 p.1 ?_).trans e,n,ne,nf,d⟩
   intro q
   rw [q,hoc] at e
   have q':oc=p.2:=Option.some.inj e
   exact d w' (by rw [← q'];exact hocd)
theorem qa4 {M:Model} {A:Around} {E:Value→Shared→Prop} {i:Nat} {x:Str} {v:V} {u:Value} {Q:Unit→Shared→Prop} (I:Inv X pins σ H s) (hN:X.N.Nodup) (hi:X.N[i]?=some x) (hx:Loc X.env.scope x) (r:RelV v u)
  (h:∀ s',Inv X pins (σ.set i (some v)) H s'→Q () s') (hf:X.fn x=true∨X.env.scope.names.lookup x=some .local:=by first | exact .inl rfl | exact .inr rfl | assumption):wpAny M A (storeName X.env x u) Q E s:=
 qb6 I hN hi hx r (fun s' I' _=>h s' I') hf
theorem Inv.call' {s':Shared} {ch:List Addr} (I:Inv X pins σ H s) (ho:s'.os=s.os) (u:Un (frs X.stack) ch H H' s.heap s'.heap) (hok:HOk X.prog X.w H' s'.heap) (hg:AllBare s'.gens)
  (hch:∀ b∈ch,(b∈X.ex∨X.s₀.heap.objs.size≤b)∧b≠X.env.locals∧(∀ x c,X.env.cells.lookup x=some c→c≠b)∧∀ p∈X.pn++pins,p.1≠b):Inv X pins σ H' s':=by
 obtain ⟨h',g',d',t',o'⟩:=s'
 have e:o'=s.os:=ho
 subst e
 exact I.call (g':=g') (t':=t') (d':=d') u hok hg hch
end
abbrev XK:=Value→Option Addr→Hp→Prop
abbrev St:=List (Option V)
abbrev VK:=V→Hp→Prop
abbrev TE:=St→Hp→VK→Prop
abbrev TT:=St→Hp→(Bool→Hp→Prop)→Prop
abbrev TA:=St→Hp→(List V→Hp→Prop)→Prop
structure Ends where
 nx:St→Hp→Prop
 rt:VK
 bk:St→Hp→Prop:=fun _ _=>False
 ct:St→Hp→Prop:=fun _ _=>False
abbrev TS:=Ends→St→Hp→Prop
def EP (X:Cx) (pins:List (Addr×Obj)) (σ:St) (Q:VK) (u:Value) (s':Shared):Prop:=∃ v H',Inv X pins σ H' s'∧RelV v u∧Q v H'
def TP (X:Cx) (pins:List (Addr×Obj)) (σ:St) (Q:Bool→Hp→Prop) (b:Bool) (s':Shared):Prop:=∃ H',Inv X pins σ H' s'∧Q b H'
def AP (X:Cx) (pins:List (Addr×Obj)) (σ:St) (Q:List V→Hp→Prop) (us:List Value) (s':Shared):Prop:=∃ vs H',Inv X pins σ H' s'∧Vals vs us∧Q vs H'
def SP (X:Cx) (pins:List (Addr×Obj)) (D:Ends) (f:Flow) (s':Shared):Prop:=
 match f with
 | .next=>∃ σ' H',Inv X pins σ' H' s'∧D.nx σ' H'
 | .brk=>∃ σ' H',Inv X pins σ' H' s'∧D.bk σ' H'
 | .cont=>∃ σ' H',Inv X pins σ' H' s'∧D.ct σ' H'
 | .ret u=>∃ v σ' H',Inv X pins σ' H' s'∧RelV v u∧D.rt v H'
def PE (X:Cx) (e:Expr) (t:TE):Prop:=
 ∀ (pins:List (Addr×Obj)) (s:Shared) (σ:St) (H:Hp) (Q:VK),Inv X pins σ H s→t σ H Q→wpAny (model X.prog X.w) X.A (eval e X.env) (EP X pins σ Q) X.xe s
def PT (X:Cx) (e:Expr) (t:TT):Prop:=
 ∀ (pins:List (Addr×Obj)) (s:Shared) (σ:St) (H:Hp) (Q:Bool→Hp→Prop),Inv X pins σ H s→t σ H Q→wpAny (model X.prog X.w) X.A (isTrue e X.env (eval e X.env)) (TP X pins σ Q) X.xe s
def PW (X:Cx) (e:Expr) (t:TT):Prop:=
 ∀ (whole:Sem Value) (pins:List (Addr×Obj)) (s:Shared) (σ:St) (H:Hp) (Q:Bool→Hp→Prop),Inv X pins σ H s→t σ H Q→wpAny (model X.prog X.w) X.A (isTrue e X.env whole) (TP X pins σ Q) X.xe s
theorem PW.pt {X:Cx} {e:Expr} {t:TT} (h:PW X e t):PT X e t:=h _
def PA (X:Cx) (es:List Expr) (t:TA):Prop:=
 ∀ (pos:Pos) (pins:List (Addr×Obj)) (s:Shared) (σ:St) (H:Hp) (Q:List V→Hp→Prop),Inv X pins σ H s→t σ H Q→wpAny (model X.prog X.w) X.A (spliced (backTo pos (starEach es X.env))) (AP X pins σ Q) X.xe s
def PS (X:Cx) (st:Stmt) (t:TS):Prop:=
 ∀ (pins:List (Addr×Obj)) (s:Shared) (σ:St) (H:Hp) (D:Ends),Inv X pins σ H s→t D σ H→wpAny (model X.prog X.w) X.A (exec st X.env) (SP X pins D) X.xe s
def PSs (X:Cx) (st:List Stmt) (t:TS):Prop:=
 ∀ (pins:List (Addr×Obj)) (s:Shared) (σ:St) (H:Hp) (D:Ends),Inv X pins σ H s→t D σ H→wpAny (model X.prog X.w) X.A (execs st X.env) (SP X pins D) X.xe s
theorem thn {α:Type} {t:Sem α} {Q Q':α→Shared→Prop} {M:Model} {A:Around} {E:Value→Shared→Prop} {s:Shared} (h:wpAny M A t Q E s) (hQ:∀ a s,Q a s→Q' a s):wpAny M A t Q' E s:=wpAny_mono h hQ fun _ _ x=>x
end L2
namespace L2
open PySem PySem.Spec PyProof.Rows
section
variable {X:Cx}
def qgp (i:Nat):TE:=fun σ H Q=>∃ v,σ[i]?=some (some v)∧Q v H
def tC (v:V):TE:=fun _ H Q=>Q v H
theorem pe_var {i:Nat} {x:Str} {pos:Pos} (hN:X.N[i]?=some x) (hv:Vis X.env.scope x) (hd:(x==("__debug__":Str))=false:=by decide) (hcd:(x==("__classdict__":Str))=false:=by decide):PE X (.Name x pos) (qgp i):=by
 intro pins s σ H Q I h
 obtain ⟨v,e,h⟩:=h
 obtain ⟨m,hn,hl⟩:=I.loc
 obtain ⟨u,r,l⟩:=hl i x v hN e hv
 have fin:EP X pins σ Q u s:=⟨v,H,I,r,h⟩
 rcases l with ⟨hk,hm⟩ | ⟨hk,c,hc,hcell⟩
 ·exact wpAny_Name (wpAny_loadName_local I.ok.kind hk hn hm fin) hd
 ·rcases hk with hk | hk
  ·exact wpAny_Name (wpAny_loadName_cell I.ok.kind hk hc hcell fin) hd
  ·exact wpAny_Name (wpAny_loadName_free I.ok.kind hk hc hcell fin hcd) hd
theorem qg {i j pos}:PE X (.Constant (.int i) j pos) (tC (.int i)):=fun _ _ _ H _ I h=>wpAny_Constant_int ⟨.int i,H,I.tok _,⟨_,rfl⟩,h⟩
theorem zS {b j pos}:PE X (.Constant (.bool b) j pos) (tC (.bl b)):=fun _ _ _ H _ I h=>Constant_bool ⟨.bl b,H,I,rfl,h⟩
theorem qeW {j pos}:PE X (.Constant .none j pos) (tC .non):=fun _ _ _ H _ I h=>Constant_none ⟨.non,H,I,rfl,h⟩
theorem jj {x j pos}:PE X (.Constant (.str x) j pos) (tC (.str x)):=fun _ _ _ H _ I h=>Calls.Constant_str ⟨.str x,H,I.tok _,⟨_,rfl⟩,h⟩
def Gl (X:Cx) (x:Str):Prop:=X.env.kindOf x=some .globalImplicit
theorem zU {E:Value→Shared→Prop} {pins:List (Addr×Obj)} {s:Shared} {σ:St} {H:Hp} {x:Str} {u:Value} {pos:Pos} {Q:Value→Shared→Prop} (I:Inv X pins σ H s) (hg:Gl X x) (hm:X.mg x=some u) (h:Q u s)
  (hd:(x==("__debug__":Str))=false:=by decide):wpAny (model X.prog X.w) X.A (eval (.Name x pos) X.env) Q E s:=
 Calls.Name_function_global I.ok.kind hg (Calls.loadGlobal_global (by rw [I.ok.glob];exact I.mod.glob.keeps I.bk) hm h) hd
theorem qa9 {E:Value→Shared→Prop} {pins:List (Addr×Obj)} {s:Shared} {σ:St} {H:Hp} {x:Str} {u:Value} {pos:Pos} {Q:Value→Shared→Prop} (I:Inv X pins σ H s) (hg:Gl X x) (hm:X.mg x=none) (hv:bootBuiltins x=some u) (h:Q u s)
  (hn:x≠"__name__":=by decide) (hd:(x==("__debug__":Str))=false:=by decide):wpAny (model X.prog X.w) X.A (eval (.Name x pos) X.env) Q E s:=by
 obtain ⟨mb,h1,h2⟩:=I.mod.blt
 exact Calls.Name_function_global I.ok.kind hg (Calls.loadGlobal_builtin (by rw [I.ok.glob];exact I.mod.glob.keeps I.bk) hm (by rw [I.ok.blt];exact h1.keeps I.bk) ((h2 x hn).trans hv) h) hd
theorem qat {x:Str} {v:V} {u:Value} {pos:Pos} (hg:Gl X x) (hm:X.mg x=some u) (r:RelV v u) (hd:(x==("__debug__":Str))=false:=by decide):PE X (.Name x pos) (tC v):=
 fun _ _ _ H _ I h=>zU I hg hm ⟨v,H,I,r,h⟩ hd
theorem jO {x:Str} {v:V} {u:Value} {pos:Pos} (hg:Gl X x) (hm:X.mg x=none) (hv:bootBuiltins x=some u) (r:RelV v u) (hn:x≠"__name__":=by decide) (hd:(x==("__debug__":Str))=false:=by decide):PE X (.Name x pos) (tC v):=
 fun _ _ _ H _ I h=>qa9 I hg hm hv ⟨v,H,I,r,h⟩ hn hd
variable {a b:Expr} {ta tb:TE} {pos:Pos}
def tB (t:TE):TT:=fun σ H Q=>t σ H fun x H1=>∃ c,x=.bl c∧Q c H1
theorem qP {e:Expr} {t:TE} (h:PE X e t) (he:∀ whole,isTrue e X.env whole=(do let v ← whole;standAt e.pos;holding [v] (truthy v)):=by intro _;rfl):PT X e (tB t):=by
 intro pins s σ H Q I hw
 refine isTrue_plain (thn (h pins s σ H _ I hw) fun v s1 ⟨x,H1,I1,r1,q1⟩=>?_) (he _)
 obtain ⟨d,rfl,q⟩:=q1
 cases r1
 exact wpAny_truthy_bool ⟨H1,I1,q⟩
variable {tA tB':TT} {rest:List Expr}
def qgE (t u:TT):TT:=fun σ H Q=>t σ H fun c H1=>if c=true then u σ H1 Q else Q false H1
def tOr (t u:TT):TT:=fun σ H Q=>t σ H fun c H1=>if c=true then Q true H1 else u σ H1 Q
def qgF (t:TT):TT:=fun σ H Q=>t σ H fun c H1=>Q (!c) H1
theorem qaT (ha:PT X a tA):PW X (.BoolOp .And [a] pos) tA:=by
 intro wh pins s σ H Q I h
 refine isTrue_and (thn (ha pins s σ H Q I h) fun c s1 e=>?_)
 cases c with
 | true=>exact isTrue_and_nil e
 | false=>exact e
theorem qaB (ha:PT X a tA):PW X (.BoolOp .Or [a] pos) tA:=by
 intro wh pins s σ H Q I h
 refine isTrue_or (thn (ha pins s σ H Q I h) fun c s1 e=>?_)
 cases c with
 | false=>exact isTrue_or_nil e
 | true=>exact e
theorem qby (ha:PT X a tA) (hb:PW X (.BoolOp .And (b::rest) pos) tB'):PW X (.BoolOp .And (a::b::rest) pos) (qgE tA tB'):=by
 intro wh pins s σ H Q I h
 refine isTrue_and (thn (ha pins s σ H _ I h) fun c s1 ⟨H1,I1,q1⟩=>?_)
 cases c with
 | true=>exact hb wh pins s1 σ H1 Q I1 q1
 | false=>exact ⟨H1,I1,q1⟩
theorem qbv (ha:PT X a tA) (hb:PW X (.BoolOp .Or (b::rest) pos) tB'):PW X (.BoolOp .Or (a::b::rest) pos) (tOr tA tB'):=by
 intro wh pins s σ H Q I h
 refine isTrue_or (thn (ha pins s σ H _ I h) fun c s1 ⟨H1,I1,q1⟩=>?_)
 cases c with
 | true=>exact ⟨H1,I1,q1⟩
 | false=>exact hb wh pins s1 σ H1 Q I1 q1
theorem jr (ha:PT X a tA):PT X (.UnaryOp .Not a pos) (qgF tA):=by
 intro pins s σ H Q I h
 exact isTrue_not (ha pins s σ H (fun c H1=>Q (!c) H1) I h)
def qfJ (ta tb:TE):TE:=fun σ H Q=>ta σ H fun x H1=>∃ c,x=.bl c∧if c=true then tb σ H1 Q else Q (.bl false) H1
def qgG (ta tb:TE):TE:=fun σ H Q=>ta σ H fun x H1=>∃ c,x=.bl c∧if c=true then Q (.bl true) H1 else tb σ H1 Q
def tNotV (ta:TE):TE:=fun σ H Q=>ta σ H fun x H1=>∃ c,x=.bl c∧Q (.bl (!c)) H1
theorem qba {op} {t:TE} (h:PE X a t):PE X (.BoolOp op [a] pos) t:=fun pins s σ H Q I hw=>BoolOp_one (h pins s σ H Q I hw)
theorem qa2 (ha:PE X a ta) (hb:PE X (.BoolOp .And (b::rest) pos) tb):PE X (.BoolOp .And (a::b::rest) pos) (qfJ ta tb):=by
 intro pins s σ H Q I h
 refine BoolOp_and (thn (ha pins s σ H _ I h) fun v s1 ⟨x,H1,I1,r1,q1⟩=>?_)
 obtain ⟨c,rfl,q1⟩:=q1
 cases r1
 refine wpAny_truthy_bool ?_
 cases c with
 | true=>exact hb pins s1 σ H1 Q I1 q1
 | false=>exact ⟨.bl false,H1,I1,rfl,q1⟩
theorem pe_or (ha:PE X a ta) (hb:PE X (.BoolOp .Or (b::rest) pos) tb):PE X (.BoolOp .Or (a::b::rest) pos) (qgG ta tb):=by
 intro pins s σ H Q I h
 refine BoolOp_or (thn (ha pins s σ H _ I h) fun v s1 ⟨x,H1,I1,r1,q1⟩=>?_)
 obtain ⟨c,rfl,q1⟩:=q1
 cases r1
 refine wpAny_truthy_bool ?_
 cases c with
 | false=>exact hb pins s1 σ H1 Q I1 q1
 | true=>exact ⟨.bl true,H1,I1,rfl,q1⟩
def tIf (t:TT) (ta tb:TE):TE:=fun σ H Q=>t σ H fun c H1=>if c=true then ta σ H1 Q else tb σ H1 Q
end
end L2
namespace L2
open PySem PySem.Spec PyProof.Rows
def SqL (K:PySem.W.Frag) (H:Hp) (a:Addr) (xs:List V):Prop:=
 Rd H a (.lst xs) ∨
  ∃ (o:Obj) (its:Array Value) (n:Nat),K.lookup a=some o∧o.cls=.type "list"∧o.dict=none∧o.data=.seq its n∧its.size≤sizeLine∧Vals xs its.toList
def SqT (K:PySem.W.Frag) (H:Hp) (a:Addr) (xs:List V):Prop:=
 Rd H a (.tup xs) ∨
  ∃ (o:Obj) (its:Array Value) (n:Nat),K.lookup a=some o∧o.cls=.type "tuple"∧o.data=.seq its n∧its.size≤sizeLine∧Vals xs its.toList
def absV:Value→Option V
 | .none=>some .non
 | .bool b=>some (.bl b)
 | .int i _=>some (.int i)
 | .str x _=>some (.str x)
 | .bytes b _=>some (.byt b)
 | .float b _=>some (.flt b)
 | .ref a=>some (.ref a)
 | .type n=>some (.ty n)
 | _=>none
theorem RelV.abs {x:V} {u:Value} (r:RelV x u):absV u=some x:=by
 cases x with
 | non=>cases r;rfl
 | bl _=>cases r;rfl
 | int _=>obtain ⟨t,rfl⟩:=r;rfl
 | str _=>obtain ⟨t,rfl⟩:=r;rfl
 | byt _=>obtain ⟨t,rfl⟩:=r;rfl
 | flt _=>obtain ⟨t,rfl⟩:=r;rfl
 | ref _=>cases r;rfl
 | ty _=>cases r;rfl
theorem RelV.inj {x y:V} {u:Value} (r:RelV x u) (q:RelV y u):x=y:=Option.some.inj (r.abs.symm.trans q.abs)
theorem Vals.inj:∀ {xs ys:List V} {us:List Value},Vals xs us→Vals ys us→xs=ys
 | _,_,_,.nil,.nil=>rfl
 | _,_,_,.cons r t,.cons r' t'=>by rw [r.inj r',Vals.inj t t']
section
variable {X:Cx} {pins:List (Addr×Obj)} {σ:St} {H:Hp} {s:Shared} {a:Addr} {xs ys:List V}
theorem SqL.of {K:PySem.W.Frag} (h:H a=some (.lst xs)):SqL K H a xs:=.inl (.inl h)
theorem SqT.of {K:PySem.W.Frag} (h:H a=some (.tup xs)):SqT K H a xs:=.inl (.inl h)
theorem Inv.list (I:Inv X pins σ H s) (h:SqL X.K H a xs):∃ its:List Value,Vals xs its∧PlainL s.heap a its.toArray∧xs.length≤sizeLine:=by
 rcases h with h | ⟨o,its,n,hk,hc,hd,hs,hz,r⟩
 ·obtain ⟨z,its,n,r,e⟩:=h.ok I.hok
  exact ⟨its,r,⟨_,n,e,rfl,rfl,rfl⟩,z⟩
 ·refine ⟨its.toList,r,⟨o,n,I.kIn a o hk,hc,hd,by simpa using hs⟩,?_⟩
  have e:=r.length
  simp only [Array.length_toList] at e
  omega
theorem Inv.tuple (I:Inv X pins σ H s) (h:SqT X.K H a xs):∃ its:List Value,Vals xs its∧IsTup s.heap a its.toArray∧xs.length≤sizeLine:=by
 rcases h with h | ⟨o,its,n,hk,hc,hs,hz,r⟩
 ·obtain ⟨z,its,r,p⟩:=h.ok I.hok
  exact ⟨its,r,p,z⟩
 ·refine ⟨its.toList,r,⟨o,I.kIn a o hk,hc,n,by simpa using hs⟩,?_⟩
  have e:=r.length
  simp only [Array.length_toList] at e
  omega
theorem Inv.list_inj (I:Inv X pins σ H s) (h:SqL X.K H a xs) (h':SqL X.K H a ys):xs=ys:=by
 obtain ⟨its,r,⟨o,n,e,_,_,d⟩,_⟩:=I.list h
 obtain ⟨its',r',⟨o',n',e',_,_,d'⟩,_⟩:=I.list h'
 rw [e] at e';cases e'
 rw [d] at d'
 injection d' with d1 _
 have:its=its':=by simpa using congrArg Array.toList d1
 subst this
 exact r.inj r'
theorem Inv.tuple_inj (I:Inv X pins σ H s) (h:SqT X.K H a xs) (h':SqT X.K H a ys):xs=ys:=by
 obtain ⟨its,r,⟨o,e,_,n,d⟩,_⟩:=I.tuple h
 obtain ⟨its',r',⟨o',e',_,n',d'⟩,_⟩:=I.tuple h'
 rw [e] at e';cases e'
 rw [d] at d'
 injection d' with d1 _
 have:its=its':=by simpa using congrArg Array.toList d1
 subst this
 exact r.inj r'
end
abbrev Cx.wish (X:Cx) (E:Value→Shared→Prop):Cx:={ X with xe:=E }
abbrev Cx.nox (X:Cx):Cx:=X.wish fun _ _=>False
theorem Cx.Ok.wish {X:Cx} (ok:X.Ok) (E:Value→Shared→Prop):(X.wish E).Ok:=
 ⟨ok.mod,ok.kind,ok.glob,ok.blt,ok.above,ok.inj,ok.has,ok.cab,ok.hd,ok.frames,ok.stk,ok.exf,ok.bs,ok.bsz,ok.noex,ok.exfs,ok.funs,ok.frf⟩
theorem Cx.Ok.unwish {X:Cx} {E:Value→Shared→Prop} (ok:(X.wish E).Ok):X.Ok:=
 ⟨ok.mod,ok.kind,ok.glob,ok.blt,ok.above,ok.inj,ok.has,ok.cab,ok.hd,ok.frames,ok.stk,ok.exf,ok.bs,ok.bsz,ok.noex,ok.exfs,ok.funs,ok.frf⟩
section
variable {X:Cx} {pins:List (Addr×Obj)} {σ:St} {H:Hp} {s:Shared} {E:Value→Shared→Prop}
theorem Inv.wish (I:Inv X pins σ H s) (E:Value→Shared→Prop):Inv (X.wish E) pins σ H s:=⟨I.ok.wish E,I.os,I.bare,I.base,I.loc,I.cell,I.free,I.freeC,I.pin,I.hok,I.len⟩
theorem Inv.unwish (I:Inv (X.wish E) pins σ H s):Inv X pins σ H s:=⟨I.ok.unwish,I.os,I.bare,I.base,I.loc,I.cell,I.free,I.freeC,I.pin,I.hok,I.len⟩
theorem SP.unwish {D:Ends} {f:Flow} {s':Shared} (h:SP (X.wish E) pins D f s'):SP X pins D f s':=by
 cases f with
 | next=>obtain ⟨σ',H',I,q⟩:=h;exact ⟨σ',H',I.unwish,q⟩
 | brk=>obtain ⟨σ',H',I,q⟩:=h;exact ⟨σ',H',I.unwish,q⟩
 | cont=>obtain ⟨σ',H',I,q⟩:=h;exact ⟨σ',H',I.unwish,q⟩
 | ret u=>obtain ⟨v,σ',H',I,r,q⟩:=h;exact ⟨v,σ',H',I.unwish,r,q⟩
theorem PSs.nox {st:List Stmt} {t:TS} (h:PSs X.nox st t):PSs X st t:=fun pins s σ H D I hw =>
 wpAny_mono (h pins s σ H D (I.wish _) hw) (fun _ _ q=>q.unwish) fun _ _ z=>False.elim z
end
section
variable {X:Cx} {st:Stmt} {rest:List Stmt} {t u:TS} {e:Expr} {te:TE} {pos:Pos}
def qfK:TS:=fun D σ H=>D.nx σ H
def qgH (t u:TS):TS:=fun D σ H=>t { D with nx:=u D } σ H
theorem qi:PSs X [] qfK:=fun _ _ σ H _ I h=>wpAny_execs_nil ⟨σ,H,I,h⟩
theorem qd (h1:PS X st t) (h2:PSs X rest u):PSs X (st::rest) (qgH t u):=by
 intro pins s σ H D I h
 refine wpAny_execs_cons (thn (h1 pins s σ H { D with nx:=u D } I h) fun f s1 q=>?_)
 cases f with
 | next =>
  obtain ⟨σ',H',I',q⟩:=q
  exact h2 pins s1 σ' H' D I' q
 | ret v=>exact q
 | brk=>exact q
 | cont=>exact q
theorem qf (h1:PS X st t):PSs X [st] t:=by
 intro pins s σ H D I h
 refine wpAny_execs_cons (thn (h1 pins s σ H D I h) fun f s1 q=>?_)
 cases f with
 | next=>exact wpAny_execs_nil q
 | ret v=>exact q
 | brk=>exact q
 | cont=>exact q
theorem Inv.quiet {pins:List (Addr×Obj)} {σ:St} {H:Hp} {s:Shared} (I:Inv X pins σ H s):interactive X.env=false:=by simp [interactive,I.ok.kind]
def qfL (te:TE):TS:=fun D σ H=>te σ H fun _ H1=>D.nx σ H1
theorem jU (he:PE X e te) (hs:swapsWith e none pos.line X.env=pure false:=by rfl):PS X (.Expr e pos) (qfL te):=by
 intro pins s σ H D I h
 exact wpAny_Expr_any (thn (he pins s σ H _ I h) fun v s1 ⟨x,H1,I1,r1,q1⟩=>⟨σ,H1,I1,q1⟩) I.quiet hs
def qgI (te:TE):TS:=fun D σ H=>te σ H D.rt
theorem qk (he:PE X e te):PS X (.Return (some e) pos) (qgI te):=by
 intro pins s σ H D I h
 exact wpAny_Return_some (thn (he pins s σ H _ I h) fun v s1 ⟨x,H1,I1,r1,q1⟩=>⟨x,σ,H1,I1,r1,q1⟩)
def tRetN:TS:=fun D _ H=>D.rt .non H
def qgJ (c:TT) (t u:TS):TS:=fun D σ H=>c σ H fun b H1=>if b=true then t D σ H1 else u D σ H1
theorem qF {c:Expr} {a b:List Stmt} {tc:TT} (hc:PT X c tc) (ha:PSs X a t) (hb:PSs X b u):PS X (.If c a b pos) (qgJ tc t u):=by
 intro pins s σ H D I h
 refine wpAny_If (thn (hc pins s σ H _ I h) fun d s1 ⟨H1,I1,q1⟩=>?_)
 cases d with
 | true=>exact ha pins s1 σ H1 D I1 q1
 | false=>exact hb pins s1 σ H1 D I1 q1
end
abbrev TG:=V→St→Hp→(St→Hp→Prop)→Prop
abbrev TGs:=List V→St→Hp→(St→Hp→Prop)→Prop
def PG (X:Cx) (target:Expr) (t:TG):Prop:=
 ∀ (pins:List (Addr×Obj)) (s:Shared) (σ:St) (H:Hp) (v:V) (u:Value) (Q:St→Hp→Prop),Inv X pins σ H s→RelV v u→t v σ H Q →
  wpAny (model X.prog X.w) X.A (assign target X.env u) (fun _ s'=>∃ σ' H',Inv X pins σ' H' s'∧Q σ' H') X.xe s
def PGs (X:Cx) (ts:List Expr) (t:TGs):Prop:=
 ∀ (pins:List (Addr×Obj)) (s:Shared) (σ:St) (H:Hp) (vs:List V) (us:List Value) (Q:St→Hp→Prop),Inv X pins σ H s→Vals vs us→t vs σ H Q →
  wpAny (model X.prog X.w) X.A (assignInOrder ((assignEach ts X.env).map (·.2)) us) (fun _ s'=>∃ σ' H',Inv X pins σ' H' s'∧Q σ' H') X.xe s
abbrev qfM:=V→V→V→Hp→(Hp→Prop)→Prop
def qgq (X:Cx) (t:qfM):Prop:=
 ∀ (pins:List (Addr×Obj)) (s:Shared) (σ:St) (H:Hp) (o i v:V) (ov iv u:Value) (Q:Hp→Prop),Inv X pins σ H s→RelV o ov→RelV i iv→RelV v u→t o i v H Q →
  wpAny (model X.prog X.w) X.A (setItem ov iv u) (fun _ s'=>∃ H',Inv X pins σ H' s'∧Q H') X.xe s
section
variable {X:Cx} {pos:Pos}
def qcJ (i:Nat):TG:=fun v σ H Q=>Q (σ.set i (some v)) H
theorem qv {i:Nat} {x:Str} (hN:X.N.Nodup) (hi:X.N[i]?=some x) (hx:Loc X.env.scope x) (hf:X.fn x=true∨X.env.scope.names.lookup x=some .local:=by first | exact .inl rfl | exact .inr rfl | assumption):PG X (.Name x pos) (qcJ i):=by
 intro pins s σ H v u Q I r h
 exact wpAny_assign_Name (qa4 I hN hi hx r (fun s' I'=>⟨_,H,I',h⟩) hf)
def gNil:TGs:=fun vs σ H Q=>vs=[]∧Q σ H
def gCons (t:TG) (u:TGs):TGs:=fun vs σ H Q=>∃ v r,vs=v::r∧t v σ H fun σ' H'=>u r σ' H' Q
theorem qdS:PGs X [] gNil:=by
 intro pins s σ H vs us Q I r h
 obtain ⟨e,h⟩:=h
 subst e
 cases r
 exact assignInOrder_nil ⟨σ,H,I,h⟩
theorem qa5 {e:Expr} {es:List Expr} {t:TG} {u:TGs} (h1:PG X e t) (h2:PGs X es u)
  (hs:(assignEach (e::es) X.env).map (·.2)=assign e X.env::(assignEach es X.env).map (·.2):=by rfl):PGs X (e::es) (gCons t u):=by
 intro pins s σ H vs us Q I r h
 obtain ⟨v,vr,e1,h⟩:=h
 subst e1
 cases r with
 | cons r rr =>
  rw [hs]
  refine assignInOrder_cons (thn (h1 pins s σ H _ _ _ I r h) fun _ s1 ⟨σ1,H1,I1,q1⟩=>?_)
  exact h2 pins s1 σ1 H1 _ _ Q I1 rr q1
def qgr (K:PySem.W.Frag) (n:Nat) (t:TGs):TG:=fun v σ H Q=>∃ a xs,v=.ref a∧SqT K H a xs∧xs.length=n∧t xs σ H Q
theorem qeX {es:List Expr} {k:Nat} {t:TGs} {n:Nat} (hc:X.calm=true) (h:PGs X es t)
  (hn:(assignEach es X.env).length=n:=by rfl) (hst:(assignEach es X.env).findIdx? (·.1)=none:=by rfl):PG X (.Tuple es k pos) (qgr X.K n t):=by
 intro pins s σ H v u Q I r hw
 obtain ⟨a,xs,e1,hq,hl,hw⟩:=hw
 subst e1
 cases r
 obtain ⟨its,rv,ht,hz⟩:=I.tuple hq
 refine assign_Tuple_tuple (I.ok.hd hc) ht (by simp [hn,← hl,rv.length]) hst fun h' hx=>?_
 have I1:Inv X pins σ H { s with heap:=h' }:=I.kept (t':=s.toks) fun b o e=>hx b o (Nat.ne_of_lt (Heap.lt_size e)) e
 exact h pins _ σ H xs _ Q I1 (by simpa using rv) hw
def qgK (to ti:TE) (t:qfM):TG:=fun v σ H Q=>to σ H fun o H1=>ti σ H1 fun i H2=>t o i v H2 fun H3=>Q σ H3
theorem qbz {o i:Expr} {to ti:TE} {t:qfM} (ho:PE X o to) (hi:PE X i ti) (hs:qgq X t)
  (ha:∀ v,assign (.Subscript o i pos) X.env v=(do
   let ov ← holding [v] (eval o X.env)
   let iv ← holding [v,ov] (eval i X.env)
   standAt pos
   holding [v,ov,iv] (setItem ov iv v)
   release [v,ov,iv] []):=by intro _;rfl):PG X (.Subscript o i pos) (qgK to ti t):=by
 intro pins s σ H v u Q I r h
 rw [ha]
 refine wpAny_bind (wpAny_holding (thn (ho pins s σ H _ I h) fun ov s1 ⟨x,H1,I1,r1,q1⟩=>?_))
 refine wpAny_bind (wpAny_holding (thn (hi pins s1 σ H1 _ I1 q1) fun iv s2 ⟨y,H2,I2,r2,q2⟩=>?_))
 refine wpAny_bind (wpAny_standAt (wpAny_bind (wpAny_holding (thn (hs pins s2 σ H2 x y v ov iv u _ I2 r1 r2 r q2) fun _ s3 ⟨H3,I3,q3⟩=>?_))))
 exact wpAny_release ⟨σ,H3,I3,q3⟩
def qfI (te:TE) (g:TG):TS:=fun D σ H=>te σ H fun x H1=>g x σ H1 D.nx
theorem qbb {tg e:Expr} {te:TE} {g:TG} (he:PE X e te) (hg:PG X tg g) (hs:swapsWithSole [tg] e pos.line X.env=pure false:=by rfl) (hw:swappedStores [tg] e X.env=pure none:=by rfl)
  (h1:(assignEach [tg] X.env).map (·.2)=[assign tg X.env]:=by rfl):PS X (.Assign [tg] e pos) (qfI te g):=by
 intro pins s σ H D I h
 refine wpAny_Assign_stores (thn (he pins s σ H _ I h) fun v s1 ⟨x,H1,I1,r1,q1⟩=>?_) hs hw
 rw [h1]
 exact thn (hg pins s1 σ H1 x v _ I1 r1 q1) fun _ s2 q=>q
theorem qu {i:Nat} {x:Str} {e:Expr} {te:TE} {pos':Pos} (hN:X.N.Nodup) (hi:X.N[i]?=some x) (hx:Loc X.env.scope x) (he:PE X e te) (hs:swapsWith e (some (.Name x pos')) pos.line X.env=pure false:=by rfl) (hf:X.fn x=true∨X.env.scope.names.lookup x=some .local:=by first | exact .inl rfl | exact .inr rfl | assumption) :
  PS X (.Assign [.Name x pos'] e pos) (qfI te (qcJ i)):=by
 intro pins s σ H D I h
 refine wpAny_Assign_Name (thn (he pins s σ H _ I h) fun v s1 ⟨y,H1,I1,r1,q1⟩=>?_) hs
 exact qa4 I1 hN hi hx r1 (fun s2 I2=>⟨_,H1,I2,q1⟩) hf
end
section
variable {X:Cx} {pos:Pos}
def tWhile (c:TT) (tb:TS):TS:=fun D σ H=>∃ W:Nat→St→Hp→Prop,(∃ m,W m σ H)∧∀ m σ H,W m σ H →
 c σ H fun b H1=>if b=true then ∃ N:St→Hp→Prop,(∀ σ' H',N σ' H'→∃ m',m' < m∧W m' σ' H')∧tb { D with nx:=N,ct:=N,bk:=D.nx } σ H1 else D.nx σ H1
theorem qcY {c:Expr} {body:List Stmt} {tc:TT} {tb:TS} (hp:PassesOwn (model X.prog X.w) X.A X.env X.xe) (hc:PT X c tc) (hb:PSs X body tb):PS X (.While c body [] pos) (tWhile tc tb):=by
 intro pins s σ H D I h
 obtain ⟨W,⟨m0,w0⟩,turn⟩:=h
 refine wpAny_While (codeAny_whileLoop (fun n s'=>∃ σ' H',Inv X pins σ' H' s'∧W n σ' H') ?_ m0 ⟨σ,H,I,w0⟩)
 rintro n s1 ⟨σ1,H1,I1,w1⟩
 refine wpAny_passesOwn hp (thn (hc pins s1 σ1 H1 _ I1 (turn n σ1 H1 w1)) fun b s2 ⟨H2,I2,q2⟩=>?_)
 cases b with
 | true =>
  obtain ⟨N,hN,q2⟩:=q2
  rw [if_pos rfl]
  refine wpAny_passesOwn hp (thn (hb pins s2 σ1 H2 _ I2 q2) fun f s3 q3=>?_)
  cases f with
  | next =>
   obtain ⟨σ3,H3,I3,n3⟩:=q3
   obtain ⟨m',hm,w3⟩:=hN σ3 H3 n3
   exact ⟨m',hm,σ3,H3,I3,w3⟩
  | cont =>
   obtain ⟨σ3,H3,I3,n3⟩:=q3
   obtain ⟨m',hm,w3⟩:=hN σ3 H3 n3
   exact ⟨m',hm,σ3,H3,I3,w3⟩
  | brk=>exact q3
  | ret v=>exact q3
 | false =>
  rw [if_neg Bool.false_ne_true]
  exact wpAny_execs_nil ⟨σ1,H2,I2,q2⟩
end
structure It where
 go:Nat→Hp→Prop
 yld:Nat→Hp→V→Hp→Prop
 stop:Nat→Hp→Prop
def qcZ (X:Cx) (pins:List (Addr×Obj)) (H:Hp) (b:Addr):Prop:=
 H b=none∧b≠X.env.locals∧b∉X.fs∧(b∈X.ex∨X.s₀.heap.objs.size≤b)∧(∀ x c,X.env.cells.lookup x=some c→c≠b)∧∀ p∈X.pn++pins,p.1≠b
theorem Inv.fpOk {X:Cx} {pins:List (Addr×Obj)} {σ:St} {H H':Hp} {s:Shared} {b:Addr} (I:Inv X pins σ H s) (hb:s.heap.objs.size≤b) (hn:H' b=none):qcZ X pins H' b:=by
 refine ⟨hn,Nat.ne_of_gt (Nat.lt_of_lt_of_le I.lt hb),I.nofs hb,.inr (Nat.le_trans I.sz hb),fun x c e z=>?_,fun p hp z=>?_⟩
 ·obtain ⟨v,q⟩:=I.cell x c e
  exact absurd (Nat.lt_of_lt_of_le q.lt (by rw [z];exact hb)) (Nat.lt_irrefl _)
 ·exact absurd (Nat.lt_of_lt_of_le (Heap.lt_size (I.pin p hp).1) (by rw [z];exact hb)) (Nat.lt_irrefl _)
structure Turn (P:Program) (w:World) (K:PySem.W.Frag) (tg:Expr) (J:It) (fp:List Addr) (it:Addr) (tn:Nat→Heap→Prop):Prop where
 mem:it∈fp
 obj:∀ i h,tn i h→∀ b∈fp,∃ o,h.get? b=some o∧∀ v,o.data≠.cell v
 keep:∀ i h h',tn i h→(∀ b∈fp,∀ o,h.get? b=some o→h'.get? b=some o)→tn i h'
 item:∀ (X:Cx),X.prog=P→X.w=w→X.K=K→X.calm=true→∀ (i:Nat) (pins:List (Addr×Obj)) (s:Shared) (σ:St) (H:Hp) (E:Value→Shared→Prop),Inv X pins σ H s→(∀ b∈fp,qcZ X pins H b)→tn i s.heap→J.go i H →
  wpAny (model P w) X.A (pyNext (.ref it)) (fun r s1=>∃ u,r=some u ∧
   wpAny (model P w) X.A (letOwnedTupleGo tg (.ref it) u) (fun _ s2=>∃ x H',Inv X pins σ H' s2∧RelV x u∧J.yld i H x H'∧tn (i + 1) s2.heap∧∀ b∈fp,H' b=none) E s1) E s
 done:∀ (X:Cx),X.prog=P→X.w=w→X.K=K→X.calm=true→∀ (i:Nat) (pins:List (Addr×Obj)) (s:Shared) (σ:St) (H:Hp) (E:Value→Shared→Prop),Inv X pins σ H s→(∀ b∈fp,qcZ X pins H b)→tn i s.heap→J.stop i H →
  wpAny (model P w) X.A (pyNext (.ref it)) (fun r s1=>r=none∧Inv X pins σ H s1) E s
 self:∀ (A:Around) (i:Nat) (s:Shared) (Q:Value→Shared→Prop) (E:Value→Shared→Prop),tn i s.heap→Q (.ref it) s→wpAny (model P w) A (pyIter (.ref it)) Q E s
abbrev TI:=St→Hp→(It→Hp→Prop)→Prop
def PIE (X:Cx) (pins:List (Addr×Obj)) (σ:St) (tg:Expr) (R:It→Hp→Prop) (itv:Value) (s2:Shared):Prop:=
 ∃ (it:Addr) (fp:List Addr) (tn:Nat→Heap→Prop) (J:It) (H':Hp),itv=.ref it∧Inv X pins σ H' s2∧Turn X.prog X.w X.K tg J fp it tn∧tn 0 s2.heap∧(∀ b∈fp,qcZ X pins H' b)∧R J H'
def PI (X:Cx) (tg iter:Expr) (wi:TI):Prop:=
 ∀ (pins:List (Addr×Obj)) (s:Shared) (σ:St) (H:Hp) (R:It→Hp→Prop),Inv X pins σ H s→wi σ H R →
  wpAny (model X.prog X.w) X.A (eval iter X.env) (fun v s1=>wpAny (model X.prog X.w) X.A (pyIter v) (PIE X pins σ tg R) X.xe s1) X.xe s
theorem qft {M:Model} {A:Around} {E:Value→Shared→Prop} {s:Shared} {tg:Expr} {it:Addr} {u:Value} {o:Obj} {n:String} {vs:Array Value} {Q:Unit→Shared→Prop} (ho:s.heap.get? it=some o) (hc:o.cls=.type n) (hd:o.data=.fields vs)
    (hn:["enumerate", "zip", "dict_itemiterator", "dict_reverseitemiterator", "odict_iterator", "itertools.zip_longest", "itertools.pairwise"].contains n=false) (hQ:Q () s):wpAny M A (letOwnedTupleGo tg (.ref it) u) Q E s:=by
  unfold letOwnedTupleGo
  cases tg<;>first
    | exact wpAny_pure hQ
    | (cases u<;>first
        | exact wpAny_pure hQ
        | (refine wpAny_bind (wpAny_load ho ?_)
           rw [hc,hd]
           show wpAny M A (if (["enumerate", "zip", "dict_itemiterator", "dict_reverseitemiterator", "odict_iterator", "itertools.zip_longest", "itertools.pairwise"].contains n&&vs[0]?==some (rawInt _))=true then _ else _) Q E s
           rw [if_neg (by intro h;rw [hn,Bool.false_and] at h;cases h)]
           exact wpAny_pure hQ))
def Itl (K:PySem.W.Frag) (a:Addr):It:=
 ⟨fun i H=>∃ xs x,SqL K H a xs∧xs[i]?=some x,fun i H x H'=>H'=H∧∀ xs,SqL K H a xs→xs[i]?=some x,fun i H=>∃ xs,SqL K H a xs∧xs.length≤i⟩
def Itt (K:PySem.W.Frag) (a:Addr):It:=
 ⟨fun i H=>∃ xs x,SqT K H a xs∧xs[i]?=some x,fun i H x H'=>H'=H∧∀ xs,SqT K H a xs→xs[i]?=some x,fun i H=>∃ xs,SqT K H a xs∧xs.length≤i⟩
def Itr (lo:Int) (n:Nat):It:=⟨fun i _=>i < n,fun i H x H'=>H'=H∧x=.int (lo + i),fun i _=>n≤i⟩
theorem turn_list {P:Program} {w:World} {K:PySem.W.Frag} {tg:Expr} (a it:Addr):Turn P w K tg (Itl K a) [it] it (fun i h=>h.IsListIter it a i) where
 mem:=by simp
 obj:=fun i h st b hb=>by
  have e:b=it:=by simpa using hb
  subst e
  obtain ⟨o,e,c,d⟩:=st
  exact ⟨o,e,fun v z=>by rw [d] at z;cases z⟩
 keep:=fun i h h' st k=>st.at fun o e=>k it (by simp) o e
 item:=by
  intro X hP hw hK hc i pins s σ H E I hf st hg
  subst hP hw hK
  obtain ⟨xs,x,hq,hx⟩:=hg
  obtain ⟨its,rv,p,hz⟩:=I.list hq
  obtain ⟨u,hu,ru⟩:=rv.get hx
  obtain ⟨f0,f1,f2,f3,f4,f5⟩:=hf it (by simp)
  refine wpAny_pyNext_list_item st p.isList (x:=u) (by simpa using hu) fun h' st' sb=>?_
  have I1:Inv X pins σ H { s with heap:=h' }:=I.turned (t':=s.toks) (fun b o hb e=>(sb.2 b hb).trans e) f0 f1 f3 f4 f5
  obtain ⟨o,e,c,d⟩:=id st'
  exact ⟨u,rfl,qft (s:={ s with heap:=h' }) e c d (by decide) ⟨x,H,I1,ru,⟨rfl,fun ys hy=>by rw [I.list_inj hy hq];exact hx⟩,st',fun b hb=>(hf b hb).1⟩⟩
 done:=by
  intro X hP hw hK hc i pins s σ H E I hf st hg
  subst hP hw hK
  obtain ⟨xs,hq,hx⟩:=hg
  obtain ⟨its,rv,p,hz⟩:=I.list hq
  obtain ⟨f0,f1,f2,f3,f4,f5⟩:=hf it (by simp)
  have hl:=rv.length
  exact wpAny_pyNext_list_end (I.ok.hd hc) st p.isList (by simp;omega) fun h' eb=>⟨rfl,I.turned (t':=s.toks) (fun b o hb e=>eb b o hb e) f0 f1 f3 f4 f5⟩
 self:=fun _ _ _ _ _ st h=>wpAny_pyIter_listiter st h
theorem turn_tuple {P:Program} {w:World} {K:PySem.W.Frag} {tg:Expr} (a it:Addr):Turn P w K tg (Itt K a) [it] it (fun i h=>h.IsTupleIter it a i) where
 mem:=by simp
 obj:=fun i h st b hb=>by
  have e:b=it:=by simpa using hb
  subst e
  obtain ⟨o,e,c,d⟩:=st
  exact ⟨o,e,fun v z=>by rw [d] at z;cases z⟩
 keep:=fun i h h' st k=>st.at fun o e=>k it (by simp) o e
 item:=by
  intro X hP hw hK hc i pins s σ H E I hf st hg
  subst hP hw hK
  obtain ⟨xs,x,hq,hx⟩:=hg
  obtain ⟨its,rv,p,hz⟩:=I.tuple hq
  obtain ⟨u,hu,ru⟩:=rv.get hx
  obtain ⟨f0,f1,f2,f3,f4,f5⟩:=hf it (by simp)
  refine wpAny_pyNext_tuple_item st (show s.heap.IsTuple a its.toArray from p) (x:=u) (by simpa using hu) fun h' st' sb=>?_
  have I1:Inv X pins σ H { s with heap:=h' }:=I.turned (t':=s.toks) (fun b o hb e=>(sb.2 b hb).trans e) f0 f1 f3 f4 f5
  obtain ⟨o,e,c,d⟩:=id st'
  exact ⟨u,rfl,qft (s:={ s with heap:=h' }) e c d (by decide) ⟨x,H,I1,ru,⟨rfl,fun ys hy=>by rw [I.tuple_inj hy hq];exact hx⟩,st',fun b hb=>(hf b hb).1⟩⟩
 done:=by
  intro X hP hw hK hc i pins s σ H E I hf st hg
  subst hP hw hK
  obtain ⟨xs,hq,hx⟩:=hg
  obtain ⟨its,rv,p,hz⟩:=I.tuple hq
  obtain ⟨f0,f1,f2,f3,f4,f5⟩:=hf it (by simp)
  have hl:=rv.length
  exact wpAny_pyNext_tuple_end (I.ok.hd hc) st (show s.heap.IsTuple a its.toArray from p) (by simp;omega) fun h' eb=>⟨rfl,I.turned (t':=s.toks) (fun b o hb e=>eb b o hb e) f0 f1 f3 f4 f5⟩
 self:=fun _ _ _ _ _ st h=>wpAny_pyIter_tupleiter st h
theorem turn_range {P:Program} {w:World} {K:PySem.W.Frag} {tg:Expr} (it:Addr) (lo:Int) (n:Nat):Turn P w K tg (Itr lo n) [it] it (fun i h=>IsRangeIter h it (lo + (i:Nat) * 1) ((n:Int) - (i:Nat)) 1) where
 mem:=by simp
 obj:=fun i h st b hb=>by
  have e:b=it:=by simpa using hb
  subst e
  exact ⟨_,st,fun v z=>by
   have z':Data.fields _=Data.cell v:=z
   cases z'⟩
 keep:=fun i h h' st k=>k it (by simp) _ st
 item:=by
  intro X hP hw hK hc i pins s σ H E I hf st hg
  subst hP hw hK
  obtain ⟨f0,f1,f2,f3,f4,f5⟩:=hf it (by simp)
  have W:=Walks.range (prog:=X.prog) (w:=X.w) (I.ok.hd hc) it lo 1 n
  refine W.item i s _ _ hg st fun v h' tk hv st' kk=>?_
  obtain ⟨t,rfl⟩:=hv
  have I1:Inv X pins σ H { s with heap:=h',toks:=tk }:=I.turned (fun b o hb e=>kk b o (by simpa using hb) e) f0 f1 f3 f4 f5
  refine ⟨_,rfl,qft (s:={ s with heap:=h',toks:=tk }) (n:="range_iterator") st' rfl rfl (by decide) ⟨.int (lo + i),H,I1,⟨t,?_⟩,⟨rfl,rfl⟩,st',fun b hb=>(hf b hb).1⟩⟩
  rw [Int.mul_one]
 done:=by
  intro X hP hw hK hc i pins s σ H E I hf st hg
  subst hP hw hK
  obtain ⟨f0,f1,f2,f3,f4,f5⟩:=hf it (by simp)
  exact wpAny_pyNext_range_end (I.ok.hd hc) st (by have:n≤i:=hg;omega) fun h' eb=>⟨rfl,I.turned (t':=s.toks) (fun b o hb e=>eb b o hb e) f0 f1 f3 f4 f5⟩
 self:=fun _ _ _ _ _ st h=>wpAny_pyIter_rangeiter st h
end L2
namespace L2
open PySem PySem.Spec PyProof.Rows
section
variable {X:Cx} {tg:Expr}
theorem qc0 {pins:List (Addr×Obj)} {σ:St} {H:Hp} {s:Shared} {R:It→Hp→Prop} {E:Value→Shared→Prop} {lo hi:Int} {t u v:Tok} {tk:Nat} (I:Inv X pins σ H s) (h1:-(2 ^ 62)≤lo) (h2:lo < 2 ^ 62) (h3:-(2 ^ 62)≤hi) (h4:hi < 2 ^ 62)
  (q:R (Itr lo (hi - lo).toNat) H):wpAny (model X.prog X.w) X.A (pyIter (.ref s.heap.objs.size)) (PIE X pins σ tg R) E { s with heap:=s.heap.push { cls:=.type "range",data:=.fields #[.int lo t,.int hi u,.int 1 v] },toks:=tk }:=by
 refine wpAny_pyIter_range (IsRange.new ..) (small_one h1 h2 h3 h4) ?_
 have I1:Inv X pins σ H { s with heap:=s.heap.push { cls:=.type "range",data:=.fields #[.int lo t,.int hi u,.int 1 v] },toks:=tk }:=I.kept fun b o e=>Heap.get?_push_of_some _ e
 refine ⟨(s.heap.push { cls:=.type "range",data:=.fields #[.int lo t,.int hi u,.int 1 v] }).objs.size,[(s.heap.push { cls:=.type "range",data:=.fields #[.int lo t,.int hi u,.int 1 v] }).objs.size],_,_,H,rfl,
  I1.kept (t':=tk) fun b o e=>Heap.get?_push_of_some _ e,turn_range _ lo (hi - lo).toNat,?_,fun b hb=>?_,q⟩
 ·have e1:lo + ((0:Nat):Int) * 1=lo:=by simp
  have e2:(((hi - lo).toNat:Nat):Int) - ((0:Nat):Int)=Builtin.Range.rangeSize lo hi 1:=by rw [rangeSize_one];split<;>omega
  show IsRangeIter _ _ (lo + ((0:Nat):Int) * 1) ((((hi - lo).toNat:Nat):Int) - ((0:Nat):Int)) 1
  rw [e1,e2]
  exact Heap.get?_push_size _ rfl
 ·have e:b=(s.heap.push { cls:=.type "range",data:=.fields #[.int lo t,.int hi u,.int 1 v] }).objs.size:=by simpa using hb
  subst e
  exact I1.fpOk (Nat.le_refl _) (I1.hok.fresh (Nat.le_refl _))
def qfN (ta:TA):TI:=fun σ H R=>ta σ H fun vs H1=>∃ j:Int,vs=[.int j]∧-(2 ^ 62)≤j∧j < 2 ^ 62∧R (Itr 0 j.toNat) H1
def qfO (ta:TA):TI:=fun σ H R=>ta σ H fun vs H1=>∃ i j:Int,vs=[.int i,.int j]∧(-(2 ^ 62)≤i∧i < 2 ^ 62∧-(2 ^ 62)≤j∧j < 2 ^ 62)∧R (Itr i (j - i).toNat) H1
theorem jt {a:Expr} {ta:TA} {p pos:Pos} (hg:Gl X "range") (hm:X.mg "range"=none) (ha:PA X [a] ta) (hs:starEach [a] X.env=[(false,eval a X.env)]:=by rfl):PI X tg (.Call (.Name "range" p) [a] [] pos) (qfN ta):=by
 intro pins s σ H R I h
 refine Call_ (qa9 I hg hm boot_range (PyProof.Rows.callWith_type1 (thn (ha pos pins s σ H _ I h) fun us s1 ⟨vs,H1,I1,r1,q1⟩=>?_) hs rfl))
 obtain ⟨j,e,q1,q2,q⟩:=q1
 subst e
 cases r1 with
 | cons r rr =>
  cases rr
  obtain ⟨t,rfl⟩:=r
  exact call_range_1 (qc0 I1 (by omega) (by omega) q1 q2 (by simpa using q))
theorem pi_range2 {a b:Expr} {ta:TA} {p pos:Pos} (hg:Gl X "range") (hm:X.mg "range"=none) (ha:PA X [a,b] ta) (hs:starEach [a,b] X.env=[(false,eval a X.env),(false,eval b X.env)]:=by rfl) (hs2:starEach [b] X.env=[(false,eval b X.env)]:=by rfl) :
  PI X tg (.Call (.Name "range" p) [a,b] [] pos) (qfO ta):=by
 intro pins s σ H R I h
 refine Call_ (qa9 I hg hm boot_range (PyProof.Rows.callWith_type1 (thn (ha pos pins s σ H _ I h) fun us s1 ⟨vs,H1,I1,r1,q1⟩=>?_) (by rw [hs,hs2]) (by rw [hs2];rfl)))
 obtain ⟨i,j,e,⟨q1,q2,q3,q4⟩,q⟩:=q1
 subst e
 cases r1 with
 | cons r rr =>
  cases rr with
  | cons r' rr =>
   cases rr
   obtain ⟨t,rfl⟩:=r
   obtain ⟨t',rfl⟩:=r'
   exact call_range_2 (qc0 I1 q1 q2 q3 q4 q)
def qgL (wi:TI) (g:TG) (tb:TS):TS:=fun D σ H=>wi σ H fun J H1=>∃ W:Nat→Nat→St→Hp→Prop,(∃ m,W 0 m σ H1)∧∀ i m σ H,W i m σ H →
 (J.stop i H∧D.nx σ H)∨(J.go i H∧∃ N:St→Hp→Prop,(∀ σ' H',N σ' H'→∃ m',m' < m∧W (i + 1) m' σ' H')∧∀ x H',J.yld i H x H'→g x σ H' fun σ2 H2=>tb { D with nx:=N,ct:=N,bk:=D.nx } σ2 H2)
def qb7 (fp:List Addr) (h:Heap):List (Addr×Obj):=fp.filterMap fun b=>(h.get? b).map fun o=>(b,o)
theorem qaa {fp:List Addr} {h:Heap} {b:Addr} {o:Obj} (hb:b∈fp) (e:h.get? b=some o):(b,o)∈qb7 fp h:=List.mem_filterMap.mpr ⟨b,hb,by rw [e];rfl⟩
theorem of_pinsAt {fp:List Addr} {h:Heap} {p:Addr×Obj} (hp:p∈qb7 fp h):p.1∈fp∧h.get? p.1=some p.2:=by
 obtain ⟨b,hb,e⟩:=List.mem_filterMap.mp hp
 cases q:h.get? b with
 | none=>rw [q] at e;cases e
 | some o =>
  rw [q] at e
  have e':(b,o)=p:=Option.some.inj e
  subst e'
  exact ⟨hb,q⟩
theorem Inv.pinned {pins:List (Addr×Obj)} {σ:St} {H:Hp} {s:Shared} {fp:List Addr} (I:Inv X pins σ H s) (hf:∀ b∈fp,qcZ X pins H b) (ho:∀ b∈fp,∃ o,s.heap.get? b=some o∧∀ v,o.data≠.cell v):Inv X (pins++qb7 fp s.heap) σ H s:=
 I.pins_of fun p hp=>(List.mem_append.mp hp).elim (fun z=>I.pin p (List.mem_append_right _ z)) fun z=>by
  obtain ⟨hb,e⟩:=of_pinsAt z
  obtain ⟨f0,f1,f2,_⟩:=hf p.1 hb
  obtain ⟨o,e',d⟩:=ho p.1 hb
  rw [e] at e';cases e'
  exact ⟨e,f0,f1,f2,d⟩
theorem Inv.unpinned {pins pl:List (Addr×Obj)} {σ:St} {H:Hp} {s:Shared} (I:Inv X (pins++pl) σ H s):Inv X pins σ H s:=I.pins_of fun p hp=>I.pin p (List.mem_append_right _ (List.mem_append_left _ hp))
theorem jP {iter:Expr} {body:List Stmt} {wi:TI} {g:TG} {tb:TS} {pos:Pos} (hp:PassesOwn (model X.prog X.w) X.A X.env X.xe) (hc:X.calm=true) (hi:PI X tg iter wi) (hg:PG X tg g) (hb:PSs X body tb)
  (hs:∀ x,foldedSetIterable iter X.env x=pure x:=by intro _;rfl):PS X (.For tg iter body [] pos) (qgL wi g tb):=by
 intro pins s σ H D I h
 refine wpAny_For (thn (hi pins s σ H _ I h) fun v s1 h1=>thn h1 fun itv s2 h2=>?_) hs
 obtain ⟨it,fp,tn,J,H2,e,I2,T,st2,f2,W,⟨m0,w0⟩,turn⟩:=h2
 subst e
 have stat:∀ {H':Hp},(∀ b∈fp,H' b=none)→∀ b∈fp,qcZ X pins H' b:=fun hn b hb=>⟨hn b hb,(f2 b hb).2⟩
 refine codeAny_forLoop_any (fun n s'=>∃ i σ' H',Inv X pins σ' H' s'∧tn i s'.heap∧(∀ b∈fp,H' b=none)∧W i n σ' H') ?_ m0 ⟨0,σ,H2,I2,st2,fun b hb=>(f2 b hb).1,w0⟩
 rintro n s3 ⟨i,σ3,H3,I3,st3,fr3,w3⟩
 rcases turn i n σ3 H3 w3 with ⟨stop,qn⟩ | ⟨go,N,hN,step⟩
 ·refine wpAny_passesOwn hp (thn (T.done X rfl rfl rfl hc i pins s3 σ3 H3 X.xe I3 (stat fr3) st3 stop) fun r s4 ⟨hr,I4⟩=>?_)
  subst hr
  exact wpAny_execs_nil ⟨σ3,H3,I4,qn⟩
 ·refine wpAny_passesOwn hp (thn (T.item X rfl rfl rfl hc i pins s3 σ3 H3 X.xe I3 (stat fr3) st3 go) fun r s4 ⟨u,hr,h4⟩=>?_)
  subst hr
  refine wpAny_passesOwn hp (thn h4 fun _ s5 ⟨x,H5,I5,r5,y5,st5,fr5⟩=>?_)
  have I5':=I5.pinned (stat fr5) (T.obj _ _ st5)
  refine wpAny_passesOwn hp (thn (hg _ s5 σ3 H5 x u _ I5' r5 (step x H5 y5)) fun _ s6 ⟨σ6,H6,I6,q6⟩=>?_)
  refine wpAny_passesOwn hp (thn (hb _ s6 σ6 H6 _ I6 q6) fun f s7 q7=>?_)
  have again:∀ {σ7:St} {H7:Hp},Inv X (pins++qb7 fp s5.heap) σ7 H7 s7→N σ7 H7→∃ m,m < n∧∃ i σ' H',Inv X pins σ' H' s7∧tn i s7.heap∧(∀ b∈fp,H' b=none)∧W i m σ' H':=fun {σ7 H7} I7 n7=>by
   obtain ⟨m',hm,w7⟩:=hN σ7 H7 n7
   refine ⟨m',hm,i + 1,σ7,H7,I7.unpinned,T.keep _ _ _ st5 fun b hb o e=>(I7.pin (b,o) (List.mem_append_right _ (List.mem_append_right _ (qaa hb e)))).1,fun b hb=>?_,w7⟩
   obtain ⟨o,e,d⟩:=T.obj _ _ st5 b hb
   exact (I7.pin (b,o) (List.mem_append_right _ (List.mem_append_right _ (qaa hb e)))).2.1
  cases f with
  | next=>obtain ⟨σ7,H7,I7,n7⟩:=q7;exact again I7 n7
  | cont=>obtain ⟨σ7,H7,I7,n7⟩:=q7;exact again I7 n7
  | brk=>obtain ⟨σ7,H7,I7,q7⟩:=q7;exact ⟨σ7,H7,I7.unpinned,q7⟩
  | ret v=>obtain ⟨x7,σ7,H7,I7,r7,q7⟩:=q7;exact ⟨x7,σ7,H7,I7.unpinned,r7,q7⟩
end
theorem qab {K:PySem.W.Frag} {a:Addr} {xs:List V} {g:TG} {tb:TS} {D:Ends} {σ:St} {H:Hp} (Pv:Nat→St→Hp→Prop) (h0:Pv 0 σ H) (hl:∀ i σ H,i≤xs.length→Pv i σ H→SqL K H a xs)
  (hs:∀ i x σ H,xs[i]?=some x→Pv i σ H→g x σ H fun σ2 H2=>tb { D with nx:=Pv (i + 1),ct:=Pv (i + 1),bk:=D.nx } σ2 H2) (hd:∀ σ H,Pv xs.length σ H→D.nx σ H) :
  ∃ W:Nat→Nat→St→Hp→Prop,(∃ m,W 0 m σ H)∧∀ i m σ H,W i m σ H →
   ((Itl K a).stop i H∧D.nx σ H)∨((Itl K a).go i H∧∃ N:St→Hp→Prop,(∀ σ' H',N σ' H'→∃ m',m' < m∧W (i + 1) m' σ' H')∧∀ x H',(Itl K a).yld i H x H'→g x σ H' fun σ2 H2=>tb { D with nx:=N,ct:=N,bk:=D.nx } σ2 H2):=by
 refine ⟨fun i m σ H=>m=xs.length - i∧i≤xs.length∧Pv i σ H,⟨xs.length,by simp,Nat.zero_le _,h0⟩,?_⟩
 rintro i m σ H ⟨rfl,hi,p⟩
 have q:=hl i σ H hi p
 by_cases hlt:i < xs.length
 ·refine .inr ⟨⟨xs,xs[i],q,by simp [hlt]⟩,Pv (i + 1),fun σ' H' p'=>⟨xs.length - (i + 1),by omega,rfl,hlt,p'⟩,fun x H' y=>?_⟩
  obtain ⟨e,y⟩:=y
  subst e
  exact hs i x σ _ (y xs q) p
 ·have e:i=xs.length:=by omega
  subst e
  exact .inl ⟨⟨xs,q,Nat.le_refl _⟩,hd σ H p⟩
theorem qdT {K:PySem.W.Frag} {a:Addr} {xs:List V} {g:TG} {tb:TS} {D:Ends} {σ:St} {H:Hp} (Pv:Nat→St→Hp→Prop) (h0:Pv 0 σ H) (hl:∀ i σ H,i≤xs.length→Pv i σ H→SqT K H a xs)
  (hs:∀ i x σ H,xs[i]?=some x→Pv i σ H→g x σ H fun σ2 H2=>tb { D with nx:=Pv (i + 1),ct:=Pv (i + 1),bk:=D.nx } σ2 H2) (hd:∀ σ H,Pv xs.length σ H→D.nx σ H) :
  ∃ W:Nat→Nat→St→Hp→Prop,(∃ m,W 0 m σ H)∧∀ i m σ H,W i m σ H →
   ((Itt K a).stop i H∧D.nx σ H)∨((Itt K a).go i H∧∃ N:St→Hp→Prop,(∀ σ' H',N σ' H'→∃ m',m' < m∧W (i + 1) m' σ' H')∧∀ x H',(Itt K a).yld i H x H'→g x σ H' fun σ2 H2=>tb { D with nx:=N,ct:=N,bk:=D.nx } σ2 H2):=by
 refine ⟨fun i m σ H=>m=xs.length - i∧i≤xs.length∧Pv i σ H,⟨xs.length,by simp,Nat.zero_le _,h0⟩,?_⟩
 rintro i m σ H ⟨rfl,hi,p⟩
 have q:=hl i σ H hi p
 by_cases hlt:i < xs.length
 ·refine .inr ⟨⟨xs,xs[i],q,by simp [hlt]⟩,Pv (i + 1),fun σ' H' p'=>⟨xs.length - (i + 1),by omega,rfl,hlt,p'⟩,fun x H' y=>?_⟩
  obtain ⟨e,y⟩:=y
  subst e
  exact hs i x σ _ (y xs q) p
 ·have e:i=xs.length:=by omega
  subst e
  exact .inl ⟨⟨xs,q,Nat.le_refl _⟩,hd σ H p⟩
theorem j6 {lo:Int} {n:Nat} {g:TG} {tb:TS} {D:Ends} {σ:St} {H:Hp} (Pv:Nat→St→Hp→Prop) (h0:Pv 0 σ H)
  (hs:∀ i σ H,i < n→Pv i σ H→g (.int (lo + i)) σ H fun σ2 H2=>tb { D with nx:=Pv (i + 1),ct:=Pv (i + 1),bk:=D.nx } σ2 H2) (hd:∀ σ H,Pv n σ H→D.nx σ H) :
  ∃ W:Nat→Nat→St→Hp→Prop,(∃ m,W 0 m σ H)∧∀ i m σ H,W i m σ H →
   ((Itr lo n).stop i H∧D.nx σ H)∨((Itr lo n).go i H∧∃ N:St→Hp→Prop,(∀ σ' H',N σ' H'→∃ m',m' < m∧W (i + 1) m' σ' H')∧∀ x H',(Itr lo n).yld i H x H'→g x σ H' fun σ2 H2=>tb { D with nx:=N,ct:=N,bk:=D.nx } σ2 H2):=by
 refine ⟨fun i m σ H=>m=n - i∧i≤n∧Pv i σ H,⟨n,by simp,Nat.zero_le _,h0⟩,?_⟩
 rintro i m σ H ⟨rfl,hi,p⟩
 by_cases hlt:i < n
 ·refine .inr ⟨hlt,Pv (i + 1),fun σ' H' p'=>⟨n - (i + 1),by omega,rfl,hlt,p'⟩,fun x H' y=>?_⟩
  obtain ⟨e,y⟩:=y
  subst e y
  exact hs i σ _ hlt p
 ·have e:i=n:=by omega
  subst e
  exact .inl ⟨Nat.le_refl _,hd σ H p⟩
end L2
namespace L2
open PySem PySem.Spec PyProof.Rows
abbrev R2:=V→V→Hp→VK→Prop
def OpR (X:Cx) (f:Value→Value→Sem Value) (r:R2):Prop:=
 ∀ (pins:List (Addr×Obj)) (s:Shared) (σ:St) (H:Hp) (x y:V) (v u:Value) (Q:VK),Inv X pins σ H s→RelV x v→RelV y u→r x y H Q →
  wpAny (model X.prog X.w) X.A (f v u) (EP X pins σ Q) X.xe s
def UnR (X:Cx) (f:Value→Sem Value) (r:V→Hp→VK→Prop):Prop:=
 ∀ (pins:List (Addr×Obj)) (s:Shared) (σ:St) (H:Hp) (x:V) (v:Value) (Q:VK),Inv X pins σ H s→RelV x v→r x H Q →
  wpAny (model X.prog X.w) X.A (f v) (EP X pins σ Q) X.xe s
def zH (X:Cx) (f:Value) (r:List V→Hp→VK→Prop):Prop:=
 ∀ (pins:List (Addr×Obj)) (s:Shared) (σ:St) (H:Hp) (xs:List V) (us:List Value) (Q:VK),Inv X pins σ H s→Vals xs us→r xs H Q →
  wpAny (model X.prog X.w) X.A (call f us) (EP X pins σ Q) X.xe s
def tOp (r:R2) (ta tb:TE):TE:=fun σ H Q=>ta σ H fun x H1=>tb σ H1 fun y H2=>r x y H2 Q
def tUn (r:V→Hp→VK→Prop) (ta:TE):TE:=fun σ H Q=>ta σ H fun x H1=>r x H1 Q
def rI (C:Int→Int→Prop) (g:Int→Int→V):R2:=fun x y H Q=>∃ i j,x=.int i∧y=.int j∧C i j∧Q (g i j) H
def rI0 (g:Int→Int→V):R2:=fun x y H Q=>∃ i j,x=.int i∧y=.int j∧Q (g i j) H
def rU (g:Int→V):V→Hp→VK→Prop:=fun x H Q=>∃ i,x=.int i∧Q (g i) H
section
variable {X:Cx} {a b c:Expr} {ta tb tc:TE} {pos:Pos}
theorem qgs (ha:PE X a ta) (hb:PE X b tb) {pins:List (Addr×Obj)} {s:Shared} {σ:St} {H:Hp} {R:V→V→Hp→Prop} (I:Inv X pins σ H s)
  (h:ta σ H fun x H1=>tb σ H1 fun y H2=>R x y H2) {Q:Value→Shared→Prop} {f:Value→Value→Sem Value}
  (hf:∀ v u s2 x y H2,Inv X pins σ H2 s2→RelV x v→RelV y u→R x y H2→wpAny (model X.prog X.w) X.A (f v u) Q X.xe s2) :
  wpAny (model X.prog X.w) X.A (eval a X.env) (fun v s₁=>wpAny (model X.prog X.w) X.A (eval b X.env) (fun u s₂=>wpAny (model X.prog X.w) X.A (f v u) Q X.xe s₂) X.xe s₁) X.xe s:=by
 refine thn (ha pins s σ H _ I h) fun v s1 ⟨x,H1,I1,r1,q1⟩=>?_
 refine thn (hb pins s1 σ H1 _ I1 q1) fun u s2 ⟨y,H2,I2,r2,q2⟩=>?_
 exact hf v u s2 x y H2 I2 r1 r2 q2
theorem qL {op:Operator} {r:R2} (ho:OpR X (binaryOp op) r) (ha:PE X a ta) (hb:PE X b tb):PE X (.BinOp a op b pos) (tOp r ta tb):=by
 intro pins s σ H Q I h
 exact wpAny_BinOp (qgs ha hb I h fun v u s2 x y H2 I2 rx ry q=>ho pins s2 σ H2 x y v u Q I2 rx ry q)
theorem qdH {op:UnaryOp} {r:V→Hp→VK→Prop} (ho:UnR X (unaryOp op) r) (ha:PE X a ta):PE X (.UnaryOp op a pos) (tUn r ta):=by
 intro pins s σ H Q I h
 exact UnaryOp_ (thn (ha pins s σ H _ I h) fun v s1 ⟨x,H1,I1,r1,q1⟩=>ho pins s1 σ H1 x v Q I1 r1 q1)
theorem opI {f:Value→Value→Sem Value} {C:Int→Int→Prop} {g:Int→Int→Int}
  (rule:∀ (i j:Int) (t u:Tok) (s:Shared) (Q:Value→Shared→Prop) (E:Value→Shared→Prop),C i j→Q (.int (g i j) s.toks) { s with toks:=s.toks + 1 }→wpAny (model X.prog X.w) X.A (f (.int i t) (.int j u)) Q E s) :
  OpR X f (rI C fun i j=>.int (g i j)):=by
 intro pins s σ H x y v u Q I rx ry h
 obtain ⟨i,j,rfl,rfl,hc,q⟩:=h
 obtain ⟨t,rfl⟩:=rx
 obtain ⟨t',rfl⟩:=ry
 exact rule i j t t' s _ _ hc ⟨.int (g i j),H,I.tok _,⟨_,rfl⟩,q⟩
theorem qgg {f:Value→Value→Sem Value} {g:Int→Int→Int}
  (rule:∀ (i j:Int) (t u:Tok) (s:Shared) (Q:Value→Shared→Prop) (E:Value→Shared→Prop),Q (.int (g i j) s.toks) { s with toks:=s.toks + 1 }→wpAny (model X.prog X.w) X.A (f (.int i t) (.int j u)) Q E s) :
  OpR X f (rI0 fun i j=>.int (g i j)):=by
 intro pins s σ H x y v u Q I rx ry h
 obtain ⟨i,j,rfl,rfl,q⟩:=h
 obtain ⟨t,rfl⟩:=rx
 obtain ⟨t',rfl⟩:=ry
 exact rule i j t t' s _ _ ⟨.int (g i j),H,I.tok _,⟨_,rfl⟩,q⟩
theorem qgh {f:Value→Value→Sem Value} {g:Int→Int→Bool}
  (rule:∀ (i j:Int) (t u:Tok) (s:Shared) (Q:Value→Shared→Prop) (E:Value→Shared→Prop),Q (.bool (g i j)) s→wpAny (model X.prog X.w) X.A (f (.int i t) (.int j u)) Q E s) :
  OpR X f (rI0 fun i j=>.bl (g i j)):=by
 intro pins s σ H x y v u Q I rx ry h
 obtain ⟨i,j,rfl,rfl,q⟩:=h
 obtain ⟨t,rfl⟩:=rx
 obtain ⟨t',rfl⟩:=ry
 exact rule i j t t' s _ _ ⟨.bl (g i j),H,I,rfl,q⟩
def CDiv (i j:Int):Prop:=0 < j∧j < 1073741824
def qgM (i j:Int):Prop:=0≤j∧j≤1000000∧i.natAbs < 2 ^ 64
def CMul (i j:Int):Prop:=(-(2 ^ 64) < i∧i < 2 ^ 64)∨(-(2 ^ 64) < j∧j < 2 ^ 64)
theorem CMul.ok {i j:Int} (h:CMul i j):IntMulOk i j:=by
 rcases h with ⟨h1,h2⟩ | ⟨h1,h2⟩
 ·exact .of_left (intBits_le_64 h1 h2)
 ·exact .of_right (intBits_le_64 h1 h2)
theorem two_pow_nn (k:Nat):(0:Int)≤2 ^ k:=by
 rw [two_pow_cast]
 exact Int.natCast_nonneg _
theorem op_add:OpR X (binaryOp .Add) (rI0 fun i j=>.int (i + j)):=qgg fun _ _ _ _ _ _ _ q=>add_int q
theorem qeY:OpR X (binaryOp .Sub) (rI0 fun i j=>.int (i - j)):=qgg fun _ _ _ _ _ _ _ q=>sub_int q
theorem op_mul:OpR X (binaryOp .Mult) (rI CMul fun i j=>.int (i * j)):=opI fun _ _ _ _ _ _ _ hc q=>mul_int q hc.ok
theorem qdU:OpR X (binaryOp .FloorDiv) (rI CDiv fun i j=>.int (i / j)):=opI fun i j _ _ _ _ _ hc q=>by
 have h1:(0:Int) < j:=hc.1
 have h2:j < 1073741824:=hc.2
 exact floordiv_int (by omega) (by rw [Int.fdiv_eq_ediv_of_nonneg i (by omega)];exact q) (.inl (PyProof.noPylong_small (by omega)))
theorem zV:OpR X (binaryOp .Mod) (rI (fun _ j=>0 < j) fun i j=>.int (i % j)):=opI fun i j _ _ _ _ _ hc q=>by
 have h1:(0:Int) < j:=hc
 exact mod_int' (by omega) (by rw [Int.fmod_eq_emod_of_nonneg i (by omega)];exact q)
theorem op_pow:OpR X (binaryOp .Pow) (rI qgM fun i j=>.int (i ^ j.toNat)):=opI fun _ _ _ _ _ _ _ hc q=>pow_int_small hc.1 hc.2.1 hc.2.2 q
theorem qc1:OpR X (binaryOp .LShift) (rI qgM fun i j=>.int (i * 2 ^ j.toNat)):=opI fun _ _ _ _ _ _ _ hc q=>lshift_int_small hc.1 hc.2.1 hc.2.2 q
theorem op_shr:OpR X (binaryOp .RShift) (rI (fun _ j=>0≤j) fun i j=>.int (i / 2 ^ j.toNat)):=opI fun i j _ _ _ _ _ hc q =>
 rshift_int hc (by rw [Int.fdiv_eq_ediv_of_nonneg i (two_pow_nn _)];exact q)
theorem op_and:OpR X (binaryOp .BitAnd) (rI0 fun i j=>.int (Builtin.bitAnd i j)):=qgg fun _ _ _ _ _ _ _ q=>and_int q
theorem qeM:OpR X (binaryOp .BitOr) (rI0 fun i j=>.int (Builtin.bitOr i j)):=qgg fun _ _ _ _ _ _ _ q=>or_int q
theorem unI {f:Value→Sem Value} {g:Int→Int}
  (rule:∀ (i:Int) (t:Tok) (s:Shared) (Q:Value→Shared→Prop) (E:Value→Shared→Prop),Q (.int (g i) s.toks) { s with toks:=s.toks + 1 }→wpAny (model X.prog X.w) X.A (f (.int i t)) Q E s) :
  UnR X f (rU fun i=>.int (g i)):=by
 intro pins s σ H x v Q I rx h
 obtain ⟨i,rfl,q⟩:=h
 obtain ⟨t,rfl⟩:=rx
 exact rule i t s _ _ ⟨.int (g i),H,I.tok _,⟨_,rfl⟩,q⟩
theorem qbA:UnR X (unaryOp .USub) (rU fun i=>.int (-i)):=unI fun _ _ _ _ _ q=>neg_int q
end
def scal:V→V→Bool
 | .non,.non=>true | .non,.int _=>true | .int _,.non=>true | .non,.bl _=>true | .bl _,.non=>true | .non,.str _=>true | .str _,.non=>true
 | .int _,.int _=>true | .bl _,.bl _=>true | .str _,.str _=>true | .byt _,.byt _=>true
 | .int _,.str _=>true | .str _,.int _=>true | .bl _,.str _=>true | .str _,.bl _=>true
 | _,_=>false
def rEq:R2:=fun x y H Q=>scal x y=true∧Q (.bl (decide (x=y))) H
theorem dec_bl {i j:Bool}:decide (V.bl i=V.bl j)=(i==j):=by
 rw [Bool.eq_iff_iff]
 simp
section
variable {X:Cx} {a b c:Expr} {ta tb tc:TE} {pos:Pos}
theorem fin_bl {pins:List (Addr×Obj)} {σ:St} {H:Hp} {s:Shared} {Q:VK} {k k':Bool} (I:Inv X pins σ H s) (q:Q (.bl k) H) (e:k=k'):EP X pins σ Q (.bool k') s:=by
 subst e
 exact ⟨.bl k,H,I,rfl,q⟩
theorem qdI:OpR X (compareOp .Lt) (rI0 fun i j=>.bl (decide (i < j))):=qgh fun _ _ _ _ _ _ _ q=>lt_int q
theorem op_le:OpR X (compareOp .LtE) (rI0 fun i j=>.bl (decide (i≤j))):=qgh fun _ _ _ _ _ _ _ q=>le_int q
theorem qeN:OpR X (compareOp .Gt) (rI0 fun i j=>.bl (decide (j < i))):=qgh fun _ _ _ _ _ _ _ q=>gt_int q
theorem op_ge:OpR X (compareOp .GtE) (rI0 fun i j=>.bl (decide (j≤i))):=qgh fun _ _ _ _ _ _ _ q=>ge_int q
theorem qy (b:Expr) {op:CmpOp} (h:op≠.In:=by decide) (h2:op≠.NotIn:=by decide):behindInMarks op b=false:=by
 have e1:(op==CmpOp.In)=false:=by cases op<;>first | rfl | exact absurd rfl h
 have e2:(op==CmpOp.NotIn)=false:=by cases op<;>first | rfl | exact absurd rfl h2
 cases b<;>simp [behindInMarks,e1,e2]
theorem jV {op:CmpOp} {r:R2} (ho:OpR X (compareOp op) r) (ha:PE X a ta) (hb:PE X b tb) (hm:behindInMarks op b=false):PE X (.Compare a [op] [b] pos) (tOp r ta tb):=by
 intro pins s σ H Q I h
 exact wpAny_Compare1 (qgs ha hb I h fun v u s2 x y H2 I2 rx ry q=>ho pins s2 σ H2 x y v u Q I2 rx ry q) hm
def qfu (t:TE):TT:=fun σ H Q=>t σ H fun x H'=>∃ k,x=.bl k∧Q k H'
theorem qo {op:CmpOp} {r:R2} (ho:OpR X (compareOp op) r) (ha:PE X a ta) (hb:PE X b tb) (hm:behindInMarks op b=false):PT X (.Compare a [op] [b] pos) (qfu (tOp r ta tb)):=by
 intro pins s σ H Q I h
 refine wpAny_isTrue_Compare1 (thn (ha pins s σ H _ I h) fun v s1 ⟨x,H1,I1,r1,q1⟩=>thn (hb pins s1 σ H1 _ I1 q1) fun u s2 ⟨y,H2,I2,r2,q2⟩ =>
  thn (ho pins s2 σ H2 x y v u _ I2 r1 r2 q2) fun c s3 ⟨z,H3,I3,r3,k,e,q3⟩=>?_) hm
 subst e
 cases r3
 exact wpAny_truthy_bool ⟨H3,I3,q3⟩
def qdV (r r':R2) (ta tb tc:TE):TE:=fun σ H Q=>ta σ H fun x H1=>tb σ H1 fun y H2=>r x y H2 fun z H3=>∃ k,z=.bl k ∧
 (if k=true then tc σ H3 fun w' H4=>r' y w' H4 Q else Q (.bl false) H3)
theorem qc2 {op op':CmpOp} {r r':R2} (ho:OpR X (compareOp op) r) (ho':OpR X (compareOp op') r') (ha:PE X a ta) (hb:PE X b tb) (hc:PE X c tc)
  (hm:lastMarks [op,op'] [b,c]=false:=by with_unfolding_all rfl):PE X (.Compare a [op,op'] [b,c] pos) (qdV r r' ta tb tc):=by
 intro pins s σ H Q I h
 refine Compare_chain (thn (ha pins s σ H _ I h) fun v s1 ⟨x,H1,I1,r1,q1⟩=>chain_link (thn (hb pins s1 σ H1 _ I1 q1) fun u s2 ⟨y,H2,I2,r2,q2⟩ =>
  thn (ho pins s2 σ H2 x y v u _ I2 r1 r2 q2) fun d s3 ⟨z,H3,I3,r3,k,e,q3⟩=>?_)) hm
 subst e
 cases r3
 refine wpAny_truthy_bool ?_
 cases k with
 | false=>exact ite_ff ⟨.bl false,H3,I3,rfl,q3⟩
 | true=>exact ite_tt (chain_last (thn (hc pins s3 σ H3 _ I3 q3) fun w' s4 ⟨z',H4,I4,r4,q4⟩=>ho' pins s4 σ H4 y z' u w' Q I4 r2 r4 q4))
theorem pt_chain {op op':CmpOp} {r r':R2} (ho:OpR X (compareOp op) r) (ho':OpR X (compareOp op') r') (ha:PE X a ta) (hb:PE X b tb) (hc:PE X c tc)
  (hm:lastMarks [op,op'] [b,c]=false:=by with_unfolding_all rfl):PT X (.Compare a [op,op'] [b,c] pos) (qfu (qdV r r' ta tb tc)):=by
 intro pins s σ H Q I h
 refine isTrue_chain (thn (ha pins s σ H _ I h) fun v s1 ⟨x,H1,I1,r1,q1⟩=>test_link (thn (hb pins s1 σ H1 _ I1 q1) fun u s2 ⟨y,H2,I2,r2,q2⟩ =>
  thn (ho pins s2 σ H2 x y v u _ I2 r1 r2 q2) fun d s3 ⟨z,H3,I3,r3,k,e,q3⟩=>?_)) hm
 subst e
 cases r3
 refine wpAny_truthy_bool ?_
 cases k with
 | false =>
  obtain ⟨k',e',q'⟩:=q3
  cases e'
  exact ite_ff ⟨H3,I3,q'⟩
 | true =>
  refine ite_tt (test_last (thn (hc pins s3 σ H3 _ I3 q3) fun w' s4 ⟨z',H4,I4,r4,q4⟩=>thn (ho' pins s4 σ H4 y z' u w' _ I4 r2 r4 q4) fun d' s5 ⟨z2,H5,I5,r5,k2,e2,q5⟩=>?_))
  subst e2
  cases r5
  exact wpAny_truthy_bool ⟨H5,I5,q5⟩
theorem qbB:(sizeLine:Nat) < 2 ^ 63:=by rw [sizeLine_eq];decide
theorem op_add_str:OpR X (binaryOp .Add) (fun x y H Q=>∃ i j,x=.str i∧y=.str j∧i.length + j.length≤sizeLine∧Q (.str (i++j)) H):=by
 intro pins s σ H x y v u Q I rx ry h
 obtain ⟨i,j,rfl,rfl,hz,q⟩:=h
 obtain ⟨t,rfl⟩:=rx
 obtain ⟨t',rfl⟩:=ry
 exact add_str (fun t' tk=>⟨.str (i++j),H,I.tok _,⟨_,rfl⟩,q⟩) hz
theorem qbc {x:V} {us:List Value} (r:Vals [x] us):∃ u,us=[u]∧RelV x u:=by
 cases r with
 | cons r1 r2=>cases r2;exact ⟨_,rfl,r1⟩
theorem qcK {x y:V} {us:List Value} (r:Vals [x,y] us):∃ u w',us=[u,w']∧RelV x u∧RelV y w':=by
 cases r with
 | cons r1 r2 =>
  cases r2 with
  | cons r3 r4=>cases r4;exact ⟨_,_,rfl,r1,r3⟩
theorem call_max2 (hc:X.calm=true):zH X (.builtin "max") (fun xs H Q=>∃ i j,xs=[.int i,.int j]∧Q (.int (if j > i then j else i)) H):=by
 intro pins s σ H xs us Q I r h
 obtain ⟨i,j,rfl,q⟩:=h
 obtain ⟨u,w',rfl,⟨t,rfl⟩,⟨t',rfl⟩⟩:=qcK r
 refine max_two_ints (I.ok.hd hc) fun h' tk k=>⟨_,H,I.kept k,?_,q⟩
 by_cases hj:j > i
 ·rw [if_pos hj,if_pos hj];exact ⟨_,rfl⟩
 ·rw [if_neg hj,if_neg hj];exact ⟨_,rfl⟩
theorem call_min2 (hc:X.calm=true):zH X (.builtin "min") (fun xs H Q=>∃ i j,xs=[.int i,.int j]∧Q (.int (if j < i then j else i)) H):=by
 intro pins s σ H xs us Q I r h
 obtain ⟨i,j,rfl,q⟩:=h
 obtain ⟨u,w',rfl,⟨t,rfl⟩,⟨t',rfl⟩⟩:=qcK r
 refine min_two_ints (I.ok.hd hc) fun h' tk k=>⟨_,H,I.kept k,?_,q⟩
 by_cases hj:j < i
 ·rw [if_pos hj,if_pos hj];exact ⟨_,rfl⟩
 ·rw [if_neg hj,if_neg hj];exact ⟨_,rfl⟩
theorem call_int1:zH X (.type "int") (fun xs H Q=>(∃ i,xs=[.int i]∧Q (.int i) H)∨∃ k,xs=[.bl k]∧Q (.int (if k then 1 else 0)) H):=by
 intro pins s σ H xs us Q I r h
 rcases h with ⟨i,rfl,q⟩ | ⟨k,rfl,q⟩
 ·obtain ⟨u,rfl,t,rfl⟩:=qbc r
  exact call_int_int ⟨.int i,H,I,⟨_,rfl⟩,q⟩
 ·obtain ⟨u,rfl,r1⟩:=qbc r
  cases r1
  exact call_int_bool ⟨.int (if k then 1 else 0),H,I.tok _,⟨_,rfl⟩,q⟩
end
end L2
namespace L2
open PySem PySem.Spec PyProof.Rows
structure ObjM (h:Heap) (x dx C:Addr) (mA:Str→Option Value):Prop where
 obj:h.get? x=some (PySem.W.instObj C dx)
 ns:h.Ns1 dx mA
 ne:dx≠x
theorem qb8 {h:Heap} {dx:Addr} {mA:Str→Option Value} (n:h.Ns1 dx mA):∃ od,h.get? dx=some od∧∀ name,PySem.W.lookIn name od=some (mA name):=by
 obtain ⟨o,es,ep,ho,hd,hk,_,hm⟩:=n
 refine ⟨o,ho,fun name=>?_⟩
 have e:=hm name
 unfold nsFind findBy at e
 rw [← Array.find?_toList] at e
 unfold PySem.W.lookIn
 rw [hd]
 dsimp only
 split
 ·rename_i y q
  rw [q] at e
  exact congrArg some e
 ·rename_i q
  rw [q] at e
  have a:es.toList.any (·.refKey)=false:=by
   rw [List.any_eq_false]
   intro y hy
   obtain ⟨z,t,hkey⟩:=hk y (Array.mem_toList_iff.mp hy)
   simp [DictEntry.refKey,hkey]
  have a':¬ es.toList.any (·.refKey)=true:=by rw [a];exact Bool.false_ne_true
  rw [if_neg a']
  exact congrArg some e
theorem ObjM.look {h:Heap} {x dx C:Addr} {mA:Str→Option Value} (I:ObjM h x dx C mA):∃ od,PySem.W.InstAt h x (PySem.W.instObj C dx) C (some od)∧∀ name,PySem.W.lookIn name od=some (mA name):=
 let ⟨od,ho,hl⟩:=qb8 I.ns
 ⟨od,⟨I.obj,rfl,rfl,ho⟩,hl⟩
section
variable {prog:Program} {w:World} {A:Around} {E:Value→Shared→Prop} {s:Shared} {K:PySem.W.Frag} {x dx C f:Addr} {mA:Str→Option Value} {name:Str} {v:Value}
theorem get_map {expr:Bool} {Q:Value→Shared→Prop} (X:K.In s.heap) (I:ObjM s.heap x dx C mA) (hg:PySem.W.plainGet K C name=true) (hh:PySem.W.hasDictIn K C=true)
  (ha:PySem.W.findIn K (.ref C) name=some none) (hv:mA name=some v) (hv':PySem.W.handedIn v=true) (h:Q v { s with toks:=s.toks + 1 }) :
  wpAny (model prog w) A (getAttr (.ref x) name expr) Q E s:=by
 obtain ⟨od,J,hl⟩:=I.look
 exact PySem.W.get_value X J (PySem.W.plainGet_of hg).1 (PySem.W.findObj_own hh ha rfl (by rw [hl,hv])) hv' h
theorem get_meth {pl:Sem Bool} {Q:Value×List Value→Shared→Prop} (X:K.In s.heap) (I:ObjM s.heap x dx C mA) (hg:PySem.W.plainGet K C name=true)
  (hf:PySem.W.findIn K (.ref C) name=some (some (.ref f))) (ht:PySem.W.isFn K (.ref f)=true) (hv:mA name=none) (h:Q (.ref f,[.ref x]) s) :
  wpAny (model prog w) A (getMethod (.ref x) name pl) Q E s:=by
 obtain ⟨od,J,hl⟩:=I.look
 exact PySem.W.method_fn X J (PySem.W.plainGet_of hg).1 (PySem.W.plainGet_of hg).2 hf (beq_iff_eq.mp ht) (by show (PySem.W.lookIn name od).map (·.isSome)=some false;rw [hl,hv];rfl) h
theorem set_map {ns:List Str} {Q:Unit→Shared→Prop} (X:K.In s.heap) (I:ObjM s.heap x dx C mA)
  (hs:PySem.W.findIn K (.ref C) "__setattr__"=some (some (.builtin "object.__setattr__"))) (hp:PySem.W.plainOver K C=true) (ht:PySem.W.takerIn K C name=some none) (hh:PySem.W.hasDictIn K C=true)
  (hw:PySem.Within mA ns) (hsz:ns.length≤sizeLine)
  (h:∀ h',ObjM h' x dx C (fun y=>if y=name then some v else mA y)→Heap.SameBut dx s.heap h'→Q () { s with heap:=h',toks:=s.toks + 2 }) :
  wpAny (model prog w) A (setAttr (.ref x) name v) Q E s:=by
 obtain ⟨od,J,hl⟩:=I.look
 refine PySem.W.set_plain X J hs (PySem.W.osa_open (s:={ s with toks:=s.toks + 1 }) (r:=none) X J hp ht fun b=>?_)
 obtain ⟨cd,hc,hd'⟩:=PySem.W.any_some hh
 have hx:s.heap.get? x=some ⟨.ref C,some dx,.plain,#[]⟩:=I.obj
 refine wpAny_bind (wpAny_pure (wpAny_bind (wpAny_bind (wpAny_loadPart hx (wpAny_bind (PySem.W.Looks.here (s:={ s with toks:=s.toks + 1 }) (PySem.W.looks_clsIn X hc) ?_))))))
 rw [hd']
 refine wpAny_pure (a:=some dx) (wpAny_bind (wpAny_pure (wpAny_bind ?_)))
 refine wpAny_nsSet1 (s:={ s with toks:=s.toks + 1 }) I.ns fun h' hn2 hs2=>?_
 obtain ⟨oD,esD,epD,hoD,hdD,hcD⟩:=hn2.count (PySem.Within.cons name v hw)
 refine wpAny_bind (wpAny_lookBehind hoD (by rw [hdD];exact pastItsLine_dict (Nat.le_trans hcD (by rw [List.length_cons];omega))) ?_)
 exact wpAny_pure (h _ ⟨(hs2.2 _ (Ne.symm I.ne)).trans I.obj,hn2,I.ne⟩ hs2)
theorem qc3 {R:Result→Shared→Prop} {vs:List Value} {kw:List (Str×Value)} (X:K.In s.heap) (hm:PySem.W.makesIn K C=true)
  (hi:PySem.W.findIn K (.ref C) "__init__"=some (some (.ref f))) (hf:PySem.W.typeIn K (.ref f)=some (.type "function"))
  (h:codeAny (model prog w) (A.under (.builtin "type.__call__" ⟨.ref C::vs,kw⟩)) (.call (.ref f) ⟨.ref (s.heap.objs.size + 1)::vs,kw⟩) (PySem.W.InitBack (s.heap.objs.size + 1) R)
   { s with heap:=(s.heap.push PySem.W.emptyDict).push (PySem.W.instObj C s.heap.objs.size) }) :
  codeAny (model prog w) A (.call (.ref C) ⟨vs,kw⟩) R s:=by
 obtain ⟨hh,g,d,t,os⟩:=s
 exact PySem.W.make_core (PySem.W.makes_of X hm) (PySem.W.looks_findIn X hi) (fun self=>PySem.W.bind_fn X self hf) (.inl rfl) h
end
def jZ (f:Str) (v:V):List (Str×V)→List (Str×V)
 | []=>[(f,v)]
 | (g,x)::r=>if g=f then (g,v)::r else (g,x)::jZ f v r
theorem qH (f g:Str) (v:V):∀ fs:List (Str×V),(jZ f v fs).lookup g=if g=f then some v else fs.lookup g
 | []=>by
  show List.lookup g [(f,v)]=_
  by_cases h:g=f
  ·have hb:(g==f)=true:=beq_iff_eq.mpr h
   simp only [List.lookup,hb,if_pos h]
  ·have hb:(g==f)=false:=beq_eq_false_iff_ne.mpr h
   simp only [List.lookup,hb,if_neg h]
 | (k,x)::r=>by
  have ih:=qH f g v r
  rw [show jZ f v ((k,x)::r)=(if k=f then (k,v)::r else (k,x)::jZ f v r) from rfl]
  by_cases hk:k=f
  ·rw [if_pos hk]
   by_cases h:g=k
   ·have hb:(g==k)=true:=beq_iff_eq.mpr h
    simp only [List.lookup,hb,if_pos (h.trans hk)]
   ·have hb:(g==k)=false:=beq_eq_false_iff_ne.mpr h
    simp only [List.lookup,hb,if_neg (fun e:g=f=>h (e.trans hk.symm))]
  ·rw [if_neg hk]
   by_cases h:g=k
   ·have hb:(g==k)=true:=beq_iff_eq.mpr h
    simp only [List.lookup,hb,if_neg (fun e:g=f=>hk (h.symm.trans e))]
   ·have hb:(g==k)=false:=beq_eq_false_iff_ne.mpr h
    simp only [List.lookup,hb]
    exact ih
theorem qbd (f:Str) (v:V):∀ fs:List (Str×V),f∈(jZ f v fs).map (·.1)∧∀ g,g∈fs.map (·.1)→g∈(jZ f v fs).map (·.1)
 | []=>⟨by simp [jZ],fun g h=>by simp at h⟩
 | (k,x)::r=>by
  obtain ⟨i1,i2⟩:=qbd f v r
  rw [show jZ f v ((k,x)::r)=(if k=f then (k,v)::r else (k,x)::jZ f v r) from rfl]
  by_cases hk:k=f
  ·rw [if_pos hk]
   subst hk
   exact ⟨by simp,fun g h=>by simpa using h⟩
  ·rw [if_neg hk]
   refine ⟨?_,fun g h=>?_⟩
   ·rw [List.map_cons]
    exact List.mem_cons_of_mem _ i1
   ·rw [List.map_cons] at h ⊢
    rcases List.mem_cons.mp h with e | e
    ·exact List.mem_cons.mpr (.inl e)
    ·exact List.mem_cons_of_mem _ (i2 g e)
theorem zm (f:Str) (v:V):∀ fs:List (Str×V),(jZ f v fs).length≤fs.length + 1
 | []=>by simp [jZ]
 | (k,x)::r=>by
  have ih:=zm f v r
  rw [show jZ f v ((k,x)::r)=(if k=f then (k,v)::r else (k,x)::jZ f v r) from rfl]
  by_cases hk:k=f
  ·rw [if_pos hk,List.length_cons,List.length_cons];omega
  ·rw [if_neg hk,List.length_cons,List.length_cons];omega
theorem RelO.some_of {v:V} {o:Option Value} (r:RelO (some v) o):∃ u,o=some u∧RelV v u:=by
 cases o with
 | none=>exact (show False from r).elim
 | some u=>exact ⟨u,rfl,r⟩
theorem RelO.none_of {o:Option Value} (r:RelO none o):o=none:=by
 cases o with
 | none=>rfl
 | some u=>exact (show False from r).elim
theorem qb9 {v:V} {u:Value} (r:RelV v u):PySem.W.handedIn u=true:=by
 cases v with
 | non=>cases (show u=Value.none from r);rfl
 | bl b=>cases (show u=Value.bool b from r);rfl
 | int i=>obtain ⟨t,e⟩:=(show ∃ t,u=Value.int i t from r);cases e;rfl
 | str x=>obtain ⟨t,e⟩:=(show ∃ t,u=Value.str x t from r);cases e;rfl
 | byt b=>obtain ⟨t,e⟩:=(show ∃ t,u=Value.bytes b t from r);cases e;rfl
 | flt b=>obtain ⟨t,e⟩:=(show ∃ t,u=Value.float b t from r);cases e;rfl
 | ref a=>cases (show u=Value.ref a from r);rfl
 | ty n=>cases (show u=Value.type n from r);rfl
section
variable {P:Program} {w:World} {H H':Hp} {h h':Heap} {a C dx:Addr} {fs fs':List (Str×V)}
theorem qaU (hok:HOk P w H h) (e:H a=some (.ins C dx fs)):∃ mA,ObjM h a dx C mA∧(∀ f,RelO (fs.lookup f) (mA f))∧PySem.Within mA (fs.map (·.1))∧fs.length≤1000∧H dx=some (.own a):=by
 obtain ⟨d,z,ne,ob,mA,n,r,q⟩:=(show ObjOk P w H h a (.ins C dx fs) from hok a _ e)
 exact ⟨mA,⟨ob,n,ne⟩,r,q,z,d⟩
end
structure Cls (K:PySem.W.Frag) (C:Addr):Prop where
 pg:PySem.W.plainGet K C Str.empty=true
 hd:PySem.W.hasDictIn K C=true
 po:PySem.W.plainOver K C=true
 sa:PySem.W.findIn K (.ref C) "__setattr__"=some (some (.builtin "object.__setattr__"))
theorem Cls.get {K:PySem.W.Frag} {C:Addr} (c:Cls K C) (f:Str):PySem.W.plainGet K C f=true:=c.pg
def NoAttr (K:PySem.W.Frag) (C:Addr) (f:Str):Prop:=PySem.W.findIn K (.ref C) f=some none
theorem NoAttr.taker {K:PySem.W.Frag} {C:Addr} {f:Str} (n:NoAttr K C f):PySem.W.takerIn K C f=some none:=by
 unfold PySem.W.takerIn
 rw [show PySem.W.findIn K (.ref C) f=some none from n]
 rfl
structure Con (K:PySem.W.Frag) (C:Addr) (f:Str) (v:V) (u:Value):Prop where
 at_:PySem.W.findIn K (.ref C) f=some (some u)
 rel:RelV v u
 get:PySem.W.specialIn K u "__get__"=some none
 cp:PySem.W.copiedNames.contains f=false
structure Meth (K:PySem.W.Frag) (C:Addr) (m:Str) (f:Addr):Prop where
 at_:PySem.W.findIn K (.ref C) m=some (some (.ref f))
 fn:PySem.W.isFn K (.ref f)=true
 kp:PySem.W.keepIn K (.ref f)=true
section
variable {X:Cx} {pins:List (Addr×Obj)} {σ:St} {H:Hp} {s:Shared} {a C dx:Addr} {fs:List (Str×V)} {f:Str} {v:V} {A:Around} {E:Value→Shared→Prop}
theorem getattr_ok {b:Bool} {Q:Value→Shared→Prop} (I:Inv X pins σ H s) (e:H a=some (.ins C dx fs)) (c:Cls X.K C) (n:NoAttr X.K C f) (l:fs.lookup f=some v)
  (h:∀ u s',Inv X pins σ H s'→RelV v u→Q u s'):wpAny (model X.prog X.w) A (getAttr (.ref a) f b) Q E s:=by
 obtain ⟨mA,O,r,_,_,_⟩:=qaU I.hok e
 obtain ⟨u,hu,ru⟩:=RelO.some_of (v:=v) (o:=mA f) (by rw [← l];exact r f)
 exact get_map I.kIn O (c.get f) c.hd n hu (qb9 ru) (h u _ (I.tok _) ru)
theorem qaV {m:Str} {g:Addr} {pl:Sem Bool} {Q:Value×List Value→Shared→Prop} (I:Inv X pins σ H s) (e:H a=some (.ins C dx fs)) (c:Cls X.K C) (k:Meth X.K C m g) (l:fs.lookup m=none)
  (h:Q (.ref g,[.ref a]) s):wpAny (model X.prog X.w) A (getMethod (.ref a) m pl) Q E s:=by
 obtain ⟨mA,O,r,_,_,_⟩:=qaU I.hok e
 have hn:mA m=none:=RelO.none_of (by rw [← l];exact r m)
 exact get_meth I.kIn O (c.get m) k.at_ k.fn hn h
theorem setattr_ok {y:V} {u:Value} {Q:Unit→Shared→Prop} (I:Inv X pins σ H s) (e:H a=some (.ins C dx fs)) (c:Cls X.K C) (n:NoAttr X.K C f) (hl:fs.length < 1000) (ry:RelV y u)
  (h:∀ s',Inv X pins σ (upd H a (.ins C dx (jZ f y fs))) s'→Q () s'):wpAny (model X.prog X.w) A (setAttr (.ref a) f u) Q E s:=by
 obtain ⟨mA,O,r,wi,_,ho⟩:=qaU I.hok e
 have hz:(fs.map (·.1)).length≤sizeLine:=by rw [List.length_map,sizeLine_eq];omega
 refine set_map I.kIn O c.sa c.po n.taker c.hd wi hz fun h' O' sb=>h _ ?_
 have hd:∃ o,h'.get? dx=some o:=let ⟨o,_,_,e',_⟩:=O'.ns;⟨o,e'⟩
 refine I.write (x:=a) (e:=dx) (by rw [e];exact True.intro) (.inr ho) (fun b q hb z=>(sb.2 b hb).trans z) hd ?_
 refine ⟨by rw [qr O.ne];exact ho,?_,O.ne,O'.obj,_,O'.ns,fun g=>?_,fun g hg=>?_⟩
 ·have:=zm f y fs;omega
 ·show RelO ((jZ f y fs).lookup g) (if g=f then some u else mA g)
  rw [qH]
  by_cases q:g=f
  ·rw [if_pos q,if_pos q];exact ry
  ·rw [if_neg q,if_neg q];exact r g
 ·by_cases q:g=f
  ·rw [q];exact (qbd f y fs).1
  ·refine (qbd f y fs).2 g (wi g fun z=>hg ?_)
   show (if g=f then some u else mA g)=none
   rw [if_neg q];exact z
theorem Inv.made (I:Inv X pins σ H s):Inv X pins σ (upd (upd H s.heap.objs.size (.own (s.heap.objs.size + 1))) (s.heap.objs.size + 1) (.ins C s.heap.objs.size []))
  { s with heap:=(s.heap.push PySem.W.emptyDict).push (PySem.W.instObj C s.heap.objs.size) }:=by
 have e1:(s.heap.push PySem.W.emptyDict).get? s.heap.objs.size=some PySem.W.emptyDict:=Heap.get?_push_size s.heap rfl
 have e2:((s.heap.push PySem.W.emptyDict).push (PySem.W.instObj C s.heap.objs.size)).get? (s.heap.objs.size + 1)=some (PySem.W.instObj C s.heap.objs.size):=by
  have:=Heap.get?_push_size (s.heap.push PySem.W.emptyDict) (o:=PySem.W.instObj C s.heap.objs.size) rfl
  rwa [Heap.size_push] at this
 have e3:(s.heap.push PySem.W.emptyDict).Ns s.heap.objs.size (fun _=>none):=⟨PySem.W.emptyDict,#[],_,e1,rfl,(fun e he=>absurd he (by simp)),fun _=>rfl⟩
 have I1:=I.laid (a:=s.heap.objs.size) (o:=.own (s.heap.objs.size + 1)) (h':=s.heap.push PySem.W.emptyDict) (t':=s.toks) (fun b u q=>Heap.get?_push_of_some _ q) (Nat.le_refl _) ⟨_,e1⟩
 refine I1.laid (a:=s.heap.objs.size + 1) (o:=.ins C s.heap.objs.size []) (t':=s.toks) (fun b u q=>Heap.get?_push_of_some _ q) (Nat.le_of_eq (Heap.size_push _ _)) ?_
 have ne:s.heap.objs.size≠s.heap.objs.size + 1:=Nat.ne_of_lt (Nat.lt_succ_self _)
 refine ⟨by rw [qr ne,qc],Nat.zero_le _,ne,e2,fun _=>none,(Heap.Ns1.of_empty e3).at fun o q=>Heap.get?_push_of_some _ q,fun _=>True.intro,fun y hy=>absurd rfl hy⟩
theorem attr_of {prog:Program} {w:World} {env:Env} {e:Expr} {f:Str} {pos:Pos} {s:Shared} {Q:Value→Shared→Prop} (hb:attributeBase e f env (eval e env)=eval e env)
  (h:wpAny (model prog w) A (eval e env) (fun o s₁=>wpAny (model prog w) A (getAttr o f true) Q E s₁) E s):wpAny (model prog w) A (eval (.Attribute e f pos) env) Q E s:=
 Attribute_any_ h (by rw [arm_eval_Attribute,hb])
end
section
variable {X:Cx} {o e value:Expr} {f:Str} {pos pos' tpos:Pos} {ta tv:TE}
end
section
variable {X:Cx} {pins:List (Addr×Obj)} {σ:St} {H:Hp} {s:Shared} {A:Around} {E:Value→Shared→Prop} {Q:Value→Shared→Prop} {c:Value} {b:Bool}
inductive TyOf (K:PySem.W.Frag) (H:Hp):V→Value→Prop where
 | non:TyOf K H .non (.type "NoneType")
 | bl (x:Bool):TyOf K H (.bl x) (.type "bool")
 | int (i:Int):TyOf K H (.int i) (.type "int")
 | str (x:Str):TyOf K H (.str x) (.type "str")
 | flt (x:UInt64):TyOf K H (.flt x) (.type "float")
 | lst {a:Addr} {xs:List V} (e:H a=some (.lst xs)):TyOf K H (.ref a) (.type "list")
 | frz {a:Addr} {o:Obj} {xs:List V} (e:H a=some (.frz o (.lst xs))):TyOf K H (.ref a) (.type "list")
 | tup {a:Addr} {xs:List V} (e:H a=some (.tup xs)):TyOf K H (.ref a) (.type "tuple")
 | dK {a:Addr} {kvs:List (Key×V)} (e:H a=some (.dK kvs)):TyOf K H (.ref a) (.type "dict")
 | dT {a:Addr} {kvs:List (List Key×V)} (e:H a=some (.dT kvs)):TyOf K H (.ref a) (.type "dict")
 | ins {a C dx:Addr} {fs:List (Str×V)} (e:H a=some (.ins C dx fs)) (cl:Cls K C) (ha:PySem.W.findIn K (.ref C) "__class__"=some (some (.builtin "object.__class__")))
   (hn:PySem.W.specialIn K (.builtin "object.__class__") "__get__"=some (some (.builtin "getset_descriptor.__get__"))) (htk:PySem.W.takesIn K (.builtin "object.__class__")=some true)
   (hm:PySem.W.mroIn K C (.type "object")=some true):TyOf K H (.ref a) (.ref C)
end
end L2
namespace L2
open PySem PySem.Spec PyProof.Rows
structure Room (k:Nat) (A:Around):Prop where
 hd:A.handled=none
 dp:A.depth + 3 * k + 5 < recursionLimit
 un:A.units + 16 * k + 200 < cLine
theorem Room.mono {j k:Nat} {A:Around} (r:Room k A) (h:j≤k):Room j A:=⟨r.hd,by have:=r.dp;omega,by have:=r.un;omega⟩
theorem Room.deeper {k:Nat} {A:Around} (r:Room (k + 1) A) (env:Env):Room k (A.deeper env):=
 ⟨r.hd,by have:=r.dp;show A.depth + 1 + 3 * k + 5 < _;omega,by have:=r.un;show A.units + 3 + 16 * k + 200 < _;omega⟩
theorem make_depth {A:Around} {C:Addr} {us:List Value} {kw:List (Str×Value)}:(A.under (.builtin "type.__call__" ⟨.ref C::us,kw⟩)).depth=A.depth + 1:=by
 first | rfl | simp [Around.under,Code.weight,Code.isCreation,Code.isGuard,Code.isCaller,Code.frames,Code.isFrame,guardIds]
theorem make_units {A:Around} {C:Addr} {us:List Value} {kw:List (Str×Value)}:(A.under (.builtin "type.__call__" ⟨.ref C::us,kw⟩)).units=A.units + 1:=by
 first | rfl | simp [Around.under,Code.cUnits,Code.frames,Code.isFrame]
theorem Room.make {k:Nat} {A:Around} (r:Room (k + 1) A) (C:Addr) (us:List Value) (kw:List (Str×Value)):Room k (A.under (.builtin "type.__call__" ⟨.ref C::us,kw⟩)):=
 ⟨r.hd,by have:=r.dp;rw [make_depth];omega,by have:=r.un;rw [make_units];omega⟩
theorem Room.depth {k:Nat} {A:Around} (r:Room k A):A.depth < recursionLimit:=by have:=r.dp;omega
def qeZ:TA:=fun _ H Q=>Q [] H
def qaq (ta:TE) (tr:TA):TA:=fun σ H Q=>ta σ H fun x H1=>tr σ H1 fun xs H2=>Q (x::xs) H2
section
variable {X:Cx} {e:Expr} {es:List Expr} {te:TE} {t:TA} {pos:Pos}
theorem qb:PA X [] qeZ:=fun _ _ _ _ H Q I h=>Calls.spliced_nil ⟨[],H,I,.nil,h⟩
theorem qa (ha:PE X e te) (hr:PA X es t) (hs:starEach (e::es) X.env=(false,eval e X.env)::starEach es X.env:=by rfl):PA X (e::es) (qaq te t):=by
 intro pos pins s σ H Q I h
 rw [hs]
 show wpAny _ _ (spliced ((false,eval e X.env)::backTo pos (starEach es X.env))) _ _ s
 refine Calls.spliced_cons (thn (ha pins s σ H _ I h) fun u s1 ⟨x,H1,I1,r1,q1⟩=>?_)
 exact thn (hr pos pins s1 σ H1 _ I1 q1) fun us s2 ⟨xs,H2,I2,r2,q2⟩=>⟨x::xs,H2,I2,.cons r1 r2,q2⟩
def qgi (t:TA):TE:=fun σ H Q=>t σ H fun xs H1=>xs.length≤sizeLine∧∀ p,H1 p=none→Q (.ref p) (upd H1 p (.tup xs))
def qgj (t:TA):TE:=fun σ H Q=>t σ H fun xs H1=>xs.length≤sizeLine∧∀ p,H1 p=none→Q (.ref p) (upd H1 p (.lst xs))
theorem qG {x1} (h:PA X es t):PE X (.Tuple es x1 pos) (qgi t):=by
 intro pins s σ H Q I hq
 refine wpAny_Tuple_spliced (thn (h pos pins s σ H _ I hq) fun us s1 ⟨xs,H1,I1,r,z,q⟩=>⟨by rw [← r.length];exact z,?_⟩)
 have hf:H1 s1.heap.objs.size=none:=I1.hok.fresh (Nat.le_refl _)
 refine ⟨.ref s1.heap.objs.size,upd H1 s1.heap.objs.size (.tup xs),I1.laid (t':=s1.toks) (fun b u e=>Heap.get?_push_of_some _ e) (Nat.le_refl _) ?_,rfl,q _ hf⟩
 exact ⟨z,us,r,⟨_,Heap.get?_push_size _ rfl,rfl,_,rfl⟩⟩
theorem qQ (h:PA X es t):PE X (.List es pos) (qgj t):=by
 intro pins s σ H Q I hq
 refine wpAny_List_spliced (thn (h pos pins s σ H _ I hq) fun us s1 ⟨xs,H1,I1,r,z,q⟩=>⟨by rw [← r.length];exact z,?_⟩)
 have hf:H1 s1.heap.objs.size=none:=I1.hok.fresh (Nat.le_refl _)
 refine ⟨.ref s1.heap.objs.size,upd H1 s1.heap.objs.size (.lst xs),I1.laid (t':=s1.toks) (fun b u e=>Heap.get?_push_of_some _ e) (Nat.le_refl _) ?_,rfl,q _ hf⟩
 exact ⟨z,us,0,r,Heap.get?_push_size _ rfl⟩
end
abbrev Sp:=List V→Hp→VK→XK→Prop
abbrev CXT:=List Env→Hp→Shared→XK→Value→Shared→Prop
structure Env0 (P:Program) (w:World) (K:PySem.W.Frag) (mg:Str→Option Value) (base:Heap) (A:Around) (outer:List Env) (s:Shared) (H:Hp):Prop where
 frames:A.frames=some outer
 mod:Mod K mg base
 bs:∀ b o,base.get? b=some o→s.heap.get? b=some o∧H b=none
 bsz:base.objs.size≤s.heap.objs.size
 funs:s.heap.FunFrames base outer
 frf:∀ b∈frs outer,H b=none
 hok:HOk P w H s.heap
 bare:AllBare s.gens
def CE (outer:List Env) (P:Program) (w:World) (H:Hp) (s:Shared) (Q:VK) (u:Value) (s':Shared):Prop:=
 ∃ v H',s'.os=s.os∧AllBare s'.gens∧Un (frs outer) [] H H' s.heap s'.heap∧HOk P w H' s'.heap∧RelV v u∧Q v H'
def CR (CX:CXT) (outer:List Env) (P:Program) (w:World) (H:Hp) (s:Shared) (Q:VK) (E:XK) (r:Result) (s':Shared):Prop:=
 match r with
 | .ok (.ret u)=>CE outer P w H s Q u s'
 | .ok _=>False
 | .error e=>CX outer H s E e s'
structure FnOk (P:Program) (w:World) (K:PySem.W.Frag) (mg:Str→Option Value) (base:Heap) (CX:CXT) (k:Nat) (f:Addr) (fd:FuncData) (ps:List Str) (sp:Sp):Prop where
 len:∀ vs H Q E,sp vs H Q E→vs.length=ps.length
 run:∀ (A:Around) (outer:List Env) (s:Shared) (H:Hp) (args:Args) (us:List Value) (vs:List V) (Q:VK) (E:XK),Room k A→Env0 P w K mg base A outer s H→BindsTo s fd args (ps.zip us)→Vals vs us→sp vs H Q E →
  codeAny (model P w) A (.call (.ref f) args) (CR CX outer P w H s Q E) s
theorem Env0.make {P:Program} {w:World} {K:PySem.W.Frag} {mg:Str→Option Value} {base:Heap} {A:Around} {outer:List Env} {s:Shared} {H:Hp} (e:Env0 P w K mg base A outer s H) (C:Addr) (us:List Value) (kw:List (Str×Value)) :
  Env0 P w K mg base (A.under (.builtin "type.__call__" ⟨.ref C::us,kw⟩)) outer s H:=⟨by first | exact e.frames | (simpa [Around.under,Code.envs,Code.isFrame,pushEnvs] using e.frames),e.mod,e.bs,e.bsz,e.funs,e.frf,e.hok,e.bare⟩
section
variable {X:Cx} {pins:List (Addr×Obj)} {σ:St} {H:Hp} {s s':Shared}
theorem Inv.env0 (I:Inv X pins σ H s):Env0 X.prog X.w X.K X.mg X.base X.A X.stack s H:=
 ⟨I.ok.frames,I.ok.mod,I.bs,Nat.le_trans I.ok.bsz I.sz,I.stack,I.stkFree,I.hok,I.bare⟩
theorem Inv.after {Q:VK} {u:Value} (I:Inv X pins σ H s) (h:CE X.stack X.prog X.w H s Q u s'):EP X pins σ Q u s':=by
 obtain ⟨v,H',os,bare,un,hok,r,q⟩:=h
 obtain ⟨hh,g,d,t,os'⟩:=s'
 obtain rfl:os'=s.os:=os
 exact ⟨v,H',I.call (h':=hh) (g':=g) (d':=d) (t':=t) (ch:=[]) un hok bare (fun b z=>absurd z (by simp)),r,q⟩
end
def qdW (sp:Sp) (dvs:List V) (E:XK) (t:TA):TE:=fun σ H Q=>t σ H fun vs H1=>sp (vs++dvs) H1 Q E
def qdX (C:Addr) (m:Str) (sp:Sp) (dvs:List V) (E:XK) (ta:TE) (t:TA):TE:=fun σ H Q=>ta σ H fun x H1=>∃ a dx fs,x=.ref a∧H1 a=some (.ins C dx fs)∧fs.lookup m=none ∧
 t σ H1 fun vs H2=>sp (x::(vs++dvs)) H2 Q E
def qfv (C:Addr) (sp:Sp) (dvs:List V) (E:XK) (t:TA):TE:=fun σ H Q=>t σ H fun vs H1=>∀ x dx,H1 x=none→H1 dx=none→dx≠x →
 sp (.ref x::(vs++dvs)) (upd (upd H1 dx (.own x)) x (.ins C dx [])) (fun v H2=>v=.non∧Q (.ref x) H2) E
def Binds (K:PySem.W.Frag) (fd:FuncData) (ps:List Str) (ds:List Value):Prop:=
 ∀ (s:Shared) (us:List Value),K.In s.heap→(us++ds).length=ps.length→BindsTo s fd ⟨us,[]⟩ (ps.zip (us++ds))
theorem Binds.all {K:PySem.W.Frag} {fd:FuncData} {ps:List Str} (h:∀ us:List Value,us.length=ps.length→bindArgs fd ⟨us,[]⟩=pure (ps.zip us)):Binds K fd ps []:=fun s us _ hl=>by
 rw [List.append_nil] at hl ⊢
 exact .of_eq (h us hl)
def zW (CX:CXT) (X:Cx) (E:XK):Prop:=∀ (pins:List (Addr×Obj)) (σ:St) (H:Hp) (s:Shared) (e:Value) (s':Shared),Inv X pins σ H s→CX X.stack H s E e s'→X.xe e s'
section
variable {X:Cx} {CX:CXT} {k:Nat} {f C:Addr} {fd:FuncData} {ps:List Str} {sp:Sp} {dvs:List V} {ds:List Value} {E:XK} {x m:Str} {p pos apos:Pos} {e o:Expr} {es:List Expr} {ta:TE} {t:TA}
theorem qc4 {pins:List (Addr×Obj)} {σ:St} {H:Hp} {s:Shared} {Q:VK} {us:List Value} {vs:List V} (F:FnOk X.prog X.w X.K X.mg X.base CX k f fd ps sp) (hr:Room k X.A) (hb:Binds X.K fd ps ds) (hd:Vals dvs ds) (hx:zW CX X E)
  (I:Inv X pins σ H s) (r:Vals vs us) (h:sp (vs++dvs) H Q E):wpAny (model X.prog X.w) X.A (call (.ref f) us) (EP X pins σ Q) X.xe s:=by
 have r2:Vals (vs++dvs) (us++ds):=r.append hd
 have hl:(us++ds).length=ps.length:=by rw [← r2.length];exact F.len _ _ _ _ h
 refine wpAny_call (codeAny_mono (F.run X.A X.stack s H ⟨us,[]⟩ (us++ds) (vs++dvs) Q E hr I.env0 (hb s us I.kIn hl) r2 h) fun r s' hq=>?_)
 cases r with
 | error e=>exact hx pins σ H s e s' I hq
 | ok fl =>
  cases fl with
  | ret u=>exact I.after hq
  | next=>exact False.elim hq
  | brk=>exact False.elim hq
  | cont=>exact False.elim hq
theorem pe_call (F:FnOk X.prog X.w X.K X.mg X.base CX k f fd ps sp) (hr:Room k X.A) (hg:Gl X x) (hm:X.mg x=some (.ref f)) (hk:PySem.W.keepIn X.K (.ref f)=true) (hb:Binds X.K fd ps ds) (hd:Vals dvs ds) (hx:zW CX X E)
  (ha:PA X (e::es) t) (hdb:(x==("__debug__":Str))=false:=by decide) (he:starEach (e::es) X.env=(false,eval e X.env)::starEach es X.env:=by rfl) (hpl:(backTo pos (starEach es X.env)).any (·.1)=false:=by rfl) :
  PE X (.Call (.Name x p) (e::es) [] pos) (qdW sp dvs E t):=by
 intro pins s σ H Q I h
 refine wpAny_Call_Name_kw (zU I hg hm ?_ hdb)
 refine PySem.W.callWith_K (h₀:=X.base) I.ok.mod.kin hk (thn (ha pos pins s σ H _ I h) fun us s1 ⟨vs,H1,I1,r,q⟩=>⟨I1.kIn,?_⟩) he hpl
 exact qc4 F hr hb hd hx I1 r q
theorem pe_meth {pl:Sem Bool} (he:PE X o ta) (c:Cls X.K C) (hm:Meth X.K C m f) (F:FnOk X.prog X.w X.K X.mg X.base CX k f fd ps sp) (hr:Room k X.A) (hb:Binds X.K fd ps ds) (hd:Vals dvs ds) (hx:zW CX X E) (ha:PA X (e::es) t)
  (hst:starEach (e::es) X.env=(false,eval e X.env)::starEach es X.env:=by rfl) (hpl:(backTo pos (starEach es X.env)).any (·.1)=false:=by rfl)
  (ht:eval (.Call (.Attribute o m apos) (e::es) [] pos) X.env=(do
   let ov ← eval o X.env
   standAt apos.atName
   let (f,first) ← holding [ov] (getMethod ov m pl)
   callWith pos f first (backTo pos (starEach (e::es) X.env)) (backToKw pos (keywordEach [] X.env))):=by rfl) :
  PE X (.Call (.Attribute o m apos) (e::es) [] pos) (qdX C m sp dvs E ta t):=by
 intro pins s σ H Q I h
 refine PySem.W.methodCall_KW (pl:=pl) (thn (he pins s σ H _ I h) fun u s1 ⟨x,H1,I1,rx,a,dx,fs,ex,ea,l,q⟩=>?_) ht
 subst ex
 obtain rfl:u=Value.ref a:=rx
 refine qaV I1 ea c hm l ?_
 refine PySem.W.callWith_K (first:=[.ref a]) (h₀:=X.base) I.ok.mod.kin hm.kp (thn (ha pos pins s1 σ H1 _ I1 q) fun us s2 ⟨vs,H2,I2,r,q2⟩=>⟨I2.kIn,?_⟩) hst hpl
 exact qc4 (us:=.ref a::us) (vs:=.ref a::vs) F hr hb hd hx I2 (.cons rfl r) q2
theorem pe_meth0 {pl:Sem Bool} (he:PE X o ta) (c:Cls X.K C) (hm:Meth X.K C m f) (F:FnOk X.prog X.w X.K X.mg X.base CX k f fd ps sp) (hr:Room k X.A) (hb:Binds X.K fd ps ds) (hd:Vals dvs ds) (hx:zW CX X E)
  (ht:eval (.Call (.Attribute o m apos) [] [] pos) X.env=(do
   let ov ← eval o X.env
   standAt apos.atName
   let (f,first) ← holding [ov] (getMethod ov m pl)
   callWith pos f first (backTo pos (starEach [] X.env)) (backToKw pos (keywordEach [] X.env))):=by rfl) :
  PE X (.Call (.Attribute o m apos) [] [] pos) (qdX C m sp dvs E ta qeZ):=by
 intro pins s σ H Q I h
 refine PySem.W.methodCall_KW (pl:=pl) (thn (he pins s σ H _ I h) fun u s1 ⟨x,H1,I1,rx,a,dx,fs,ex,ea,l,q⟩=>?_) ht
 subst ex
 obtain rfl:u=Value.ref a:=rx
 refine qaV I1 ea c hm l ?_
 exact PySem.W.callWith_K0 (first:=[.ref a]) I1.kIn hm.kp (qc4 (us:=[.ref a]) (vs:=[.ref a]) F hr hb hd hx I1 (.cons rfl .nil) q)
structure Mk (K:PySem.W.Frag) (C f:Addr):Prop where
 makes:PySem.W.makesIn K C=true
 init:PySem.W.findIn K (.ref C) "__init__"=some (some (.ref f))
 fn:PySem.W.isFn K (.ref f)=true
 kp:PySem.W.keepIn K (.ref C)=true
theorem run_make {pins:List (Addr×Obj)} {σ:St} {H:Hp} {s:Shared} {Q:VK} {us:List Value} {vs:List V} (M:Mk X.K C f) (F:FnOk X.prog X.w X.K X.mg X.base CX k f fd ps sp) (hr:Room (k + 1) X.A) (hb:Binds X.K fd ps ds) (hd:Vals dvs ds)
  (hx:zW CX X E) (I:Inv X pins σ H s) (r:Vals vs us)
  (h:∀ x dx,H x=none→H dx=none→dx≠x→sp (.ref x::(vs++dvs)) (upd (upd H dx (.own x)) x (.ins C dx [])) (fun v H2=>v=.non∧Q (.ref x) H2) E) :
  wpAny (model X.prog X.w) X.A (call (.ref C) us) (EP X pins σ Q) X.xe s:=by
 have hq:=h (s.heap.objs.size + 1) s.heap.objs.size (I.hok.fresh (Nat.le_succ _)) (I.hok.fresh (Nat.le_refl _)) (Nat.ne_of_lt (Nat.lt_succ_self _))
 have I2:=Inv.made (C:=C) I
 have r2:Vals (V.ref (s.heap.objs.size + 1)::(vs++dvs)) (Value.ref (s.heap.objs.size + 1)::(us++ds)):=.cons rfl (r.append hd)
 have hl:(Value.ref (s.heap.objs.size + 1)::us++ds).length=ps.length:=by
  have e:=r2.length
  rw [F.len _ _ _ _ hq] at e
  exact e.symm
 refine wpAny_call (qc3 (f:=f) I.kIn M.makes M.init (beq_iff_eq.mp M.fn) (codeAny_mono (F.run _ X.stack _ _ ⟨Value.ref (s.heap.objs.size + 1)::us,[]⟩ (Value.ref (s.heap.objs.size + 1)::(us++ds)) _ _ E (hr.make C us [])
  (I2.env0.make C us []) (hb _ (Value.ref (s.heap.objs.size + 1)::us) I2.kIn hl) r2 hq) fun r s' hq'=>?_))
 cases r with
 | error e=>exact hx pins σ _ _ e s' I2 hq'
 | ok fl =>
  cases fl with
  | ret u =>
   obtain ⟨v,H',I3,rv,ev,q3⟩:=I2.after hq'
   subst ev
   exact ⟨rv,⟨V.ref (s.heap.objs.size + 1),H',I3,rfl,q3⟩⟩
  | next=>exact False.elim hq'
  | brk=>exact False.elim hq'
  | cont=>exact False.elim hq'
theorem pe_make (M:Mk X.K C f) (F:FnOk X.prog X.w X.K X.mg X.base CX k f fd ps sp) (hr:Room (k + 1) X.A) (hg:Gl X x) (hm:X.mg x=some (.ref C)) (hb:Binds X.K fd ps ds) (hd:Vals dvs ds) (hx:zW CX X E)
  (ha:PA X (e::es) t) (hdb:(x==("__debug__":Str))=false:=by decide) (he:starEach (e::es) X.env=(false,eval e X.env)::starEach es X.env:=by rfl) (hpl:(backTo pos (starEach es X.env)).any (·.1)=false:=by rfl) :
  PE X (.Call (.Name x p) (e::es) [] pos) (qfv C sp dvs E t):=by
 intro pins s σ H Q I h
 refine wpAny_Call_Name_kw (zU I hg hm ?_ hdb)
 refine PySem.W.callWith_K (h₀:=X.base) I.ok.mod.kin M.kp (thn (ha pos pins s σ H _ I h) fun us s1 ⟨vs,H1,I1,r,q⟩=>⟨I1.kIn,?_⟩) he hpl
 exact run_make M F hr hb hd hx I1 r q
end
section
variable {X:Cx} {CX:CXT} {k:Nat} {f C:Addr} {fd:FuncData} {ps ks:List Str} {sp:Sp} {E:XK} {x m:Str} {p pos apos kpos:Pos} {e o:Expr} {es:List Expr} {kws:List Keyword} {te ta:TE} {t tk:TA} {nm:Option Str}
structure KBinds (K:PySem.W.Frag) (fd:FuncData) (ps ks:List Str) (g:List Value→List Value→List Value) (gV:List V→List V→List V):Prop where
 to:∀ (s:Shared) (us ws:List Value),K.In s.heap→(g us ws).length=ps.length→BindsTo s fd ⟨us,ks.zip ws⟩ (ps.zip (g us ws))
 rel:∀ {vs:List V} {us:List Value} {zs:List V} {ws:List Value},Vals vs us→Vals zs ws→Vals (gV vs zs) (g us ws)
variable {g:List Value→List Value→List Value} {gV:List V→List V→List V}
end
structure FnScope (N P:List Str) (sc:Scope):Prop where
 kind:sc.kind=.function
 co:sc.isCoroutine=false
 gen:sc.isGenerator=false
 nd:N.Nodup
 pre:N.take P.length=P
 par:∀ x∈P,sc.names.lookup x=some .local∨sc.names.lookup x=some .cell
 nofree:∀ y∈sc.names,y.2≠.free
theorem qca {kindOf:Str→Option NameKind} {x:Str}:∀ {binds:List (Str×Value)} {m:Str→Option Value},(∀ v,(x,v)∉binds)→bindL kindOf binds m x=m x
 | [],_,_=>rfl
 | (n,v)::r,m,h=>by
  unfold bindL
  rw [qca fun w hw=>h w (List.mem_cons_of_mem _ hw)]
  split
  ·have:x≠n:=by rintro rfl;exact h v List.mem_cons_self
   simp [this]
  ·rfl
theorem qcb {kindOf:Str→Option NameKind} {x:Str}:∀ {binds:List (Str×Value)} {m:Str→Option Value},(∀ v,(x,v)∉binds)→bindC kindOf binds m x=m x
 | [],_,_=>rfl
 | (n,v)::r,m,h=>by
  unfold bindC
  rw [qcb fun w hw=>h w (List.mem_cons_of_mem _ hw)]
  split
  ·rfl
  ·have:x≠n:=by rintro rfl;exact h v List.mem_cons_self
   simp [this]
theorem qcc {kindOf:Str→Option NameKind} {x:Str} {v:Value}:∀ {P:List Str} {vs:List Value} {i:Nat} {m:Str→Option Value},P.Nodup→P[i]?=some x→vs[i]?=some v→kindOf x=some .local →
  bindL kindOf (P.zip vs) m x=some v
 | [],_,_,_,_,h,_,_=>by simp at h
 | _::_,[],_,_,_,_,h,_=>by simp at h
 | p::P,w::vs,0,m,nd,h1,h2,hk=>by
  simp at h1 h2;subst h1;subst h2
  show bindL kindOf ((p,w)::P.zip vs) m p=_
  unfold bindL
  rw [qca fun v hv=>(List.nodup_cons.mp nd).1 (List.of_mem_zip hv).1,if_pos hk]
  simp
 | p::P,w::vs,i + 1,m,nd,h1,h2,hk=>by
  show bindL kindOf ((p,w)::P.zip vs) m x=_
  unfold bindL
  exact qcc (i:=i) (List.nodup_cons.mp nd).2 (by simpa using h1) (by simpa using h2) hk
theorem qcd {kindOf:Str→Option NameKind} {x:Str} {v:Value}:∀ {P:List Str} {vs:List Value} {i:Nat} {m:Str→Option Value},P.Nodup→P[i]?=some x→vs[i]?=some v→kindOf x≠some .local →
  bindC kindOf (P.zip vs) m x=some v
 | [],_,_,_,_,h,_,_=>by simp at h
 | _::_,[],_,_,_,_,h,_=>by simp at h
 | p::P,w::vs,0,m,nd,h1,h2,hk=>by
  simp at h1 h2;subst h1;subst h2
  show bindC kindOf ((p,w)::P.zip vs) m p=_
  unfold bindC
  rw [qcb fun v hv=>(List.nodup_cons.mp nd).1 (List.of_mem_zip hv).1,if_neg hk]
  simp
 | p::P,w::vs,i + 1,m,nd,h1,h2,hk=>by
  show bindC kindOf ((p,w)::P.zip vs) m x=_
  unfold bindC
  exact qcd (i:=i) (List.nodup_cons.mp nd).2 (by simpa using h1) (by simpa using h2) hk
def start (N:List Str) (vs:List V):St:=vs.map some++List.replicate (N.length - vs.length) none
def qe0 (CX:CXT) (P:Program) (w:World) (K:PySem.W.Frag) (mg:Str→Option Value) (base:Heap) (N:List Str) (qual:Str) (scope:Scope) (f:Addr) (cd:Value) (A:Around) (outer:List Env) (s:Shared) (H:Hp) (E:XK):Cx where
 prog:=P
 w:=w
 K:=K
 mg:=mg
 base:=base
 A:=A.deeper (envOfC qual scope s.heap.objs.size f cd)
 N:=N
 s₀:=s
 H₀:=H
 env:=envOfC qual scope s.heap.objs.size f cd
 outer:=outer
 stack:=envOfC qual scope s.heap.objs.size f cd::outer
 ex:=[]
 calm:=true
 fn:=fun _=>true
 pn:=[]
 xe:=fun e s'=>wpAny (model P w) (A.deeper (envOfC qual scope s.heap.objs.size f cd)) (leaving (envOfC qual scope s.heap.objs.size f cd) e) (fun _ s''=>CX outer H s E e s'') (fun e' s''=>CX outer H s E e' s'') s'
theorem qc5 {sc:Scope} {n:Nat} {x:Str} (h:sc.names.lookup x=some .cell):∃ c,(cellsFrom n sc.names []).lookup x=some c:=by
 have q:=PySem.W.cellsFrom_some sc.names n [] (.inl h)
 exact Option.isSome_iff_exists.mp q
theorem inv_start {CX:CXT} {P:Program} {w:World} {K:PySem.W.Frag} {mg:Str→Option Value} {base:Heap} {N ps:List Str} {qual:Str} {scope:Scope} {f:Addr} {cd:Value} {A:Around} {outer:List Env} {s s1:Shared} {H:Hp} {E:XK} {us:List Value} {vs:List V}
  (S:FnScope N ps scope) (hd:A.handled=none) (e0:Env0 P w K mg base A outer s H) (hl:vs.length=ps.length) (r:Vals vs us)
  (x:InCallC s s.heap.objs.size (bindL (envOfC qual scope s.heap.objs.size f cd).kindOf (ps.zip us) fun _=>none) (cellsFrom (s.heap.objs.size + 1) scope.names []) (bindC (envOfC qual scope s.heap.objs.size f cd).kindOf (ps.zip us) fun _=>none) s1) :
  Inv (qe0 CX P w K mg base N qual scope f cd A outer s H E) [] (start N vs) H s1:=by
 have hpl:ps.length≤N.length:=by have:=congrArg List.length S.pre;rw [List.length_take] at this;omega
 obtain ⟨h1,tk,rfl,hk⟩:=x.done
 have noA:∀ b:Addr,b∉(qe0 CX P w K mg base N qual scope f cd A outer s H E).ex:=fun b z=>absurd (show b∈([]:List Addr) from z) (by simp)
 refine ⟨⟨e0.mod,S.kind,rfl,rfl,Nat.le_refl _,fun y z c h1 h2=>?_,fun y hy=>?_,fun y c _ h=>?_,fun _=>hd,Around.frames_deeper e0.frames,.inr ⟨rfl,rfl⟩,fun b z=>absurd z (noA b),e0.bs,e0.bsz,fun b _ _=>noA b,fun b z=>absurd z (noA b),e0.funs,e0.frf⟩,
  rfl,e0.bare,Un.kept hk,⟨_,x.toInCall.ns,fun i y v h1 h2 h3=>?_⟩,fun y c h=>⟨_,x.cell y c h⟩,e0.hok.fresh (Nat.le_refl _),fun y c h=>?_,fun p hp=>absurd (show p∈([]:List (Addr×Obj)) from hp) (by simp),e0.hok.kept hk,?_⟩
 ·exact name_of_addr x.apart (PySem.mem_of_lookup h1) (PySem.mem_of_lookup h2)
 ·have hy:scope.names.lookup y=some .cell∨scope.names.lookup y=some .free:=hy
  rcases hy with hy | hy
  ·exact qc5 hy
  ·exact absurd rfl (S.nofree _ (PySem.mem_of_lookup hy))
 ·exact Nat.le_of_lt (x.above y c (PySem.mem_of_lookup h))
 ·have hi:i < vs.length:=by
   unfold start at h2
   by_cases hi:i < vs.length
   ·exact hi
   ·rw [List.getElem?_append_right (by simpa using hi)] at h2
    rw [List.getElem?_replicate] at h2
    split at h2<;>cases h2
  have ha:vs[i]?=some v:=by
   unfold start at h2
   rw [List.getElem?_append_left (by simpa using hi),List.getElem?_map] at h2
   cases e:vs[i]? with
   | none=>rw [e] at h2;cases h2
   | some a=>rw [e] at h2;cases h2;rfl
  obtain ⟨u,hu,rv⟩:=r.get ha
  have hp:ps[i]?=some y:=by
   rw [← S.pre,List.getElem?_take_of_lt (by omega)];exact h1
  have ndP:ps.Nodup:=by rw [← S.pre];exact S.nd.sublist (List.take_sublist _ _)
  refine ⟨u,rv,?_⟩
  rcases S.par y (List.mem_of_getElem? hp) with k | k
  ·exact .inl ⟨k,qcc ndP hp hu k⟩
  ·obtain ⟨c,e⟩:=qc5 (n:=s.heap.objs.size + 1) k
   refine .inr ⟨.inl k,c,e,?_⟩
   have q:=x.cell y c e
   rw [qcd ndP hp hu (by show scope.names.lookup y≠_;rw [k];decide)] at q
   exact q
 ·exact e0.hok.fresh (Nat.le_of_lt (x.above y c (PySem.mem_of_lookup h)))
 ·unfold start
  show _=N.length
  rw [List.length_append,List.length_map,List.length_replicate]
  omega
theorem qfP {CX:CXT} {P:Program} {w:World} {K:PySem.W.Frag} {mg:Str→Option Value} {base:Heap} {k:Nat} {f:Addr} {name qual:Str} {params:Arguments} {body:List Stmt} {scope:Scope} {dV kV doc pm cdv ct oc:Value} {an od:Option Addr}
  {osl:Array (Option Value)} {N ps:List Str} {sp:Sp} (lk:K.lookup f=some ⟨oc,od,.func (PySem.W.fnOf name qual params body scope dV kV doc pm an cdv ct),osl⟩) (hcd:PySem.W.codeIn K cdv qual=true) (S:FnScope N ps scope)
  (len:∀ vs H Q E,sp vs H Q E→vs.length=ps.length)
  (hbody:∀ (A:Around) (outer:List Env) (s:Shared) (H:Hp) (vs:List V) (Q:VK) (E:XK),Room k (A.deeper (envOfC qual scope s.heap.objs.size f cdv))→sp vs H Q E →
   ∃ t,PSs (qe0 CX P w K mg base N qual scope f cdv A outer s H E) body t∧t { nx:=fun _ H'=>Q .non H',rt:=Q } (start N vs) H) :
  FnOk P w K mg base CX (k + 1) f (PySem.W.fnOf name qual params body scope dV kV doc pm an cdv ct) ps sp:=by
 refine ⟨len,fun A outer s H args us vs Q E hr e0 hb r hsp=>?_⟩
 have hl:=len _ _ _ _ hsp
 have KX:K.In s.heap:=e0.mod.kin.keeps fun b o e=>(e0.bs b o e).1
 have lim:s.heap.NoLimit:=e0.mod.nolimit.keeps fun b o e=>(e0.bs b o e).1
 have hkind:∀ y∈ps.zip us,scope.names.lookup y.1=some .local∨(scope.names.lookup y.1=some .cell∧((cellsFrom (s.heap.objs.size + 1) scope.names []).lookup y.1).isSome=true):=fun ⟨n,v⟩ hy=>by
  rcases S.par n (List.of_mem_zip hy).1 with q | q
  ·exact .inl q
  ·exact .inr ⟨q,PySem.W.cellsFrom_some _ _ _ (.inl q)⟩
 refine codeAny_call_function hr.depth (KX _ _ lk) rfl S.co S.gen rfl (PySem.W.codeRec_of KX hcd) (hb _ _ _ _ ?_)
 refine wpAny_newFunctionEnv_cells S.kind hkind fun env he s1 x=>?_
 subst he
 refine ⟨lim.keeps x.toInCall.keep,codeAny_func ?_⟩
 obtain ⟨t,ht,hq⟩:=hbody A outer s H vs Q E (hr.deeper _) hsp
 have I:Inv (qe0 CX P w K mg base N qual scope f cdv A outer s H E) [] (start N vs) H s1:=inv_start S hr.hd e0 hl r x
 refine wpAny_mono (ht [] s1 (start N vs) H _ I hq) (fun fl s' hs=>?_) fun e s' hs=>hs
 have fin:∀ {σ':St} {H':Hp} {v:V} {u:Value},Inv (qe0 CX P w K mg base N qual scope f cdv A outer s H E) [] σ' H' s'→RelV v u→Q v H'→CE outer P w H s Q u s':=
  fun {σ' H' v u} J rv q=>⟨v,H',J.os,J.bare,J.base,J.hok,rv,q⟩
 cases fl with
 | ret u =>
  obtain ⟨v,σ',H',J,rv,q⟩:=hs
  exact fin J rv q
 | next =>
  obtain ⟨σ',H',J,q⟩:=hs
  exact fin (v:=V.non) (u:=Value.none) J rfl q
 | brk =>
  obtain ⟨_,_,_,q⟩:=hs
  exact False.elim q
 | cont =>
  obtain ⟨_,_,_,q⟩:=hs
  exact False.elim q
end L2
namespace L2
open PySem PySem.Spec PyProof.Rows
section
variable {X:Cx} {x:Str} {p pos:Pos} {e:Expr} {es:List Expr} {t:TA} {id T:String} {r:List V→Hp→VK→Prop}
def tCB (r:List V→Hp→VK→Prop) (t:TA):TE:=fun σ H Q=>t σ H fun vs H1=>r vs H1 Q
theorem qm (hc:zH X (.builtin id) r) (hg:Gl X x) (hm:X.mg x=none) (hv:bootBuiltins x=some (.builtin id)) (ha:PA X (e::es) t) (hn:x≠"__name__":=by decide) (hdb:(x==("__debug__":Str))=false:=by decide)
  (he:starEach (e::es) X.env=(false,eval e X.env)::starEach es X.env:=by rfl) (hpl:(backTo pos (starEach es X.env)).any (·.1)=false:=by rfl):PE X (.Call (.Name x p) (e::es) [] pos) (tCB r t):=by
 intro pins s σ H Q I h
 refine wpAny_Call_Name_kw (qa9 I hg hm hv ?_ hn hdb)
 exact PyProof.Rows.callWith_builtin1 (thn (ha pos pins s σ H _ I h) fun us s1 ⟨vs,H1,I1,r1,q1⟩=>hc pins s1 σ H1 vs us Q I1 r1 q1) he hpl
theorem qI (hc:zH X (.type T) r) (hg:Gl X x) (hm:X.mg x=none) (hv:bootBuiltins x=some (.type T)) (ha:PA X (e::es) t) (hn:x≠"__name__":=by decide) (hdb:(x==("__debug__":Str))=false:=by decide)
  (he:starEach (e::es) X.env=(false,eval e X.env)::starEach es X.env:=by rfl) (hpl:(backTo pos (starEach es X.env)).any (·.1)=false:=by rfl):PE X (.Call (.Name x p) (e::es) [] pos) (tCB r t):=by
 intro pins s σ H Q I h
 refine wpAny_Call_Name_kw (qa9 I hg hm hv ?_ hn hdb)
 exact PyProof.Rows.callWith_type1 (thn (ha pos pins s σ H _ I h) fun us s1 ⟨vs,H1,I1,r1,q1⟩=>hc pins s1 σ H1 vs us Q I1 r1 q1) he hpl
end
end L2
namespace HT
open PySem PyProof.Rows
section
open PySem.SeqAt
open PySem.AutoSeq1 (wpAny_loadPart')
open PySem.MeetsSeq PySem.MeetsSeq2 PySem.MeetsSeq3
end
section
variable {prog:Program} {w:World} {A:Around} {E:Value→Shared→Prop} {s:Shared}
theorem cat_tup {t b:Addr} {vs ws:List Value} {Q:Value→Shared→Prop} (ht:IsTup s.heap t vs.toArray) (hb:IsTup s.heap b ws.toArray) (hv:vs≠[])
  (h1:ws=[]→Q (.ref t) s) (h2:ws≠[]→Q (.ref s.heap.objs.size) { s with heap:=s.heap.push { cls:=.type "tuple",data:=.seq (vs++ws).toArray } })
  (hsz:vs.length + ws.length≤sizeLine):wpAny (model prog w) A (binaryOp .Add (.ref t) (.ref b)) Q E s:=by
 obtain ⟨⟨cls,dd,data,sl⟩,ho,hc,n,hd⟩:=id ht
 obtain ⟨⟨cls2,dd2,data2,sl2⟩,ho2,hc2,n2,hd2⟩:=id hb
 simp only at hc hd hc2 hd2
 subst hc hd hc2 hd2
 have e:vs.toArray++ws.toArray=(vs++ws).toArray:=by simp
 by_cases hw:ws=[]
 ·exact concat_meets ⟨_,ho,rfl⟩ ⟨_,ho2,rfl⟩ noFill_tuple_add seq_tuple_add PySem.F.slot_tuple_add PySem.F.entry_tuple_add (PySem.F.args_tuple_add_2 _ _)
   (tuple_addW1 t b vs.toArray ws.toArray n n2 dd dd2 sl sl2 (by simpa using hv) (by simp [hw])) ⟨ho,ho2,h1 hw⟩
 ·refine concat_meets ⟨_,ho,rfl⟩ ⟨_,ho2,rfl⟩ noFill_tuple_add seq_tuple_add PySem.F.slot_tuple_add PySem.F.entry_tuple_add (PySem.F.args_tuple_add_2 _ _)
   (tuple_addW2 t b vs.toArray ws.toArray n n2 dd dd2 sl sl2 (by simpa using hv) (by simpa using hw) (by rw [List.size_toArray,List.size_toArray];exact hsz)) ⟨ho,ho2,?_⟩
  rw [e]
  exact h2 hw
def sIx (n d:Nat):Option Int→Nat
 | none=>d
 | some v=>if v < 0 then (v + (n:Int)).toNat else min v.toNat n
theorem sIx_none (n d:Nat):sIx n d none=d:=rfl
theorem sIx_nat (n d k:Nat):sIx n d (some (k:Int))=min k n:=by
 show (if (k:Int) < 0 then ((k:Int) + (n:Int)).toNat else min (k:Int).toNat n)=min k n
 rw [if_neg (by omega),Int.toNat_natCast]
theorem sIx_le (n d:Nat) (hd:d≤n) (o:Option Int):sIx n d o≤n:=by
 cases o with
 | none=>exact hd
 | some v =>
  show (if v < 0 then (v + (n:Int)).toNat else min v.toNat n)≤n
  by_cases hv:v < 0
  ·rw [if_pos hv];omega
  ·rw [if_neg hv];exact Nat.min_le_right _ _
theorem qdY (v:Int) (n d:Nat):(if v < 0 then max (v + (n:Int)) 0 else min v (n:Int))=((sIx n d (some v):Nat):Int):=by
 show (if v < 0 then max (v + (n:Int)) 0 else min v (n:Int))=(((if v < 0 then (v + (n:Int)).toNat else min v.toNat n):Nat):Int)
 by_cases hv:v < 0
 ·simp only [if_pos hv];omega
 ·simp only [if_neg hv];omega
theorem adjust_gen (lo hi:Option Int) (n:Nat):Builtin.Slice.sliceAdjust lo hi 1 (n:Int)=(((sIx n 0 lo:Nat):Int),((sIx n n hi:Nat):Int)):=by
 have h1:¬ ((1:Int) < 0):=by omega
 unfold Builtin.Slice.sliceAdjust
 simp only [h1,if_false]
 refine Prod.ext ?_ ?_
 ·cases lo with
  | none=>rfl
  | some v=>exact qdY v n 0
 ·cases hi with
  | none=>rfl
  | some v=>exact qdY v n n
theorem places_gen (i j:Nat):Builtin.Slice.slicePlaces (i:Int) (j:Int) 1=j - i:=by
 unfold Builtin.Slice.slicePlaces
 have h1:(1:Int) > 0:=by omega
 simp only [h1,if_true,Int.ediv_one]
 split<;>omega
theorem qac {v:Value} {o:Option Int} {Q:Option Int→Shared→Prop} (p:IsPart v o) (h:Q o s):wpAny (model prog w) A (Builtin.Slice.slicePartIndex v) Q E s:=by
 cases p with
 | none=>exact slicePart_none h
 | int i t=>exact slicePart_int h
theorem sliceApplied_gen {sl:Addr} {vl vu:Value} {lo hi:Option Int} {n:Nat} {Q:Int×Int×Nat→Shared→Prop} (hs:s.heap.IsSliceOf sl vl vu .none) (pl:IsPart vl lo) (pu:IsPart vu hi)
  (h:Q (((sIx n 0 lo:Nat):Int),1,sIx n n hi - sIx n 0 lo) s):wpAny (model prog w) A (Builtin.Slice.sliceApplied (.ref sl) (pure (n:Int))) Q E s:=by
 obtain ⟨os,hos,hcs,hds⟩:=id hs
 unfold Builtin.Slice.sliceApplied Builtin.Slice.sliceFields
 refine wpAny_bind (wpAny_bind (wpAny_field hos hds (x:=vl) rfl (wpAny_bind (wpAny_field hos hds (x:=vu) rfl (wpAny_bind (wpAny_field hos hds (x:=.none) rfl (wpAny_pure ?_)))))))
 refine wpAny_bind (slicePart_none ?_)
 show wpAny _ _ (if ((1:Int)==0)=true then _ else _) _ _ s
 rw [if_neg (by decide)]
 refine wpAny_bind (qac pl (wpAny_bind (qac pu (wpAny_bind (wpAny_pure ?_)))))
 show wpAny _ _ (match Builtin.Slice.sliceAdjust lo hi 1 (n:Int) with | (lo,hi)=>pure (lo,(1:Int),Builtin.Slice.slicePlaces lo hi 1)) _ _ s
 rw [adjust_gen lo hi n]
 show wpAny _ _ (pure (((sIx n 0 lo:Nat):Int),(1:Int),Builtin.Slice.slicePlaces ((sIx n 0 lo:Nat):Int) ((sIx n n hi:Nat):Int) 1)) _ _ s
 rw [places_gen]
 exact wpAny_pure h
theorem pick_gen (xs:Array Value) (i k:Nat):((List.range k).filterMap fun (m:Nat)=>xs[((i:Int) + (m:Int) * 1).toNat]?).toArray=((xs.toList.drop i).take k).toArray:=by
 have e:(fun (m:Nat)=>xs[((i:Int) + (m:Int) * 1).toNat]?)=fun m=>xs[i + m]?:=by
  funext m
  have:((i:Int) + (m:Int) * 1).toNat=i + m:=by omega
  rw [this]
 rw [e]
 have:=pick_run xs i k
 rw [List.filterMap_map] at this
 have e2:((fun x=>xs[x]?) ∘ fun x=>i + x)=fun m=>xs[i + m]?:=rfl
 rw [e2] at this
 rw [this]
theorem getItem_tuple_cut {t sl:Addr} {items:Array Value} {vl vu:Value} {lo hi:Option Int} {Q:Value→Shared→Prop} (ht:IsTup s.heap t items) (hs:s.heap.IsSliceOf sl vl vu .none) (pl:IsPart vl lo) (pu:IsPart vu hi)
  (hw:¬ (sIx items.size 0 lo=0∧sIx items.size items.size hi=items.size))
  (h:Q (.ref s.heap.objs.size) { s with heap:=s.heap.push { cls:=.type "tuple",data:=.seq ((items.toList.drop (sIx items.size 0 lo)).take (sIx items.size items.size hi - sIx items.size 0 lo)).toArray } })
  (hsz:items.size≤sizeLine):wpAny (model prog w) A (getItem (.ref t) (.ref sl)) Q E s:=by
 have htake:sizeOk (.seq ((items.toList.drop (sIx items.size 0 lo)).take (sIx items.size items.size hi - sIx items.size 0 lo)).toArray):=by
  show ((items.toList.drop (sIx items.size 0 lo)).take (sIx items.size items.size hi - sIx items.size 0 lo)).toArray.size≤sizeLine
  rw [List.size_toArray,List.length_take,List.length_drop,Array.length_toList]
  omega
 have hj:sIx items.size items.size hi≤items.size:=sIx_le _ _ (Nat.le_refl _) hi
 obtain ⟨os,hos,hcs,hds⟩:=id hs
 have hTs:s.TypeIs (.ref sl) "slice":=⟨os,hos,hcs⟩
 unfold getItem
 try with_reducible refine wpAny_holding ?_
 first | refine wpAny_bind (wpAny_pure ?_) | skip
 refine wpAny_bind (wpAny_sequenceKey ht.typeIs (by decide) ?_)
 refine wpAny_bind (wpAny_callSpecial?_slot (name:=Str.ofString "__getitem__") ht.typeIs PyProof.Rows.slot_tuple_getitem
  (wpAny_call_entry PyProof.Rows.slot_tuple_getitem ht.typeIs entry_tuple_getitem ?_ (args_tuple_getitem _ _)))
 show wpAny _ _ (Builtin.Tuple.tupleItemsOf (.ref t)>>=_) _ _ s
 refine wpAny_bind (tupleItemsOf_ ht ?_)
 refine wpAny_bind (wpAny_typeOf hTs ?_)
 rw [if_pos (by decide)]
 refine wpAny_bind (sliceApplied_gen hs pl pu ?_)
 have hno:¬ ((((sIx items.size 0 lo:Nat):Int)==0&&(1:Int)==1&&(sIx items.size items.size hi - sIx items.size 0 lo)==items.size)=true):=by
  intro q
  rw [Bool.and_eq_true,Bool.and_eq_true] at q
  have q1:((sIx items.size 0 lo:Nat):Int)=0:=eq_of_beq q.1.1
  have q2:sIx items.size items.size hi - sIx items.size 0 lo=items.size:=eq_of_beq q.2
  exact hw ⟨by omega,by omega⟩
 show wpAny _ _ (if (((sIx items.size 0 lo:Nat):Int)==0&&(1:Int)==1&&(sIx items.size items.size hi - sIx items.size 0 lo)==items.size)=true then _ else _) _ _ s
 rw [if_neg hno,pick_gen]
 first
  | exact wpAny_bind (m:=Builtin.Tuple.tupleExact _) (wpAny_newObj_type (wpAny_pure ⟨_,rfl,wpAny_pure h⟩) htake)
  | exact wpAny_bind (m:=Builtin.Tuple.tupleExact _) (wpAny_newObj_type (wpAny_bind (wpAny_pure (wpAny_pure ⟨_,rfl,wpAny_pure h⟩))) htake)
  | exact wpAny_bind (wpAny_bind (m:=Builtin.Tuple.tupleExact _) (wpAny_newObj_type (wpAny_pure (wpAny_pure ⟨_,rfl,wpAny_pure h⟩)) htake))
  | exact wpAny_bind (wpAny_bind (m:=Builtin.Tuple.tupleExact _) (wpAny_newObj_type (wpAny_pure ⟨_,rfl,wpAny_pure h⟩) htake))
end
end HT
namespace L2
open PySem PySem.Spec PyProof.Rows
abbrev TO:=St→Hp→(Option Int→Hp→Prop)→Prop
def PO (X:Cx) (e:Option Expr) (t:TO):Prop:=
 ∀ (pins:List (Addr×Obj)) (s:Shared) (σ:St) (H:Hp) (Q:Option Int→Hp→Prop),Inv X pins σ H s→t σ H Q →
  wpAny (model X.prog X.w) X.A (evalPart e X.env) (fun u s'=>∃ o H',Inv X pins σ H' s'∧IsPart u o∧Q o H') X.xe s
def qdZ:TO:=fun _ H Q=>Q none H
def qfQ (t:TE):TO:=fun σ H Q=>t σ H fun x H1=>∃ i,x=.int i∧Q (some i) H1
section
variable {X:Cx} {e:Expr} {te:TE} {lo hi:Option Expr} {tl th:TO} {pos p2:Pos}
theorem zr:PO X none qdZ:=by
 intro pins s σ H Q I h
 rw [evalPart_none]
 exact wpAny_pure ⟨none,H,I,.none,h⟩
theorem jF (h:PE X e te):PO X (some e) (qfQ te):=by
 intro pins s σ H Q I hw
 rw [evalPart_some]
 refine thn (h pins s σ H _ I hw) fun u s1 ⟨x,H1,I1,r1,q1⟩=>?_
 obtain ⟨i,rfl,q⟩:=q1
 obtain ⟨t,rfl⟩:=r1
 exact ⟨some i,H1,I1,.int i t,q⟩
def SlR (X:Cx) (r:V→Option Int→Option Int→Hp→VK→Prop):Prop:=
 ∀ (pins:List (Addr×Obj)) (s:Shared) (σ:St) (H:Hp) (x:V) (v vl vu:Value) (lo hi:Option Int) (sl:Addr) (Q:VK),Inv X pins σ H s→RelV x v→s.heap.IsSliceOf sl vl vu .none→IsPart vl lo→IsPart vu hi→r x lo hi H Q →
  ∃ T id,typeLookup (.type T) "__getitem__"=pure (some (.builtin id))∧s.TypeIs v T∧wpAny (model X.prog X.w) X.A (getItem v (.ref sl)) (EP X pins σ Q) X.xe s
def tSl (r:V→Option Int→Option Int→Hp→VK→Prop) (te:TE) (tl th:TO):TE:=fun σ H Q=>te σ H fun x H1=>tl σ H1 fun l H2=>th σ H2 fun u H3=>r x l u H3 Q
theorem j2 {r:V→Option Int→Option Int→Hp→VK→Prop} (hr:SlR X r) (he:PE X e te) (hl:PO X lo tl) (hu:PO X hi th):PE X (.Subscript e (.Slice lo hi none p2) pos) (tSl r te tl th):=by
 intro pins s σ H Q I h
 refine Subscript_ (thn (he pins s σ H _ I h) fun v s1 ⟨x,H1,I1,r1,q1⟩=>?_)
 refine wpAny_Slice (thn (hl pins s1 σ H1 _ I1 q1) fun vl s2 ⟨l,H2,I2,pl,q2⟩=>thn (hu pins s2 σ H2 _ I2 q2) fun vu s3 ⟨u,H3,I3,pu,q3⟩=>?_)
 rw [evalPart_none]
 refine wpAny_pure ?_
 have I4:Inv X pins σ H3 { s3 with heap:=s3.heap.push { cls:=.type "slice",data:=.fields #[vl,vu,.none] } }:=I3.kept (t':=s3.toks) fun b ob q=>Heap.get?_push_of_some _ q
 obtain ⟨T,id,hT,ht,hg⟩:=hr pins { s3 with heap:=s3.heap.push { cls:=.type "slice",data:=.fields #[vl,vu,.none] } } σ H3 x v vl vu l u s3.heap.objs.size Q I4 r1 (Heap.IsSliceOf.new ..) pl pu q3
 show wpAny (model X.prog X.w) X.A (subscriptTail e (.Slice lo hi none p2) v (.ref s3.heap.objs.size)) (EP X pins σ Q) X.xe { s3 with heap:=s3.heap.push { cls:=.type "slice",data:=.fields #[vl,vu,.none] } }
 exact tail_any (ops:=[.ref s3.heap.objs.size,v]) ht hT hg (by with_unfolding_all rfl)
def qb3 (xs:List V) (lo hi:Option Int):List V:=(xs.drop (HT.sIx xs.length 0 lo)).take (HT.sIx xs.length xs.length hi - HT.sIx xs.length 0 lo)
theorem qau (xs:List V) (lo hi:Option Int):(qb3 xs lo hi).length≤xs.length:=by
 unfold qb3
 rw [List.length_take,List.length_drop]
 omega
def qgN (K:PySem.W.Frag):V→Option Int→Option Int→Hp→VK→Prop:=fun x lo hi H Q=>∃ a xs,x=.ref a∧SqT K H a xs ∧
 ¬ (HT.sIx xs.length 0 lo=0∧HT.sIx xs.length xs.length hi=xs.length)∧∀ p,H p=none→Q (.ref p) (upd H p (.tup (qb3 xs lo hi)))
theorem sl_tup:SlR X (qgN X.K):=by
 intro pins s σ H x v vl vu lo hi sl Q I rx hs pl pu h
 obtain ⟨a,xs,rfl,hx,hw,q⟩:=h
 cases rx
 obtain ⟨its,r,ht,hz⟩:=I.tuple hx
 have hlen:its.toArray.size=xs.length:=by rw [List.size_toArray];exact r.length.symm
 refine ⟨"tuple",_,PyProof.Rows.slot_tuple_getitem.lookup,ht.typeIs,?_⟩
 refine HT.getItem_tuple_cut ht hs pl pu (by rw [hlen];exact hw) ?_ (by rw [hlen];exact hz)
 rw [hlen]
 refine ⟨.ref s.heap.objs.size,_,I.laid (t':=s.toks) (o:=.tup (qb3 xs lo hi)) (fun b ob q=>Heap.get?_push_of_some _ q) (Nat.le_refl _) ?_,rfl,q _ (I.hok.fresh (Nat.le_refl _))⟩
 exact ⟨Nat.le_trans (qau xs lo hi) hz,_,(r.drop (HT.sIx xs.length 0 lo)).take (HT.sIx xs.length xs.length hi - HT.sIx xs.length 0 lo),IsTup.new _ _⟩
def qfR (K:PySem.W.Frag):R2:=fun x y H Q=>∃ a b xs ys,x=.ref a∧y=.ref b∧SqT K H a xs∧SqT K H b ys∧xs≠[]∧xs.length + ys.length≤sizeLine ∧
 (ys=[]→Q (.ref a) H)∧(ys≠[]→∀ p,H p=none→Q (.ref p) (upd H p (.tup (xs++ys))))
theorem Vals.nil_iff {xs:List V} {us:List Value} (r:Vals xs us):us=[]↔xs=[]:=by
 cases r with
 | nil=>simp
 | cons _ _=>simp
theorem op_catT:OpR X (binaryOp .Add) (qfR X.K):=by
 intro pins s σ H x y v u Q I rx ry h
 obtain ⟨a,b,xs,ys,rfl,rfl,ha,hb,hx,hz,q1,q2⟩:=h
 cases rx
 cases ry
 obtain ⟨its,r1,p1,_⟩:=I.tuple ha
 obtain ⟨its2,r2,p2,_⟩:=I.tuple hb
 refine HT.cat_tup p1 p2 (fun z=>hx (r1.nil_iff.mp z)) (fun z=>⟨.ref a,H,I,rfl,q1 (r2.nil_iff.mp z)⟩) (fun z=>?_) (by rw [← r1.length,← r2.length];exact hz)
 refine ⟨.ref s.heap.objs.size,_,I.laid (t':=s.toks) (o:=.tup (xs++ys)) (fun b ob q=>Heap.get?_push_of_some _ q) (Nat.le_refl _) ?_,rfl,q2 (fun w=>z (r2.nil_iff.mpr w)) _ (I.hok.fresh (Nat.le_refl _))⟩
 exact ⟨by rw [List.length_append];exact hz,_,r1.append r2,IsTup.new _ _⟩
end
end L2
namespace L2
open PySem PySem.Spec PyProof.Rows
def ixN (n:Nat) (i:Int):Option Nat:=if 0≤i then (if i < n then some i.toNat else none) else if -(n:Int)≤i then some (i + n).toNat else none
def atI {α:Type} (xs:List α) (i:Int):Option α:=(ixN xs.length i).bind fun j=>xs[j]?
theorem qcL {n:Nat} {i:Int} {j:Nat} (h:ixN n i=some j):seqIndex? i n=some j∧j < n∧-(n:Int)≤i∧i < n:=by
 unfold ixN at h
 by_cases h0:0≤i
 ·rw [if_pos h0] at h
  by_cases h1:i < n
  ·rw [if_pos h1] at h
   have e:i.toNat=j:=Option.some.inj h
   exact ⟨by rw [seqIndex_of h0 h1,e],by omega,by omega,h1⟩
  ·rw [if_neg h1] at h;cases h
 ·rw [if_neg h0] at h
  by_cases h1:-(n:Int)≤i
  ·rw [if_pos h1] at h
   have e:(i + n).toNat=j:=Option.some.inj h
   exact ⟨by rw [seqIndex_neg (by omega) h1,e],by omega,h1,by omega⟩
  ·rw [if_neg h1] at h;cases h
theorem qcM {α:Type} {xs:List α} {i:Int} {v:α} (h:atI xs i=some v):∃ j,seqIndex? i xs.length=some j∧xs[j]?=some v∧j < xs.length∧-(xs.length:Int)≤i∧i < xs.length:=by
 unfold atI at h
 cases e:ixN xs.length i with
 | none=>rw [e] at h;cases h
 | some j =>
  rw [e] at h
  obtain ⟨h1,h2,h3,h4⟩:=qcL e
  exact ⟨j,h1,h,h2,h3,h4⟩
theorem jQ {α:Type} {xs:List α} {j:Nat} {v:α} (h:xs[j]?=some v):atI xs (j:Int)=some v:=by
 have hj:j < xs.length:=(List.getElem?_eq_some_iff.mp h).1
 have e:ixN xs.length (j:Int)=some j:=by
  unfold ixN
  rw [if_pos (by omega),if_pos (by omega)];simp
 unfold atI;rw [e];exact h
def PlainIx (b:Expr):Prop:=∀ o i,subscripted b false o i=operate [o,i] (getItem o i)
def IxR (X:Cx) (r:R2):Prop:=
 ∀ (value slice:Expr) (pins:List (Addr×Obj)) (s:Shared) (σ:St) (H:Hp) (x y:V) (v u:Value) (Q:VK),Inv X pins σ H s→RelV x v→RelV y u→r x y H Q →
  subscripted slice false v u=operate [v,u] (getItem v u)→wpAny (model X.prog X.w) X.A (subscriptTail value slice v u) (EP X pins σ Q) X.xe s
def MtR (X:Cx) (id:String) (r:V→List V→Hp→VK→Prop):Prop:=
 ∀ (pins:List (Addr×Obj)) (s:Shared) (σ:St) (H:Hp) (x:V) (xs:List V) (v:Value) (us:List Value) (Q:VK),Inv X pins σ H s→RelV x v→Vals xs us→r x xs H Q →
  wpAny (model X.prog X.w) X.A (call (.builtin id) (v::us)) (EP X pins σ Q) X.xe s
section
variable {X:Cx} {a b:Expr} {ta tb:TE} {pos:Pos}
theorem IxR.or {r r':R2} (h:IxR X r) (h':IxR X r'):IxR X (fun x y H Q=>r x y H Q∨r' x y H Q):=by
 intro value slice pins s σ H x y v u Q I rx ry q hs
 rcases q with q | q
 ·exact h value slice pins s σ H x y v u Q I rx ry q hs
 ·exact h' value slice pins s σ H x y v u Q I rx ry q hs
theorem qA {r:R2} (hr:IxR X r) (ha:PE X a ta) (hb:PE X b tb) (hs:PlainIx b):PE X (.Subscript a b pos) (tOp r ta tb):=by
 intro pins s σ H Q I h
 exact Subscript_ (qgs ha hb I h fun v u s2 x y H2 I2 rx ry q=>hr a b pins s2 σ H2 x y v u Q I2 rx ry q (hs _ _))
def qgO (K:PySem.W.Frag):R2:=fun x y H Q=>∃ p xs i v,x=.ref p∧y=.int i∧SqL K H p xs∧atI xs i=some v∧Q v H
def qgP (K:PySem.W.Frag):R2:=fun x y H Q=>∃ p xs i v,x=.ref p∧y=.int i∧SqT K H p xs∧atI xs i=some v∧Q v H
def qgQ:R2:=fun x y H Q=>∃ z i c,x=.str z∧y=.int i∧z.length≤sizeLine∧atI z.cps.toList i=some c∧Q (.str ⟨#[c]⟩) H
theorem ix_list:IxR X (qgO X.K):=by
 intro value slice pins s σ H x y v u Q I rx ry h hs
 obtain ⟨p,xs,i,z,rfl,rfl,hq,he,q⟩:=h
 cases rx
 obtain ⟨t,rfl⟩:=ry
 obtain ⟨its,r,pl,hz⟩:=I.list hq
 obtain ⟨j,h1,h2,h3,h4,h5⟩:=qcM he
 obtain ⟨w,ew,rw'⟩:=r.get h2
 have hl:=r.length
 have hn:=qbB
 have fin:EP X pins σ Q w s:=⟨z,H,I,rw',q⟩
 by_cases h0:0≤i
 ·have hj:i.toNat=j:=by
   rw [seqIndex_of h0 h5] at h1
   exact Option.some.inj h1
  exact item_listR pl.isList h0 (by omega) (by rw [hj];simpa using ew) fin hs
 ·have hj:(i + (its.toArray.size:Int)).toNat=j:=by
   rw [seqIndex_neg (by omega) h4] at h1
   rw [List.size_toArray,← hl]
   exact Option.some.inj h1
  exact subscriptTail_builtinR (x:=w) pl.isList.typeIs slot_list_getitem.lookup
   (wpAny_getItem_list_neg (Q:=fun r s'=>r=w∧EP X pins σ Q r s') pl.isList (by omega) (by rw [List.size_toArray]<;>omega) (by omega) (by rw [hj];simpa using ew) ⟨rfl,fin⟩) hs
theorem ix_tup:IxR X (qgP X.K):=by
 intro value slice pins s σ H x y v u Q I rx ry h hs
 obtain ⟨p,xs,i,z,rfl,rfl,hq,he,q⟩:=h
 cases rx
 obtain ⟨t,rfl⟩:=ry
 obtain ⟨its,r,pl,hz⟩:=I.tuple hq
 obtain ⟨j,h1,h2,h3,h4,h5⟩:=qcM he
 obtain ⟨w,ew,rw'⟩:=r.get h2
 have hl:=r.length
 have hn:=qbB
 have fin:EP X pins σ Q w s:=⟨z,H,I,rw',q⟩
 exact subscriptTail_builtinR (x:=w) pl.typeIs slot_tuple_getitem.lookup
  (getItem_tuple (j:=j) (Q:=fun r s'=>r=w∧EP X pins σ Q r s') pl (by omega) (by omega) (by rw [List.size_toArray,← hl];exact h1) (by simpa using ew) ⟨rfl,fin⟩) hs
theorem ix_str:IxR X qgQ:=by
 intro value slice pins s σ H x y v u Q I rx ry h hs
 obtain ⟨z,i,c,rfl,rfl,hz,he,q⟩:=h
 obtain ⟨t,rfl⟩:=rx
 obtain ⟨t',rfl⟩:=ry
 obtain ⟨j,h1,h2,h3,h4,h5⟩:=qcM he
 have hl:z.cps.toList.length=z.length:=by simp [Str.length]
 rw [hl] at h1 h4 h5
 have hn:=qbB
 exact tail_any (typeIs_str s z t) slot_str_getitem.lookup (getItem_str (c:=c) (by
  have e1:decide (i < -(2 ^ 63:Int))=false:=decide_eq_false (by omega)
  have e2:decide (i ≥ 2 ^ 63)=false:=decide_eq_false (by omega)
  rw [e1,e2,Bool.or_false]) (by rw [h1];simpa using h2) ⟨.str ⟨#[c]⟩,H,I.tok _,⟨_,rfl⟩,q⟩) hs
def rIx (K:PySem.W.Frag):R2:=fun x y H Q=>qgO K x y H Q∨qgP K x y H Q∨qgQ x y H Q
theorem ix_seq:IxR X (rIx X.K):=ix_list.or (ix_tup.or ix_str)
theorem mapSeq_set (its:List Value) (n j:Nat) (u:Value):Obj.mapSeq (·.setIfInBounds j u) { cls:=.type "list",data:=.seq its.toArray n }={ cls:=.type "list",data:=.seq (its.set j u).toArray n }:=by
 simp [Obj.mapSeq]
theorem Inv.lst {pins:List (Addr×Obj)} {σ:St} {H:Hp} {s:Shared} {p:Addr} {xs:List V} (I:Inv X pins σ H s) (h:H p=some (.lst xs)) :
  ∃ (its:List Value) (n:Nat),Vals xs its∧s.heap.get? p=some { cls:=.type "list",data:=.seq its.toArray n }∧xs.length≤sizeLine:=by
 obtain ⟨z,its,n,r,e⟩:=I.hok p _ h
 exact ⟨its,n,r,e,z⟩
theorem Inv.lstUpd {pins:List (Addr×Obj)} {σ:St} {H:Hp} {s:Shared} {p:Addr} {xs ys:List V} {its its':List Value} {n n':Nat} {f:Obj→Obj} (I:Inv X pins σ H s) (h:H p=some (.lst xs))
  (ho:s.heap.get? p=some { cls:=.type "list",data:=.seq its.toArray n }) (hf:f { cls:=.type "list",data:=.seq its.toArray n }={ cls:=.type "list",data:=.seq its'.toArray n' }) (r:Vals ys its') (hz:ys.length≤sizeLine) (t:Nat) :
  Inv X pins σ (upd H p (.lst ys)) { s with heap:=s.heap.update p f,toks:=t }:=by
 have e:(s.heap.update p f).get? p=some { cls:=.type "list",data:=.seq its'.toArray n' }:=by
  rw [Heap.get?_update_self f ho (by rw [hf]<;>rfl),hf]
 refine I.write (x:=p) (e:=p) (by rw [h];trivial) (.inl rfl) (fun b u hb q=>(Heap.get?_update_other _ _ (Ne.symm hb)).trans q) ⟨_,e⟩ ?_
 exact ⟨hz,its',n',r,e⟩
def qfw:V→V→V→Hp→(Hp→Prop)→Prop:=fun o i v H Q=>∃ p xs k j,o=.ref p∧i=.int k∧H p=some (.lst xs)∧ixN xs.length k=some j∧Q (upd H p (.lst (xs.set j v)))
theorem set_list:qgq X qfw:=by
 intro pins s σ H o i v ov iv u Q I ro ri rv h
 obtain ⟨p,xs,k,j,rfl,rfl,hp,hj,q⟩:=h
 cases ro
 obtain ⟨t,rfl⟩:=ri
 obtain ⟨its,n,r,ho,hz⟩:=I.lst hp
 obtain ⟨h1,h2,h3,h4⟩:=qcL hj
 have hl:=r.length
 have hn:=qbB
 have I':Inv X pins σ (upd H p (.lst (xs.set j v))) { s with heap:=s.heap.update p (Obj.mapSeq (·.setIfInBounds j u)) }:=
  I.lstUpd hp ho (mapSeq_set its n j u) (r.set rv j) (by rw [List.length_set];exact hz) s.toks
 by_cases h0:0≤k
 ·have hk:k.toNat=j:=by
   rw [seqIndex_of h0 h4] at h1
   exact Option.some.inj h1
  exact PySem.W.ki_setAt ho h0 (by omega) (by rw [List.size_toArray,← hl];exact h4) (by rw [hk];exact ⟨_,I',q⟩)
 ·have hk:(k + (its.toArray.size:Int)).toNat=j:=by
   rw [seqIndex_neg (by omega) h3] at h1
   rw [List.size_toArray,← hl]
   exact Option.some.inj h1
  exact PySem.W.ki_setBack ho (by omega) (by rw [List.size_toArray,← hl];exact h3) (by omega) (by rw [hk];exact ⟨_,I',q⟩)
theorem slice_bounds (lo hi:Option Int) (n:Nat):(sliceBounds lo hi none n).1=((HT.sIx n 0 lo:Nat):Int)∧(sliceBounds lo hi none n).2.1=((HT.sIx n n hi:Nat):Int)∧(sliceBounds lo hi none n).2.2=1:=by
 refine ⟨?_,?_,rfl⟩
 ·cases lo with
  | none=>simp [sliceBounds,HT.sIx]
  | some i =>
   simp only [sliceBounds,HT.sIx,Option.getD_none,show (1:Int) > 0 by decide,if_true]
   by_cases h:i < 0
   ·simp only [h,if_true]<;>omega
   ·simp only [h,if_false]<;>omega
 ·cases hi with
  | none=>simp [sliceBounds,HT.sIx]
  | some i =>
   simp only [sliceBounds,HT.sIx,Option.getD_none,show (1:Int) > 0 by decide,if_true]
   by_cases h:i < 0
   ·simp only [h,if_true]<;>omega
   ·simp only [h,if_false]<;>omega
theorem slicePick_cut (its:List Value) (lo hi:Option Int):slicePick its.toArray lo hi none=((its.drop (HT.sIx its.length 0 lo)).take (HT.sIx its.length its.length hi - HT.sIx its.length 0 lo)).toArray:=by
 obtain ⟨h1,h2,h3⟩:=slice_bounds lo hi its.toArray.size
 unfold slicePick
 rw [h1,h2,h3]
 simp only [sliceRange_one,pick_run,List.size_toArray]<;>rfl
def qgR (K:PySem.W.Frag):V→Option Int→Option Int→Hp→VK→Prop:=fun x lo hi H Q=>∃ a xs,x=.ref a∧SqL K H a xs∧∀ p,H p=none→Q (.ref p) (upd H p (.lst (qb3 xs lo hi)))
theorem sl_list:SlR X (qgR X.K):=by
 intro pins s σ H x v vl vu lo hi sl Q I rx hs pl pu h
 obtain ⟨a,xs,rfl,hx,q⟩:=h
 cases rx
 obtain ⟨its,r,ht,hz⟩:=I.list hx
 have hlen:=r.length
 refine ⟨"list",_,slot_list_getitem.lookup,ht.isList.typeIs,?_⟩
 refine wpAny_getItem_list_slice ht.isList hs pl pu .none (by simp) ?_ (by rw [List.size_toArray]<;>omega)
 rw [slicePick_cut,← hlen]
 refine ⟨.ref s.heap.objs.size,_,I.laid (t':=s.toks) (o:=.lst (qb3 xs lo hi)) (fun b ob q=>Heap.get?_push_of_some _ q) (Nat.le_refl _) ?_,rfl,q _ (I.hok.fresh (Nat.le_refl _))⟩
 exact ⟨Nat.le_trans (qau xs lo hi) hz,_,0,(r.drop (HT.sIx xs.length 0 lo)).take (HT.sIx xs.length xs.length hi - HT.sIx xs.length 0 lo),Heap.get?_push_size _ rfl⟩
def zt:V→Bool
 | .non=>true
 | .bl _=>true
 | .int _=>true
 | .str _=>true
 | _=>false
def eqV:V→V→Bool
 | .non,.non=>true
 | .bl a,.bl b=>a==b
 | .bl a,.int b=>(if a then 1 else 0)==b
 | .int a,.bl b=>a==(if b then 1 else 0)
 | .int a,.int b=>a==b
 | .str a,.str b=>a==b
 | _,_=>false
theorem qd0 {A:Around} {s:Shared} {y x:V} {u v:Value} (ry:RelV y u) (rx:RelV x v) (fy:zt y=true) (fx:zt x=true):SeqAt.EqAt A s u v (eqV y x):=by
 cases y with
 | non =>
  cases ry
  cases x with
  | non=>cases rx;exact SeqAt.EqAt.same _
  | bl b=>cases rx;exact SeqAt.EqAt.none_bool b
  | int b=>obtain ⟨t,rfl⟩:=rx;exact SeqAt.EqAt.none_int b t
  | str b=>obtain ⟨t,rfl⟩:=rx;exact SeqAt.EqAt.none_str b t
  | _=>exact absurd (show false=true from fx) Bool.false_ne_true
 | bl a =>
  cases ry
  cases x with
  | non=>cases rx;exact SeqAt.EqAt.bool_none a
  | bl b=>cases rx;exact SeqAt.EqAt.bool_bool a b
  | int b=>obtain ⟨t,rfl⟩:=rx;exact SeqAt.EqAt.bool_int a b t
  | str b=>obtain ⟨t,rfl⟩:=rx;exact SeqAt.EqAt.bool_str a b t
  | _=>exact absurd (show false=true from fx) Bool.false_ne_true
 | int a =>
  obtain ⟨t',rfl⟩:=ry
  cases x with
  | non=>cases rx;exact SeqAt.EqAt.int_none a t'
  | bl b=>cases rx;exact SeqAt.EqAt.int_bool a t' b
  | int b=>obtain ⟨t,rfl⟩:=rx;exact SeqAt.EqAt.int_int a t' b t
  | str b=>obtain ⟨t,rfl⟩:=rx;exact SeqAt.EqAt.int_str a t' b t
  | _=>exact absurd (show false=true from fx) Bool.false_ne_true
 | str a =>
  obtain ⟨t',rfl⟩:=ry
  cases x with
  | non=>cases rx;exact SeqAt.EqAt.str_none a t'
  | bl b=>cases rx;exact SeqAt.EqAt.str_bool a t' b
  | int b=>obtain ⟨t,rfl⟩:=rx;exact SeqAt.EqAt.str_int a t' b t
  | str b=>obtain ⟨t,rfl⟩:=rx;exact SeqAt.EqAt.str_str a t' b t
  | _=>exact absurd (show false=true from fx) Bool.false_ne_true
 | _=>exact absurd (show false=true from fy) Bool.false_ne_true
def eqU (x:V) (u:Value):Bool:=match u with
 | .none=>eqV .non x
 | .bool b=>eqV (.bl b) x
 | .int i _=>eqV (.int i) x
 | .str z _=>eqV (.str z) x
 | _=>false
theorem qd1 {x y:V} {u:Value} (r:RelV y u) (f:zt y=true):eqU x u=eqV y x:=by
 cases y with
 | non=>cases r;rfl
 | bl b=>cases r;rfl
 | int i=>obtain ⟨t,rfl⟩:=r;rfl
 | str z=>obtain ⟨t,rfl⟩:=r;rfl
 | _=>exact absurd (show false=true from f) Bool.false_ne_true
theorem qbe {x:V}:∀ {xs:List V} {us:List Value},Vals xs us→xs.all zt=true→us.any (eqU x)=xs.any fun y=>eqV y x
 | _,_,.nil,_=>rfl
 | y::xs,u::us,.cons r t,f=>by
  rw [List.all_cons,Bool.and_eq_true] at f
  rw [List.any_cons,List.any_cons,qd1 r f.1,qbe t f.2]
theorem qad {A:Around} {s:Shared} {x:V} {v:Value} (rx:RelV x v) (fx:zt x=true):∀ {xs:List V} {us:List Value},Vals xs us→xs.all zt=true→∀ u∈us,SeqAt.EqAt A s u v (eqU x u)
 | _,_,.nil,_=>fun u hu=>by cases hu
 | y::xs,u::us,.cons r t,f=>fun u' hu=>by
  rw [List.all_cons,Bool.and_eq_true] at f
  rcases List.mem_cons.mp hu with rfl | hu
  ·rw [qd1 r f.1];exact qd0 r rx f.1 fx
  ·exact qad rx fx t f.2 u' hu
def inV (x:V) (xs:List V):Bool:=xs.any fun y=>eqV y x
def rIn (K:PySem.W.Frag) (neg:Bool):R2:=fun x y H Q=>∃ p xs,y=.ref p∧(SqL K H p xs∨SqT K H p xs)∧zt x=true∧xs.all zt=true∧Q (.bl (if neg then !inV x xs else inV x xs)) H
theorem op_in_seq:OpR X (compareOp .In) (rIn X.K false):=by
 intro pins s σ H x y v u Q I rx ry h
 obtain ⟨p,xs,rfl,hq,fx,fs,q⟩:=h
 cases ry
 rcases hq with hq | hq
 ·obtain ⟨its,r,pl,hz⟩:=I.list hq
  refine SeqAt.in_listAt (eqU x) pl.isList (fun w hw=>qad rx fx r fs w (by simpa using hw)) ⟨.bl _,H,I,rfl,?_⟩
  rw [show its.toArray.any (eqU x)=its.any (eqU x) by simp,qbe r fs]
  exact q
 ·obtain ⟨its,r,pl,hz⟩:=I.tuple hq
  refine SeqAt.in_tupleAt (eqU x) pl (fun w hw=>qad rx fx r fs w (by simpa using hw)) ⟨.bl _,H,I,rfl,?_⟩
  rw [show its.toArray.any (eqU x)=its.any (eqU x) by simp,qbe r fs]
  exact q
theorem op_notIn_seq:OpR X (compareOp .NotIn) (rIn X.K true):=by
 intro pins s σ H x y v u Q I rx ry h
 obtain ⟨p,xs,rfl,hq,fx,fs,q⟩:=h
 cases ry
 rcases hq with hq | hq
 ·obtain ⟨its,r,pl,hz⟩:=I.list hq
  refine SeqAt.notIn_listAt (eqU x) pl.isList (fun w hw=>qad rx fx r fs w (by simpa using hw)) ⟨.bl _,H,I,rfl,?_⟩
  rw [show its.toArray.any (eqU x)=its.any (eqU x) by simp,qbe r fs]
  exact q
 ·obtain ⟨its,r,pl,hz⟩:=I.tuple hq
  refine SeqAt.notIn_tupleAt (eqU x) pl (fun w hw=>qad rx fx r fs w (by simpa using hw)) ⟨.bl _,H,I,rfl,?_⟩
  rw [show its.toArray.any (eqU x)=its.any (eqU x) by simp,qbe r fs]
  exact q
theorem call_len_seq:zH X (.builtin "len") (fun xs H Q=>∃ p ys,xs=[.ref p]∧(SqL X.K H p ys∨SqT X.K H p ys)∧Q (.int ys.length) H):=by
 intro pins s σ H xs us Q I r h
 obtain ⟨p,ys,rfl,hq,q⟩:=h
 obtain ⟨u,rfl,rx⟩:=qbc r
 cases rx
 have hn:=qbB
 rcases hq with hq | hq
 ·obtain ⟨its,r',pl,hz⟩:=I.list hq
  have hlen:=r'.length
  exact Calls.call_len_list pl.isList (by simp only [List.size_toArray]<;>omega) ⟨.int ys.length,H,I.tok _,⟨s.toks + 1,by rw [List.size_toArray,hlen]⟩,q⟩
 ·obtain ⟨its,r',pl,hz⟩:=I.tuple hq
  have hlen:=r'.length
  exact len_tuple pl (by simp only [List.size_toArray]<;>omega) ⟨.int ys.length,H,I.tok _,⟨s.toks + 1,by rw [List.size_toArray,hlen]⟩,q⟩
theorem call_len_str:zH X (.builtin "len") (fun xs H Q=>∃ z,xs=[.str z]∧z.length≤sizeLine∧Q (.int z.length) H):=by
 intro pins s σ H xs us Q I r h
 obtain ⟨z,rfl,hz,q⟩:=h
 obtain ⟨u,rfl,t,rfl⟩:=qbc r
 have hn:=qbB
 exact len_str (by omega) ⟨.int z.length,H,I.tok _,⟨_,rfl⟩,q⟩
theorem call_list_of:zH X (.type "list") (fun xs H Q=>∃ p ys,xs=[.ref p]∧(SqL X.K H p ys∨SqT X.K H p ys)∧∀ l,H l=none→Q (.ref l) (upd H l (.lst ys))):=by
 intro pins s σ H xs us Q I r h
 obtain ⟨p,ys,rfl,hq,q⟩:=h
 obtain ⟨u,rfl,rx⟩:=qbc r
 cases rx
 have fin:∀ (its:List Value),Vals ys its→ys.length≤sizeLine→∀ (h':Heap) (c':Nat),(∀ b o',s.heap.get? b=some o'→h'.get? b=some o') →
   h'.get? s.heap.objs.size=some { cls:=.type "list",dict:=none,data:=.seq its.toArray c',slots:=#[] }→EP X pins σ Q (.ref s.heap.objs.size) { s with heap:=h' }:=fun its r' hz h' c' kp e =>
  ⟨.ref s.heap.objs.size,_,I.laid (t':=s.toks) kp (Nat.le_refl _) (show ObjOk X.prog X.w _ h' _ (.lst ys) from ⟨hz,its,c',r',e⟩),rfl,q _ (I.hok.fresh (Nat.le_refl _))⟩
 rcases hq with hq | hq
 ·obtain ⟨its,r',pl,hz⟩:=I.list hq
  have hlen:=r'.length
  obtain ⟨o,ho,hc,n,hd⟩:=pl.isList
  exact call_list_seq p (.inl rfl) ho hc hd (fun h' c' kp e=>fin its r' hz h' c' kp e) (by simp only [List.size_toArray]<;>omega)
 ·obtain ⟨its,r',pl,hz⟩:=I.tuple hq
  have hlen:=r'.length
  obtain ⟨o,ho,hc,n,hd⟩:=pl
  exact call_list_seq p (.inr rfl) ho hc hd (fun h' c' kp e=>fin its r' hz h' c' kp e) (by simp only [List.size_toArray]<;>omega)
theorem call_tuple_of:zH X (.type "tuple") (fun xs H Q=>∃ p ys,xs=[.ref p]∧((SqL X.K H p ys∧∀ l,H l=none→Q (.ref l) (upd H l (.tup ys)))∨(SqT X.K H p ys∧Q (.ref p) H))):=by
 intro pins s σ H xs us Q I r h
 obtain ⟨p,ys,rfl,h⟩:=h
 obtain ⟨u,rfl,rx⟩:=qbc r
 cases rx
 rcases h with ⟨hq,q⟩ | ⟨hq,q⟩
 ·obtain ⟨its,r',pl,hz⟩:=I.list hq
  have hlen:=r'.length
  refine call_tuple_list pl.isList (fun h' kp=>?_) (by simp only [List.size_toArray]<;>omega)
  have I1:Inv X pins σ H { s with heap:=h' }:=I.kept (t':=s.toks) kp
  have I2:Inv X pins σ (upd H h'.objs.size (.tup ys)) { s with heap:=h'.push { cls:=.type "tuple",data:=.seq its.toArray } }:=
   I1.laid (t':=s.toks) (fun b o e=>Heap.get?_push_of_some _ e) (Nat.le_refl _) (show ObjOk X.prog X.w _ _ _ (.tup ys) from ⟨hz,its,r',IsTup.new _ _⟩)
  exact ⟨.ref h'.objs.size,_,I2,rfl,q _ (I1.hok.fresh (Nat.le_refl _))⟩
 ·obtain ⟨its,r',pl,hz⟩:=I.tuple hq
  exact call_tuple_same pl ⟨.ref p,H,I,rfl,q⟩
def tyV (K:PySem.W.Frag) (T:String) (x:V) (H:Hp):Prop:=match x with
 | .str _=>T="str"
 | .int _=>T="int"
 | .ref p=>(T="list"∧∃ xs,SqL K H p xs)∨(T="tuple"∧∃ o,K.lookup p=some o∧o.cls=.type "tuple"∧o.dict=none) ∨
   (T="dict"∧((∃ kvs,H p=some (.dK kvs))∨∃ kvs,H p=some (.dT kvs)))∨(T="set"∧∃ S n,H p=some (.set S n))
 | _=>False
theorem qe1 {pins:List (Addr×Obj)} {σ:St} {H:Hp} {s:Shared} {T:String} {x:V} {v:Value} (I:Inv X pins σ H s) (r:RelV x v) (ty:tyV X.K T x H) :
  s.TypeIs v T∧∀ a,v=.ref a→∃ ob,s.heap.get? a=some ob∧ob.dict=none:=by
 cases x with
 | str z =>
  obtain ⟨t,rfl⟩:=r
  cases (show T="str" from ty)
  exact ⟨typeIs_str s z t,fun _ e=>nomatch e⟩
 | int i =>
  obtain ⟨t,rfl⟩:=r
  cases (show T="int" from ty)
  exact ⟨typeIs_int s i t,fun _ e=>nomatch e⟩
 | ref p =>
  cases r
  rcases ty with ⟨rfl,xs,hq⟩ | ⟨rfl,o,hk,hc,hd⟩ | ⟨rfl,hk⟩ | ⟨rfl,S,n,hk⟩
  ·obtain ⟨its,_,pl,_⟩:=I.list hq
   refine ⟨pl.isList.typeIs,fun a e=>?_⟩
   cases e
   obtain ⟨o,n,e,c,hd,_⟩:=pl
   exact ⟨o,e,hd⟩
  ·refine ⟨⟨o,I.kIn p o hk,hc⟩,fun a e=>?_⟩
   cases e
   exact ⟨o,I.kIn _ o hk,hd⟩
  ·have z:∃ o,s.heap.get? p=some o∧o.ExactDict:=by
    rcases hk with ⟨kvs,hk⟩ | ⟨kvs,hk⟩
    ·obtain ⟨_,_,_,_,o,_,_,e,ex,_⟩:=I.hok p _ hk
     exact ⟨o,e,ex⟩
    ·obtain ⟨_,_,_,_,o,_,_,e,ex,_⟩:=I.hok p _ hk
     exact ⟨o,e,ex⟩
   obtain ⟨o,e,ex⟩:=z
   refine ⟨⟨o,e,ex.1⟩,fun a e2=>?_⟩
   cases e2
   exact ⟨o,e,ex.2.1⟩
  ·obtain ⟨o,_,_,_,e,ex,_⟩:=I.hok p _ hk
   refine ⟨⟨o,e,ex.1⟩,fun a e2=>?_⟩
   cases e2
   exact ⟨o,e,ex.2.1⟩
 | _=>exact False.elim ty
def qgt (K:PySem.W.Frag) (T:String) (r:V→List V→Hp→VK→Prop) (to:TE):TE:=fun σ H Q=>to σ H fun x H1=>tyV K T x H1∧r x [] H1 Q
def tBM (K:PySem.W.Frag) (T:String) (r:V→List V→Hp→VK→Prop) (to:TE) (t:TA):TE:=fun σ H Q=>to σ H fun x H1=>tyV K T x H1∧t σ H1 fun xs H2=>r x xs H2 Q
variable {o e:Expr} {es:List Expr} {to:TE} {t:TA} {name:Str} {apos cpos:Pos} {T id:String} {r:V→List V→Hp→VK→Prop}
theorem pe_bm0 (pa:PlainAttrs T) (slot:Slot T name id) (hty:typeOf (.builtin id)=pure (.type "method_descriptor")) (hm:MtR X id r) (ho:PE X o to)
  (hbase:attributeBase o name X.env (eval o X.env)=eval o X.env:=by rfl) (hline:(apos.endLine==cpos.line)=true:=by rfl):PE X (.Call (.Attribute o name apos) [] [] cpos) (qgt X.K T r to):=by
 intro pins s σ H Q I h
 refine wpAny_Call_method0_late hbase hline (thn (ho pins s σ H _ I h) fun v s1 ⟨x,H1,I1,r1,ty,q1⟩=>?_)
 obtain ⟨h1,h2⟩:=qe1 I1 r1 ty
 exact ⟨T,id,pa,slot,hty,h1,h2,Calls.callWith_builtin rfl (PySem.evalArgs_none (hm pins s1 σ H1 x [] v [] Q I1 r1 .nil q1))⟩
theorem pe_bm (pa:PlainAttrs T) (slot:Slot T name id) (hty:typeOf (.builtin id)=pure (.type "method_descriptor")) (hm:MtR X id r) (ho:PE X o to) (ha:PA X (e::es) t)
  (hbase:attributeBase o name X.env (eval o X.env)=eval o X.env:=by rfl)
  (hfew:((backTo cpos (starEach (e::es) X.env)).all (fun x=>!x.1)&&(backToKw cpos (keywordEach [] X.env)).all (fun x=>x.1.isSome)
   && decide ((e::es).length + ([]:List Keyword).length + (if ([]:List Keyword).isEmpty then 0 else 1) < 30))=true:=by rfl)
  (hline:(apos.endLine==cpos.line)=true:=by rfl) (hs:starEach (e::es) X.env=(false,eval e X.env)::starEach es X.env:=by rfl) (hplain:(backTo cpos (starEach es X.env)).any (·.1)=false:=by rfl) :
  PE X (.Call (.Attribute o name apos) (e::es) [] cpos) (tBM X.K T r to t):=by
 intro pins s σ H Q I h
 refine wpAny_Call_method_late hbase hfew hline rfl (thn (ho pins s σ H _ I h) fun v s1 ⟨x,H1,I1,r1,ty,q1⟩=>?_)
 obtain ⟨h1,h2⟩:=qe1 I1 r1 ty
 refine ⟨T,id,pa,slot,hty,h1,h2,?_⟩
 have hA:=ha cpos pins s1 σ H1 _ I1 q1
 rw [hs] at hA ⊢
 refine Calls.callWith_builtin (by show (false||(backTo cpos (starEach es X.env)).any (·.1))=false;rw [hplain]<;>rfl) (Calls.evalArgs_plain ?_)
 exact thn hA fun us s2 ⟨vs,H2,I2,r2,q2⟩=>hm pins s2 σ H2 x vs v us Q I2 r1 r2 q2
end
end L2
namespace L2
open PySem PySem.Spec PyProof.Rows
def MtM (X:Cx) (id:String) (r:V→List V→Hp→VK→Prop):Prop:=
 ∀ (pins:List (Addr×Obj)) (s:Shared) (σ:St) (H:Hp) (x:V) (xs:List V) (v:Value) (us:List Value) (Q:VK),Inv X pins σ H s→RelV x v→Vals xs us→r x xs H Q →
  wpAny (model X.prog X.w) X.A (call (.builtin id) (v::us)) (EP X pins σ Q) X.xe s
theorem Vals.one:∀ {x:V} {us:List Value},Vals [x] us→∃ u,us=[u]∧RelV x u
 | _,_,.cons r .nil=>⟨_,rfl,r⟩
theorem Vals.eraseIdx:∀ {xs:List V} {us:List Value} (i:Nat),Vals xs us→Vals (xs.eraseIdx i) (us.eraseIdx i)
 | _,_,_,.nil=>.nil
 | _,_,0,.cons _ t=>t
 | _,_,i + 1,.cons r t=>.cons r (Vals.eraseIdx i t)
theorem Vals.rep {xs:List V} {us:List Value} (h:Vals xs us):∀ k:Nat,Vals (List.replicate k xs).flatten (List.replicate k us).flatten
 | 0=>.nil
 | k + 1=>by
  rw [List.replicate_succ,List.replicate_succ,List.flatten_cons,List.flatten_cons]
  exact Vals.append h (Vals.rep h k)
theorem qce {α:Type}:∀ (l:List α) (i:Nat),(l.eraseIdx i).length≤l.length
 | [],_=>Nat.le_refl _
 | _::_,0=>Nat.le_succ _
 | _::r,i + 1=>Nat.succ_le_succ (qce r i)
theorem qcf (its:List Value):∀ (k:Nat) (acc:List Value),
  List.foldl (fun x1 x2=>x1++x2) acc.toArray (List.replicate k its.toArray)=(acc++(List.replicate k its).flatten).toArray
 | 0,acc=>by simp
 | k + 1,acc=>by
  have e:acc.toArray++its.toArray=(acc++its).toArray:=by simp
  have e2:(acc++its)++(List.replicate k its).flatten=acc++(List.replicate (k + 1) its).flatten:=by
   rw [List.replicate_succ,List.flatten_cons,List.append_assoc]
  rw [← e2,← qcf its k (acc++its),← e,List.replicate_succ,List.foldl_cons]
section
variable {X:Cx} {pins:List (Addr×Obj)} {σ:St} {H:Hp} {s:Shared} {l b:Addr} {xs ys zs:List V}
theorem Inv.lset {its its':List Value} {n:Nat} {f:Array Value→Array Value} {t':Nat} (I:Inv X pins σ H s) (hH:H l=some (.lst xs))
  (e:s.heap.get? l=some { cls:=.type "list",data:=.seq its.toArray n }) (hf:f its.toArray=its'.toArray) (hv:Vals ys its') (hz:ys.length≤sizeLine) :
  Inv X pins σ (upd H l (.lst ys)) { s with heap:=s.heap.update l (Obj.mapSeq f),toks:=t' }:=by
 have q:=PySem.IsL.update e f
 rw [hf] at q
 refine I.write (x:=l) (e:=l) (by rw [hH];exact trivial) (.inl rfl) (fun b' u hb hu=>(Heap.get?_update_other s.heap (Obj.mapSeq f) (Ne.symm hb)).trans hu) ⟨_,q⟩ ?_
 exact ⟨hz,its',_,hv,q⟩
theorem Inv.lnew {its:List Value} {t':Nat} (I:Inv X pins σ H s) (hv:Vals ys its) (hz:ys.length≤sizeLine) :
  Inv X pins σ (upd H s.heap.objs.size (.lst ys)) { s with heap:=s.heap.push { cls:=.type "list",data:=.seq its.toArray },toks:=t' }:=
 I.laid (fun _ _ q=>Heap.get?_push_of_some _ q) (Nat.le_refl _) ⟨hz,its,0,hv,Heap.get?_push_size _ rfl⟩
theorem Inv.fresh (I:Inv X pins σ H s):H s.heap.objs.size=none:=I.hok.fresh (Nat.le_refl _)
theorem Inv.lstM (I:Inv X pins σ H s) (hH:H l=some (.lst xs)):xs.length≤sizeLine∧∃ (its:List Value) (n:Nat),Vals xs its∧xs.length=its.length∧s.heap.get? l=some { cls:=.type "list",data:=.seq its.toArray n }:=by
 obtain ⟨z,its,n,r,e⟩:=I.hok l _ hH
 exact ⟨z,its,n,r,r.length,e⟩
theorem qc6 {n:Nat} (h:n≤sizeLine):Builtin.List.listTooLong n=false:=by
 unfold Builtin.List.listTooLong
 exact decide_eq_false (by omega)
end
section
variable {X:Cx}
def qd2:V→List V→Hp→VK→Prop:=fun x vs H Q=>∃ l xs y,x=.ref l∧vs=[y]∧H l=some (.lst xs)∧xs.length < sizeLine∧Q .non (upd H l (.lst (xs++[y])))
theorem mt_append:MtM X "list.append" qd2:=by
 intro pins s σ H x vs v us Q I rx rv h
 obtain ⟨l,xs,y,rfl,rfl,hH,hz,q⟩:=h
 cases rx
 obtain ⟨u,rfl,ru⟩:=rv.one
 obtain ⟨z,its,n,r,hl,e⟩:=I.lstM hH
 refine call_meets F.slot_list_append ⟨_,e,rfl⟩ F.entry_list_append (F.args_list_append_2 _ _) (PySem.list_append l its.toArray n u (by rw [List.size_toArray];omega)) ⟨e,?_⟩
 refine ⟨.non,_,I.lset (its':=its++[u]) hH e (by simp) (r.append (.cons ru .nil)) ?_,rfl,q⟩
 rw [List.length_append,List.length_singleton]
 omega
def qd3:V→List V→Hp→VK→Prop:=fun x vs H Q=>∃ l b xs zs,x=.ref l∧vs=[.ref b]∧H l=some (.lst xs)∧H b=some (.lst zs)∧xs.length + zs.length≤sizeLine∧Q .non (upd H l (.lst (xs++zs)))
theorem mt_extend:MtM X "list.extend" qd3:=by
 intro pins s σ H x vs v us Q I rx rv h
 obtain ⟨l,b,xs,zs,rfl,rfl,hH,hB,hz,q⟩:=h
 cases rx
 obtain ⟨u,rfl,ru⟩:=rv.one
 cases ru
 obtain ⟨z,its,n,r,hl,e⟩:=I.lstM hH
 obtain ⟨z2,its2,n2,r2,hl2,e2⟩:=I.lstM hB
 have hsz:its.toArray.size + its2.toArray.size≤sizeLine:=by rw [List.size_toArray,List.size_toArray];omega
 have hlong:¬ (!its.toArray.isEmpty&&Builtin.List.listTooLong (its.toArray.size + its2.toArray.size))=true:=by
  rw [qc6 hsz,Bool.and_false]
  exact Bool.false_ne_true
 refine call_meets F.slot_list_extend ⟨_,e,rfl⟩ F.entry_list_extend (F.args_list_extend_2 _ _)
  (AutoSeq1.list_extend_list_list_0 l its.toArray n b its2.toArray n2 hlong (by rw [List.size_toArray];omega) (by omega)) ⟨e,e2,?_⟩
 refine ⟨.non,_,I.lset (its':=its++its2) hH e (by simp) (r.append r2) ?_,rfl,q⟩
 rw [List.length_append]
 omega
def qe2:V→List V→Hp→VK→Prop:=fun x vs H Q=>∃ l xs i k y,x=.ref l∧vs=[.int i]∧H l=some (.lst xs)∧-(2 ^ 63)≤i∧i < 2 ^ 63∧seqIndex? i xs.length=some k∧xs[k]?=some y∧Q y (upd H l (.lst (xs.eraseIdx k)))
theorem mt_popAt:MtM X "list.pop" qe2:=by
 intro pins s σ H x vs v us Q I rx rv h
 obtain ⟨l,xs,i,k,y,rfl,rfl,hH,h1,h2,hk,hy,q⟩:=h
 cases rx
 obtain ⟨u,rfl,ru⟩:=rv.one
 obtain ⟨t,rfl⟩:=ru
 obtain ⟨z,its,n,r,hl,e⟩:=I.lstM hH
 obtain ⟨w,hw,rw'⟩:=r.get hy
 refine call_meets F.slot_list_pop ⟨_,e,rfl⟩ F.entry_list_pop (F.args_list_pop_2 _ _)
  (MeetsSeq.list_pop_at l its.toArray n i t k w (fitsIndex_both h1 h2) (by rw [List.size_toArray,← hl];exact hk) (by rw [← Array.getElem?_toList];exact hw) (by rw [List.size_toArray];omega)) ⟨e,?_⟩
 refine ⟨y,_,I.lset (its':=its.eraseIdx k) hH e ?_ (r.eraseIdx k) ?_,rw',q⟩
 ·show its.toArray.eraseIdxIfInBounds k=(its.eraseIdx k).toArray
  rw [List.eraseIdxIfInBounds_toArray]
 ·have:=qce xs k
  omega
def qgS:R2:=fun x y H Q=>∃ l b xs zs,x=.ref l∧y=.ref b∧H l=some (.lst xs)∧H b=some (.lst zs)∧xs.length + zs.length≤sizeLine∧∀ p,H p=none→Q (.ref p) (upd H p (.lst (xs++zs)))
theorem op_cat:OpR X (binaryOp .Add) qgS:=by
 intro pins s σ H x y v u Q I rx ry h
 obtain ⟨l,b,xs,zs,rfl,rfl,hH,hB,hz,q⟩:=h
 cases rx
 cases ry
 obtain ⟨z,its,n,r,hl,e⟩:=I.lstM hH
 obtain ⟨z2,its2,n2,r2,hl2,e2⟩:=I.lstM hB
 refine PySem.P.add_list e e2 ?_ (by rw [List.size_toArray,List.size_toArray];omega)
 have ea:its.toArray++its2.toArray=(its++its2).toArray:=by simp
 rw [ea]
 exact ⟨.ref _,_,I.lnew (t':=s.toks) (r.append r2) (by rw [List.length_append];omega),rfl,q _ I.fresh⟩
def qgT:R2:=fun x y H Q=>∃ l k xs,x=.ref l∧y=.int k∧H l=some (.lst xs)∧-(2 ^ 63)≤k∧k < 2 ^ 63∧xs.length * k.toNat≤sizeLine ∧
 ∀ p,H p=none→Q (.ref p) (upd H p (.lst (List.replicate k.toNat xs).flatten))
theorem len_rep {α:Type} (xs:List α) (k:Nat):(List.replicate k xs).flatten.length=k * xs.length:=by
 induction k with
 | zero=>simp
 | succ k ih=>rw [List.replicate_succ,List.flatten_cons,List.length_append,ih,Nat.succ_mul,Nat.add_comm]
theorem op_rep:OpR X (binaryOp .Mult) qgT:=by
 intro pins s σ H x y v u Q I rx ry h
 obtain ⟨l,k,xs,rfl,rfl,hH,h1,h2,hz,q⟩:=h
 cases rx
 obtain ⟨t,rfl⟩:=ry
 obtain ⟨z,its,n,r,hl,e⟩:=I.lstM hH
 have hlen:its.toArray.size * k.toNat≤sizeLine:=by rw [List.size_toArray,← hl];exact hz
 have hcap:¬ its.toArray.size * k.toNat > (2 ^ 63 - 1) / 8:=by
  have:(sizeLine:Nat)≤(2 ^ 63 - 1) / 8:=by decide
  omega
 have hfit:¬ (!Builtin.List.listFitsIndex k)=true:=by
  rw [fitsIndex_both h1 h2]
  exact Bool.false_ne_true
 have hlong:¬ Builtin.List.listTooLong (its.toArray.size * k.toNat)=true:=by
  rw [qc6 hlen]
  exact Bool.false_ne_true
 have hnew:List.foldl (fun x1 x2=>x1++x2) #[] (List.replicate (if its.toArray.isEmpty=true then 0 else k.toNat) its.toArray)=(List.replicate k.toNat its).flatten.toArray:=by
  have f0:∀ m:Nat,List.foldl (fun x1 x2=>x1++x2) #[] (List.replicate m its.toArray)=(List.replicate m its).flatten.toArray:=fun m=>by
   have:=qcf its m []
   rw [List.nil_append] at this
   exact this
  rw [f0]
  cases its with
  | nil=>simp
  | cons a r'=>rw [if_neg (by simp)]
 refine wpAny_binaryOp_repeat_ref (T:="list") (U:="int") (by decide) ⟨_,e,rfl⟩ (fun s'=>typeIs_int s' k t) noFill_list_mul F.fills_int_mul F.slot_int_rmul repeat_list F.slot_int_index.lookup
  (call_meets F.slot_int_rmul (typeIs_int s k t) F.entry_int_rmul (F.args_int_rmul_2 _ _) (int___rmul___int_list k t l its.toArray n)
   ⟨e,rfl,⟨_,e,rfl⟩,call_meets F.slot_list_mul ⟨_,e,rfl⟩ F.entry_list_mul (F.args_list_mul_2 _ _) (AutoListH.list___mul___list_int_3 l its.toArray n k t hfit hcap hlong) ⟨e,?_⟩⟩)
 rw [hnew]
 exact ⟨.ref _,_,I.lnew (t':=s.toks) (r.rep k.toNat) (by rw [len_rep,Nat.mul_comm];exact hz),rfl,q _ I.fresh⟩
end
section
variable {prog:Program} {w:World} {A:Around} {E:Value→Shared→Prop} {s:Shared}
set_option maxRecDepth 100000 in
end
section
variable {X:Cx}
end
end L2
namespace L2
open PySem PySem.Spec PyProof.Rows
section
variable {κ:Type} [DecidableEq κ]
def qaC (kvs:List (κ×V)) (k:κ):Option V:=(kvs.find? fun kv=>decide (kv.1=k)).map (·.2)
def qcN (kvs:List (κ×V)) (k:κ) (v:V):List (κ×V):=
 if (kvs.any fun kv=>decide (kv.1=k))=true then kvs.map (fun kv=>if kv.1=k then (kv.1,v) else kv) else kvs++[(k,v)]
def dropK (kvs:List (κ×V)) (k:κ):List (κ×V):=kvs.filter fun kv=>decide (kv.1≠k)
theorem jE {p:κ×V} {r:List (κ×V)} {k:κ} (e:p.1=k):qaC (p::r) k=some p.2:=by simp [qaC,List.find?_cons,e]
theorem jw {p:κ×V} {r:List (κ×V)} {k:κ} (e:¬ p.1=k):qaC (p::r) k=qaC r k:=by simp [qaC,List.find?_cons,e]
theorem qaD (k:κ):∀ kvs:List (κ×V),(kvs.any fun kv=>decide (kv.1=k))=(qaC kvs k).isSome
 | []=>rfl
 | p::r=>by
  rw [List.any_cons]
  by_cases e:p.1=k
  ·simp only [jE e,decide_eq_true e,Bool.true_or,Option.isSome_some]
  ·rw [jw e,decide_eq_false e,Bool.false_or];exact qaD k r
theorem qc7 (k j:κ) (y:V):∀ kvs:List (κ×V),qaC (kvs.map fun kv=>if kv.1=k then (kv.1,y) else kv) j=(qaC kvs j).map fun x=>if j=k then y else x
 | []=>rfl
 | p::r=>by
  have ih:=qc7 k j y r
  rw [List.map_cons]
  by_cases h:p.1=k
  ·rw [if_pos h]
   by_cases e:p.1=j
   ·rw [jE (p:=(p.1,y)) e,jE e,Option.map_some,if_pos (e.symm.trans h)]
   ·rw [jw (p:=(p.1,y)) e,jw e,ih]
  ·rw [if_neg h]
   by_cases e:p.1=j
   ·rw [jE (p:=p) e,jE e,Option.map_some,if_neg (fun z=>h (e.trans z))]
   ·rw [jw (p:=p) e,jw e,ih]
theorem qcg (k j:κ) (y:V):∀ kvs:List (κ×V),qaC kvs k=none→qaC (kvs++[(k,y)]) j=if j=k then some y else qaC kvs j
 | [],_=>by
  by_cases e:k=j
  ·rw [if_pos e.symm];exact jE (p:=(k,y)) e
  ·rw [if_neg (fun z=>e z.symm)];exact jw (p:=(k,y)) e
 | p::r,hn=>by
  rw [List.cons_append]
  have hk:¬ p.1=k:=fun z=>by rw [jE z] at hn;cases hn
  rw [jw hk] at hn
  have ih:=qcg k j y r hn
  by_cases e:p.1=j
  ·rw [jE e,jE e,if_neg (fun z=>hk (e.trans z))]
  ·rw [jw e,jw e,ih]
theorem valV_put (kvs:List (κ×V)) (k j:κ) (y:V):qaC (qcN kvs k y) j=if j=k then some y else qaC kvs j:=by
 unfold qcN
 by_cases a:(kvs.any fun kv=>decide (kv.1=k))=true
 ·rw [if_pos a,qc7]
  rw [qaD] at a
  by_cases e:j=k
  ·obtain ⟨x,hx⟩:=Option.isSome_iff_exists.mp a
   rw [if_pos e,e,hx,Option.map_some,if_pos rfl]
  ·rw [if_neg e]
   cases qaC kvs j with
   | none=>rfl
   | some x=>rw [Option.map_some,if_neg e]
 ·rw [if_neg a]
  refine qcg k j y kvs ?_
  rw [qaD] at a
  cases q:qaC kvs k with
  | none=>rfl
  | some x=>rw [q] at a;exact (a rfl).elim
theorem qav (kvs:List (κ×V)) (k:κ) (v:V):(qcN kvs k v).length≤kvs.length + 1:=by
 unfold qcN
 split
 ·rw [List.length_map];omega
 ·rw [List.length_append,List.length_cons,List.length_nil];omega
theorem putK_new {kvs:List (κ×V)} {k:κ} (v:V) (h:qaC kvs k=none):qcN kvs k v=kvs++[(k,v)]:=by
 unfold qcN
 rw [qaD,h]
 exact if_neg (by decide)
theorem RelO.isSome_eq {o:Option V} {u:Option Value} (r:RelO o u):o.isSome=u.isSome:=by
 cases o with
 | none=>cases u with
  | none=>rfl
  | some _=>exact (show False from r).elim
 | some _=>cases u with
  | none=>exact (show False from r).elim
  | some _=>rfl
theorem KV.val {kvs:List (κ×V)} {vs:List (κ×Value)} (r:KV kvs vs) (k:κ):RelO (qaC kvs k) (valueAt vs k):=by
 unfold KV at r
 induction r with
 | nil=>exact True.intro
 | @cons p q ps qs h t ih =>
  obtain ⟨h1,h2⟩:=h
  by_cases e:p.1=k
  ·have e':q.1=k:=h1.symm.trans e
   have b:valueAt (q::qs) k=some q.2:=by simp [valueAt,List.find?_cons,e']
   rw [jE e,b];exact h2
  ·have e':¬ q.1=k:=fun z=>e (h1.trans z)
   have b:valueAt (q::qs) k=valueAt qs k:=by simp [valueAt,List.find?_cons,e']
   rw [jw e,b];exact ih
theorem KV.any {kvs:List (κ×V)} {vs:List (κ×Value)} (r:KV kvs vs) (k:κ):(kvs.any fun kv=>decide (kv.1=k))=vs.any fun kv=>decide (kv.1=k):=by
 unfold KV at r
 induction r with
 | nil=>rfl
 | cons h t ih=>rw [List.any_cons,List.any_cons,ih,h.1]
theorem KV.repl {kvs:List (κ×V)} {vs:List (κ×Value)} (r:KV kvs vs) (k:κ) {y:V} {u:Value} (ry:RelV y u) :
  KV (kvs.map fun kv=>if kv.1=k then (kv.1,y) else kv) (vs.map fun kv=>if kv.1=k then (kv.1,u) else kv):=by
 unfold KV at r ⊢
 induction r with
 | nil=>exact .nil
 | @cons p q ps qs h t ih =>
  rw [List.map_cons,List.map_cons]
  refine .cons ?_ ih
  obtain ⟨h1,h2⟩:=h
  by_cases e:p.1=k
  ·rw [if_pos e,if_pos (h1.symm.trans e)];exact ⟨h1,ry⟩
  ·rw [if_neg e,if_neg (fun z=>e (h1.trans z))];exact ⟨h1,h2⟩
theorem KV.put {kvs:List (κ×V)} {vs:List (κ×Value)} (r:KV kvs vs) (k:κ) {y:V} {u:Value} (ry:RelV y u):KV (qcN kvs k y) (stored vs k u):=by
 unfold qcN stored
 rw [r.any k]
 by_cases e:(vs.any fun kv=>decide (kv.1=k))=true
 ·rw [if_pos e,if_pos e];exact r.repl k ry
 ·rw [if_neg e,if_neg e];exact Paired.snoc r ⟨rfl,ry⟩
theorem KV.length {kvs:List (κ×V)} {vs:List (κ×Value)} (r:KV kvs vs):kvs.length=vs.length:=Paired.length r
end
theorem qd4 {P:Program} {w:World} {k:Key} {u:Value} (r:RelV (kV k) u):(jN P w).is k u=true:=by
 cases k with
 | inl i=>obtain ⟨t,e⟩:=(show ∃ t,u=Value.int i t from r);subst e;exact mixKind_int P w i t
 | inr x=>obtain ⟨t,e⟩:=(show ∃ t,u=Value.str x t from r);subst e;exact mixKind_str P w x t
theorem qch {P:Program} {w:World}:∀ {ks:List Key} {us:List Value},Vals (ks.map kV) us→ItemsAre (jN P w) ks us
 | [],_,r=>by rw [List.map_nil] at r;cases r;exact .nil
 | k::ks,_,r=>by
  rw [List.map_cons] at r
  cases r with
  | cons h t=>exact .cons (qd4 h) (qch t)
abbrev KT (H:Hp):List (List Key×V)→List (List Key×Addr×Value)→Prop:=Paired fun p q=>p.1=q.1∧H q.2.1=some (.tup (p.1.map kV))∧RelV p.2 q.2.2
theorem KT.val {H:Hp} {kvs:List (List Key×V)} {xs:List (List Key×Addr×Value)} (r:KT H kvs xs) (k:List Key):RelO (qaC kvs k) ((atKey xs k).map (·.2)):=by
 induction r with
 | nil=>exact True.intro
 | @cons p q ps qs h t ih =>
  obtain ⟨h1,_,h2⟩:=h
  by_cases e:p.1=k
  ·have e':q.1=k:=h1.symm.trans e
   have b:atKey (q::qs) k=some q.2:=by simp [atKey,List.find?_cons,e']
   rw [jE e,b];exact h2
  ·have e':¬ q.1=k:=fun z=>e (h1.trans z)
   have b:atKey (q::qs) k=atKey qs k:=by simp [atKey,List.find?_cons,e']
   rw [jw e,b];exact ih
theorem KT.repl {H:Hp} {kvs:List (List Key×V)} {xs:List (List Key×Addr×Value)} (r:KT H kvs xs) (k:List Key) {y:V} {u:Value} (ry:RelV y u) :
  KT H (kvs.map fun kv=>if kv.1=k then (kv.1,y) else kv) (xs.map (putAt k u)):=by
 induction r with
 | nil=>exact .nil
 | @cons p q ps qs h t ih =>
  rw [List.map_cons,List.map_cons]
  refine .cons ?_ ih
  obtain ⟨h1,h2,h3⟩:=h
  unfold putAt
  by_cases e:p.1=k
  ·rw [if_pos e,if_pos (h1.symm.trans e)];exact ⟨h1,h2,ry⟩
  ·rw [if_neg e,if_neg (fun z=>e (h1.trans z))];exact ⟨h1,h2,h3⟩
theorem KT.put {H:Hp} {kvs:List (List Key×V)} {xs:List (List Key×Addr×Value)} (r:KT H kvs xs) (k:List Key) {b:Addr} {y:V} {u:Value} (hb:H b=some (.tup (k.map kV))) (ry:RelV y u) :
  KT H (qcN kvs k y) (storedH xs k b u):=by
 have e:(kvs.any fun kv=>decide (kv.1=k))=(atKey xs k).isSome:=by
  rw [qaD,(r.val k).isSome_eq,Option.isSome_map]
 unfold qcN storedH
 rw [e]
 by_cases q:(atKey xs k).isSome=true
 ·rw [if_pos q,if_pos q];exact r.repl k ry
 ·rw [if_neg q,if_neg q];exact Paired.snoc r ⟨rfl,hb,ry⟩
theorem KT.keeps {H H':Hp} {kvs:List (List Key×V)} {xs:List (List Key×Addr×Value)} (r:KT H kvs xs) (ht:∀ b ys,H b=some (.tup ys)→H' b=some (.tup ys)):KT H' kvs xs:=
 Paired.mapP r fun _ _ z=>⟨z.1,ht _ _ z.2.1,z.2.2⟩
section
variable {P:Program} {w:World} {H:Hp} {h:Heap} {a:Addr}
theorem qfS {u:HO} (ok:HOk P w H h) (e:Rd H a u):ObjOk P w H h a u:=e.ok ok
theorem qdJ {kvs:List (Key×V)} (ok:HOk P w H h) (e:Rd H a (.dK kvs)):kvs.length≤sizeLine∧(a==sysModules)=false∧∃ vs,KV kvs vs∧h.DictOf (jN P w) a vs:=
 show ObjOk P w H h a (.dK kvs) from qfS ok e
theorem dk_of {kvs:List (Key×V)} (ok:HOk P w H h) (e:H a=some (.dK kvs)):kvs.length≤sizeLine∧(a==sysModules)=false∧∃ vs,KV kvs vs∧h.DictOf (jN P w) a vs:=qdJ ok (.inl e)
theorem qci {ks:List Key} (ok:HOk P w H h) (e:H a=some (.tup (ks.map kV))):(tupleKind (jN P w)).is h ks a:=by
 obtain ⟨_,its,r,o,h1,h2,n,h3⟩:=(show ObjOk P w H h a (.tup (ks.map kV)) from ok a _ e)
 exact ⟨o,its.toArray,n,h1,h2,h3,by simpa using qch r⟩
theorem qd5 {kvs:List (List Key×V)} (ok:HOk P w H h) (e:Rd H a (.dT kvs)):kvs.length≤sizeLine∧(a==sysModules)=false ∧
  ∃ xs,KT H kvs xs∧h.DictOfH (tupleKind (jN P w)) a xs:=by
 obtain ⟨z,y,xs,r,o,es,ep,h1,h2,h3,h4,h5⟩:=(show ObjOk P w H h a (.dT kvs) from qfS ok e)
 refine ⟨z,y,xs,r,o,es,ep,h1,h2,h3,h4,fun x hx=>?_,h5⟩
 have all:∀ {l:List (List Key×V)} {m:List (List Key×Addr×Value)},KT H l m→∀ x∈m,(tupleKind (jN P w)).is h x.1 x.2.1:=by
  intro l m q
  induction q with
  | nil=>intro x hx;exact nomatch hx
  | @cons p q ps qs hq t ih =>
   intro x hx
   rcases List.mem_cons.mp hx with e | hx
   ·subst e
    exact qci ok (by rw [← hq.1];exact hq.2.1)
   ·exact ih x hx
 exact all r x hx
theorem dt_of {kvs:List (List Key×V)} (ok:HOk P w H h) (e:H a=some (.dT kvs)):kvs.length≤sizeLine∧(a==sysModules)=false ∧
  ∃ xs,KT H kvs xs∧h.DictOfH (tupleKind (jN P w)) a xs:=qd5 ok (.inl e)
end
def DGet (H:Hp) (a:Addr) (y:V) (r:Option V):Prop:=
 (∃ kvs k,Rd H a (.dK kvs)∧y=kV k∧r=qaC kvs k)∨∃ kvs k b,Rd H a (.dT kvs)∧y=.ref b∧H b=some (.tup (k.map kV))∧r=qaC kvs k
def DPut (H:Hp) (a:Addr) (y v:V) (H':Hp):Prop:=
 (∃ kvs k,H a=some (.dK kvs)∧y=kV k∧kvs.length < sizeLine∧H'=upd H a (.dK (qcN kvs k v))) ∨
 ∃ kvs k b,H a=some (.dT kvs)∧y=.ref b∧H b=some (.tup (k.map kV))∧kvs.length < sizeLine∧H'=upd H a (.dT (qcN kvs k v))
theorem DGet.k {H:Hp} {a:Addr} {kvs:List (Key×V)} {k:Key} (e:H a=some (.dK kvs)):DGet H a (kV k) (qaC kvs k):=.inl ⟨kvs,k,.inl e,rfl,rfl⟩
theorem DPut.k {H:Hp} {a:Addr} {kvs:List (Key×V)} {k:Key} {v:V} (e:H a=some (.dK kvs)) (hl:kvs.length < sizeLine):DPut H a (kV k) v (upd H a (.dK (qcN kvs k v))):=.inl ⟨kvs,k,e,rfl,hl,rfl⟩
section
variable {X:Cx} {pins:List (Addr×Obj)} {σ:St} {H:Hp} {s:Shared} {a:Addr} {y v:V} {u r:Value} {o:Option V} {A:Around} {E:Value→Shared→Prop}
theorem Inv.big (I:Inv X pins σ H s):sysModules < s.heap.objs.size:=by
 have h:mainGlobals < s.heap.objs.size:=(I.mod.glob.keeps I.bk).lt
 exact Nat.lt_trans (by decide) h
theorem d_getItem {Q:Value→Shared→Prop} (hu:A.units + 1 < cLine) (I:Inv X pins σ H s) (g:DGet H a y (some v)) (ry:RelV y u) (h:∀ w' s',Inv X pins σ H s'→RelV v w'→Q w' s') :
  wpAny (model X.prog X.w) A (getItem (.ref a) u) Q E s:=by
 rcases g with ⟨kvs,k,e,ey,l⟩ | ⟨kvs,k,b,e,ey,eb,l⟩
 ·subst ey
  obtain ⟨z,hd,vs,rel,dd⟩:=qdJ I.hok e
  obtain ⟨w',hw,rw'⟩:=RelO.some_of (v:=v) (o:=valueAt vs k) (by rw [l];exact rel.val k)
  exact wpAny_getItem_of (qd4 ry) dd.mapOf hw (h w' _ (I.tok _) rw')
 ·subst ey
  cases (show u=Value.ref b from ry)
  obtain ⟨z,hd,xs,rel,dd⟩:=qd5 I.hok e
  obtain ⟨w',hw,rw'⟩:=RelO.some_of (v:=v) (o:=(atKey xs k).map (·.2)) (by rw [l];exact rel.val k)
  obtain ⟨p,hp,hp2⟩:=Option.map_eq_some_iff.mp hw
  refine wpAny_getItem_heap (tupleKind_room_in1 hu) (qci I.hok eb) dd hp ?_
  rw [hp2]
  exact h w' _ (I.tok _) rw'
theorem qgk {Q:Value→Shared→Prop} (hu:A.units + 1 < cLine) (I:Inv X pins σ H s) (g:DGet H a y o) (ry:RelV y u) (h:∀ s',Inv X pins σ H s'→Q (.bool o.isSome) s') :
  wpAny (model X.prog X.w) A (compareOp .In u (.ref a)) Q E s:=by
 rcases g with ⟨kvs,k,e,ey,l⟩ | ⟨kvs,k,b,e,ey,eb,l⟩
 ·subst ey
  obtain ⟨z,hd,vs,rel,dd⟩:=qdJ I.hok e
  refine wpAny_in_of (qd4 ry) hd dd.mapOf ?_
  rw [← (rel.val k).isSome_eq,← l]
  exact h _ (I.tok _)
 ·subst ey
  cases (show u=Value.ref b from ry)
  obtain ⟨z,hd,xs,rel,dd⟩:=qd5 I.hok e
  refine wpAny_in_heap (tupleKind_room_in1 hu) (qci I.hok eb) hd dd ?_
  have q:=(rel.val k).isSome_eq
  rw [Option.isSome_map] at q
  rw [← q,← l]
  exact h _ (I.tok _)
theorem d_notIn {Q:Value→Shared→Prop} (hu:A.units + 1 < cLine) (I:Inv X pins σ H s) (g:DGet H a y o) (ry:RelV y u) (h:∀ s',Inv X pins σ H s'→Q (.bool (!o.isSome)) s') :
  wpAny (model X.prog X.w) A (compareOp .NotIn u (.ref a)) Q E s:=by
 rcases g with ⟨kvs,k,e,ey,l⟩ | ⟨kvs,k,b,e,ey,eb,l⟩
 ·subst ey
  obtain ⟨z,hd,vs,rel,dd⟩:=qdJ I.hok e
  refine wpAny_notIn_of (qd4 ry) hd dd.mapOf ?_
  rw [← (rel.val k).isSome_eq,← l]
  exact h _ (I.tok _)
 ·subst ey
  cases (show u=Value.ref b from ry)
  obtain ⟨z,hd,xs,rel,dd⟩:=qd5 I.hok e
  refine wpAny_notIn_heap (tupleKind_room_in1 hu) (qci I.hok eb) hd dd ?_
  have q:=(rel.val k).isSome_eq
  rw [Option.isSome_map] at q
  rw [← q,← l]
  exact h _ (I.tok _)
theorem qd6 {h':Heap} {t':Nat} {ob:HO} (I:Inv X pins σ H s) (mu:Mut (H a)) (hs:Heap.SameBut a s.heap h') (he:∃ q,h'.get? a=some q) (new:ObjOk X.prog X.w (upd H a ob) h' a ob) :
  Inv X pins σ (upd H a ob) { s with heap:=h',toks:=t' }:=
 I.write (x:=a) (e:=a) mu (.inl rfl) (fun b q hb z=>(hs.2 b hb).trans z) he new
theorem dk_new {P:Program} {w:World} {H':Hp} {h':Heap} {kvs:List (Key×V)} {vs:List (Key×Value)} (z:kvs.length≤sizeLine) (hd:(a==sysModules)=false) (rel:KV kvs vs) (dd:h'.DictOf (jN P w) a vs) :
  ObjOk P w H' h' a (.dK kvs):=⟨z,hd,vs,rel,dd⟩
theorem d_setItem {H':Hp} {Q:Unit→Shared→Prop} (hu:A.units + 1 < cLine) (I:Inv X pins σ H s) (g:DPut H a y v H') (ry:RelV y u) (rv:RelV v r) (h:∀ s',Inv X pins σ H' s'→Q () s') :
  wpAny (model X.prog X.w) A (setItem (.ref a) u r) Q E s:=by
 rcases g with ⟨kvs,k,e,ey,l,eH⟩ | ⟨kvs,k,b,e,ey,eb,l,eH⟩
 ·subst ey eH
  obtain ⟨z,hd,vs,rel,dd⟩:=dk_of I.hok e
  have hz:vs.length≤sizeLine:=by rw [← rel.length];exact z
  have hl:(qcN kvs k v).length≤sizeLine:=by have:=qav kvs k v;omega
  refine wpAny_setItem_pairs (hsz:=hz) (qd4 ry) dd fun h' dd' hs=>h _ ?_
  have he:∃ q,h'.get? a=some q:=let ⟨q,_,_,hq,_⟩:=dd';⟨q,hq⟩
  exact qd6 I (by rw [e];exact True.intro) hs he (dk_new hl hd (rel.put k rv) dd')
 ·subst ey eH
  cases (show u=Value.ref b from ry)
  obtain ⟨z,hd,xs,rel,dd⟩:=dt_of I.hok e
  have hz:xs.length≤sizeLine:=by rw [← Paired.length rel];exact z
  have hl:(qcN kvs k v).length≤sizeLine:=by have:=qav kvs k v;omega
  refine wpAny_setItem_heap (hsz:=hz) (tupleKind_room_in1 hu) (qci I.hok eb) dd fun h' dd' hs=>h _ ?_
  obtain ⟨q,es,ep,hq,h2,h3,h4,_,h5⟩:=dd'
  refine qd6 I (by rw [e];exact True.intro) hs ⟨q,hq⟩ ⟨hl,hd,_,(rel.put k eb rv).keeps fun c ys ec=>?_,q,es,ep,hq,h2,h3,h4,h5⟩
  rw [qr (qaS ec e (fun z=>nomatch z))]
  exact ec
end
section
variable {X:Cx} {pins:List (Addr×Obj)} {σ:St} {H:Hp} {s:Shared} {a:Addr} {kvs:List (Key×V)} {k:Key} {u:Value} {A:Around} {E:Value→Shared→Prop}
theorem d_len {Q:Value→Shared→Prop} (I:Inv X pins σ H s) (e:Rd H a (.dK kvs)) (h:∀ t s',Inv X pins σ H s'→Q (.int kvs.length t) s'):wpAny (model X.prog X.w) A (call (.builtin "len") [.ref a]) Q E s:=by
 obtain ⟨z,hd,vs,rel,dd⟩:=qdJ I.hok e
 refine call_len_dict hd dd (by rw [← rel.length];rw [sizeLine_eq] at z;omega) ?_
 rw [← rel.length]
 exact h _ _ (I.tok _)
end
theorem dict_typeIs {X:Cx} {pins:List (Addr×Obj)} {σ:St} {H:Hp} {s:Shared} {a:Addr} {y:V} {o:Option V} (I:Inv X pins σ H s) (g:DGet H a y o):s.TypeIs (.ref a) "dict":=by
 rcases g with ⟨kvs,k,e,_,_⟩ | ⟨kvs,k,b,e,_,_,_⟩
 ·obtain ⟨_,_,vs,_,dd⟩:=qdJ I.hok e
  exact dd.typeIs
 ·obtain ⟨_,_,xs,_,dd⟩:=qd5 I.hok e
  exact dd.typeIs
section
variable {X:Cx} {o i e value:Expr} {pos pos' tpos:Pos} {td ty tv:TE}
end
theorem dk_empty {P:Program} {w:World} {H:Hp} (h:Heap) (hb:sysModules < h.objs.size):ObjOk P w H (h.push { cls:=.type "dict",data:=.dict #[] }) h.objs.size (.dK []):=
 ⟨Nat.zero_le _,beq_eq_false_iff_ne.mpr (Ne.symm (Nat.ne_of_lt hb)),[],.nil,Heap.DictOf.new h⟩
def qd7:TE:=fun _ H Q=>∀ p,H p=none→Q (.ref p) (upd H p (.dK []))
section
variable {X:Cx} {pos:Pos}
theorem qbN:PE X (.Dict [] [] pos) qd7:=fun pins s σ H Q I h =>
 wpAny_Dict_empty ⟨.ref s.heap.objs.size,_,I.laid (a:=s.heap.objs.size) (o:=.dK []) (t':=s.toks) (fun _ _ q=>Heap.get?_push_of_some _ q) (Nat.le_refl _) (dk_empty s.heap I.big),rfl,h _ (I.hok.fresh (Nat.le_refl _))⟩
end
structure M1 (X:Cx) (o:Expr) (m:Str) (apos:Pos) (e:Expr) (cpos:Pos):Prop where
 base:attributeBase o m X.env (eval o X.env)=eval o X.env
 few:((backTo cpos (starEach [e] X.env)).all (fun x=>!x.1)&&(backToKw cpos (keywordEach [] X.env)).all (fun x=>x.1.isSome)
  && decide (([e]:List Expr).length + ([]:List Keyword).length + (if ([]:List Keyword).isEmpty then 0 else 1) < 30))=true
 line:(apos.endLine==cpos.line)=true
 trees:backTo cpos (starEach [e] X.env)=[(false,eval e X.env)]
structure M2 (X:Cx) (o:Expr) (m:Str) (apos:Pos) (e f:Expr) (cpos:Pos):Prop where
 base:attributeBase o m X.env (eval o X.env)=eval o X.env
 few:((backTo cpos (starEach [e,f] X.env)).all (fun x=>!x.1)&&(backToKw cpos (keywordEach [] X.env)).all (fun x=>x.1.isSome)
  && decide (([e,f]:List Expr).length + ([]:List Keyword).length + (if ([]:List Keyword).isEmpty then 0 else 1) < 30))=true
 line:(apos.endLine==cpos.line)=true
 trees:backTo cpos (starEach [e,f] X.env)=[(false,eval e X.env),(false,eval f X.env)]
def IsD (H:Hp) (a:Addr):Prop:=(∃ kvs,Rd H a (.dK kvs))∨∃ kvs,Rd H a (.dT kvs)
section
variable {X:Cx} {pins:List (Addr×Obj)} {σ:St} {H:Hp} {s:Shared} {a:Addr} {y d:V} {u r:Value} {o:Option V} {A:Around} {E:Value→Shared→Prop}
end
def tDGet2 (td ty tx:TE):TE:=fun σ H Q=>td σ H fun x H1=>∃ a,x=.ref a∧IsD H1 a∧ty σ H1 fun y H2=>tx σ H2 fun z H3=>∃ o,DGet H3 a y o∧Q (o.getD z) H3
section
variable {X:Cx} {o e f:Expr} {apos cpos:Pos} {td ty tx:TE}
end
section
variable {X:Cx} {pins:List (Addr×Obj)} {σ:St} {H:Hp} {s:Shared} {a:Addr} {kvs:List (Key×V)} {A:Around} {E:Value→Shared→Prop}
end
section
variable {X:Cx} {pins:List (Addr×Obj)} {σ:St} {H:Hp} {s:Shared} {a:Addr} {y:V} {u:Value} {A:Around} {E:Value→Shared→Prop}
end
end L2
namespace Att
open PySem PySem.W PySem.Calls PyProof.Rows
theorem ints_of_wellAll {P:Params} {h:Heap}:∀ (ns:List Int) (vs:List Value),WellAll P h vs (ns.map WData.int)→IntsAre vs ns:=by
 intro ns
 induction ns with
 | nil =>
  intro vs w
  rw [List.map_nil] at w
  cases w
  exact .nil
 | cons n ns ih =>
  intro vs w
  rw [List.map_cons] at w
  cases w with
  | cons a b =>
   cases a
   exact .cons _ _ (ih _ b)
theorem script_of {l:OpenLaw} {n:Nat} (hn:l.most=some n) {P:Params} {h:Heap} {args:List WData} {vals:List Value}
  (hpre:l.row.toRowW.claim.pre args=true) (hwl:WellAll P h vals args) :
  ∃ a vs ns,vals=[Value.ref a]∧args=[WData.list (ns.map WData.int)]∧h.get? a=some { cls:=.type "list",data:=.seq vs.toArray }∧IntsAre vs ns∧ns.length≤n:=by
 have hsh:WShape.hasAll [] args [.list .int]=true:=(pre_splitW hpre).1
 have hc:l.pre.holds [] { args:=args }=true:=(pre_splitW hpre).2
 obtain ⟨d,r,rfl,h1,h2⟩:=hasAllW_cons hsh
 obtain rfl:=hasAllW_nil h2
 obtain ⟨xs,rfl,h3⟩:=hasW_list h1
 obtain ⟨ns,rfl⟩:=items_int h3
 have hlen:ns.length≤n:=by
  unfold OpenLaw.pre at hc
  have h4:(WTm.not (.lt (.lit (.int (n:Int))) (.len (.arg 0)))).holds [] { args:=[.list (ns.map .int)] }=true:=by
   have h4:=(holds_andW hc).1
   rw [hn] at h4
   exact h4
  have h5:=condW_of h4 (w_not (w_lt w_lit (w_len_list (w_arg rfl))))
  rw [List.length_map] at h5
  refine Nat.le_of_not_lt fun q=>?_
  have q':(n:Int) < ((ns.length:Nat):Int):=by omega
  first
   | (rw [decide_eq_true q'] at h5;exact absurd h5 (by decide))
   | (simp at h5;omega)
 cases hwl with
 | cons w1 w2 =>
  cases w2
  cases w1 with
  | list ho hall=>exact ⟨_,_,ns,rfl,rfl,ho,ints_of_wellAll ns _ hall,hlen⟩
theorem post_true (l:OpenLaw) (args:List WData):l.row.toRowW.claim.post args (.bool true) args=true:=
 postW_of (r:=l.row.toRowW) (X:=(true==true))
  (show WShape.has [] (.bool true) .bool=true by first | rfl | decide | simp [WShape.has,WShape.arms,WShape.armsAll])
  (show (WTm.eq .res (.lit (.bool true))).value [] { args:=args,res:=some (.bool true),after:=args }=some (.bool (true==true)) from w_eq_bool (w_res rfl) w_lit) rfl
theorem attach_call {l:OpenLaw} {n:Nat} {q:Program} {loose:List Str} {XP:(Str→Option Value)→Heap→Prop} {YP:World→Heap→Prop} {d:DefRec}
  (hn:l.most=some n) (hdf:d.params.defaults=[])
  (call:∀ (w:World) (s₀ s₁:Shared) (mg mb:Str→Option Value) (fa:Addr) (o:Obj) (pm cd doc:Value) (a:Addr) (vs:List Value) (ns:List Int),
   Ground q loose [] XP w s₀ mg mb s₁.heap→YP w s₁.heap →
   s₁.heap.get? fa=some o→o.data=.func (docDef d.name d.params d.body d.scope pm cd doc)→s₁.heap.CodeRec cd d.name→mg d.name=some (.ref fa) →
   s₁.heap.get? a=some { cls:=.type "list",data:=.seq vs.toArray }→IntsAre vs ns→ns.length≤n→s₁.gens=#[] →
   codeAny (model l.prog w) callerA (.call (.ref fa) ⟨[.ref a],[]⟩) (fun r s'=>r=.ok (.ret (.bool true))∧OldK s₁.heap s'.heap∧s'.os=s₁.os∧AllBare s'.gens) s₁) :
  WalkO q loose XP YP l.row.toRowW d [] (fun f vs=>PySem.call f vs):=by
 intro w s₀ s₁ mg mb G Y fa o pm cd doc dV kV ho hd hcd hD hmg hg args vals as hpre hlay hrd hwl hlo
 obtain rfl:dV=.none:=Dflts.none hD hdf
 obtain rfl:kV=.none:=Dflts.noKw hD
 obtain ⟨a,vs,ns,rfl,rfl,hobj,hints,hlen⟩:=script_of hn hpre hwl
 refine enter_call (codeAny_mono (call w s₀ s₁ mg mb fa o pm cd doc a vs ns G Y ho (fd_plain hd) hcd hmg hobj hints hlen hg) fun r s' hq=>?_)
 obtain ⟨rfl,h2,h3,h4⟩:=hq
 exact ⟨.inl ⟨.bool true,.bool true,[],rfl,fun _=>rfl,.bool true,post_true l _,fun _=>⟨List.Pairwise.nil,fun _ hm=>(nomatch hm)⟩⟩,h2,h3,h4⟩
section
variable {prog:Program} {w:World} {A:Around} {E:Value→Shared→Prop} {s:Shared} {K:Frag}
def ledger (h:Heap) (L d:Addr):List (Addr×Obj):=(List.range h.objs.size).filterMap fun a=>if a=L∨a=d then none else (h.get? a).map fun o=>(a,o)
end
end Att
namespace L2
open PySem PySem.Spec PyProof.Rows
theorem qcj:∀ {vs:List Value} {ns:List Int},IntsAre vs ns→Vals (ns.map V.int) vs
 | _,_,.nil=>.nil
 | _,_,.cons n t h=>.cons ⟨t,rfl⟩ (qcj h)
def qgu (H:Hp):Prop:=∀ b,H b=none∨∃ o xs,H b=some (.frz o (.lst xs))
theorem law_call {P:Program} {w:World} {K:PySem.W.Frag} {mg mb:Str→Option Value} {CX:CXT} {k:Nat} {fa a:Addr} {fd:FuncData} {x:Str} {sp:Sp} {s₁:Shared} {vs:List Value} {ns:List Int}
  (KX:K.In s₁.heap) (hns:s₁.heap.Ns mainGlobals mg) (hb:s₁.heap.Ns builtinsNs mb) (hbb:∀ x:Str,x≠"__name__"→mb x=bootBuiltins x) (hlim:s₁.heap.NoLimit) (hg:s₁.gens=#[])
  (ha:s₁.heap.get? a=some { cls:=.type "list",data:=.seq vs.toArray }) (hi:IntsAre vs ns) (hl:ns.length≤sizeLine) (hr:Room k callerA)
  (F:∀ base:Heap,K.In base→base.Ns mainGlobals mg→FnOk P w K mg base CX k fa fd [x] sp) (hbind:∀ (s:Shared) (u:Value),BindsTo s fd ⟨[u],[]⟩ [(x,u)])
  (hsp:∀ H:Hp,qgu H→SqL K H a (ns.map V.int)→sp [.ref a] H (fun v _=>v=.bl true) fun _ _ _=>False)
  (hCX:∀ H e s',CX [] H s₁ (fun _ _ _=>False) e s'→False) :
  codeAny (model P w) callerA (.call (.ref fa) ⟨[.ref a],[]⟩) (fun r s'=>r=.ok (.ret (.bool true))∧OldK s₁.heap s'.heap∧s'.os=s₁.os∧AllBare s'.gens) s₁:=by
 have rv:=qcj hi
 have lenV:=hi.length
 have core:∀ H:Hp,qgu H→SqL K H a (ns.map V.int)→HOk P w H s₁.heap→(∀ b,H b≠none→b=a)→(H a≠none→K.lookup a=none) →
   codeAny (model P w) callerA (.call (.ref fa) ⟨[.ref a],[]⟩) (fun r s'=>r=.ok (.ret (.bool true))∧OldK s₁.heap s'.heap∧s'.os=s₁.os∧AllBare s'.gens) s₁:=by
  intro H hO hS hok hA hK
  have base_of:∀ {b:Addr} {o:Obj},s₁.heap.get? b=some o→H b=none→(qeL s₁.heap H).get? b=some o:=fun e n=>hidT_get e n
  have noA:∀ {b:Addr} {o:Obj} {es:Array DictEntry} {ep:Nat},s₁.heap.get? b=some o→o.data=.dict es ep→H b=none:=fun {b o es ep} e d=>by
   cases q:H b with
   | none=>rfl
   | some u =>
    have e':b=a:=hA b (by rw [q];simp)
    subst e'
    rw [ha] at e;cases e
    have d':Data.seq vs.toArray _=Data.dict es ep:=d
    cases d'
  have nsK:∀ {b:Addr} {m:Str→Option Value},s₁.heap.Ns b m→(qeL s₁.heap H).Ns b m:=fun {b m} ⟨o,es,ep,e,d,r⟩=>⟨o,es,ep,base_of e (noA e d),d,r⟩
  have hKb:K.In (qeL s₁.heap H):=fun b o e=>base_of (KX b o e) (by
   cases q:H b with
   | none=>rfl
   | some u =>
    have e':b=a:=hA b (by rw [q];simp)
    subst e'
    rw [hK (by rw [q];simp)] at e;cases e)
  have hM:Mod K mg (qeL s₁.heap H):=⟨hKb,nsK hns,⟨mb,nsK hb,hbb⟩,let ⟨mc,h1,h2⟩:=hlim;⟨mc,nsK h1,h2⟩⟩
  have e0:Env0 P w K mg (qeL s₁.heap H) callerA [] s₁ H:=⟨rfl,hM,fun b o e=>of_hidT e,Nat.le_of_eq (hidT_size _ _),trivial,fun b hb=>absurd (show b∈([]:List Addr) from hb) (by simp),hok,.of_eq hg⟩
  refine codeAny_mono ((F _ hKb (nsK hns)).run callerA [] s₁ H ⟨[.ref a],[]⟩ [.ref a] [.ref a] _ _ hr e0 (hbind s₁ (.ref a)) (.cons rfl .nil) (hsp H hO hS)) fun r s' h=>?_
  cases r with
  | error e=>exact (hCX H e s' h).elim
  | ok fl =>
   cases fl with
   | next=>exact False.elim h
   | brk=>exact False.elim h
   | cont=>exact False.elim h
   | ret u =>
    obtain ⟨v,H',os,bare,un,hok',r',q⟩:=h
    have q':v=.bl true:=q
    subst q'
    obtain rfl:u=Value.bool true:=r'
    refine ⟨rfl,OldK.of_keep fun b o e=>?_,os,bare⟩
    cases q:H b with
    | none=>exact un.keep b o e q (by intro z;exact absurd (show b∈([]:List Addr) from z) (by simp)) (by simp)
    | some u =>
     rcases hO b with z | ⟨ob,xs,z⟩
     ·rw [q] at z;cases z
     ·have z2:=un.frzs b ob _ z
      obtain ⟨e1,_⟩:=hok b _ z
      obtain ⟨e2,_⟩:=hok' b _ z2
      rw [e] at e1;cases e1
      exact e2
 cases hk:K.lookup a with
 | some o =>
  have e:=KX a o hk
  rw [ha] at e
  cases e
  refine core (fun _=>none) (fun _=>.inl rfl) (.inr ⟨_,vs.toArray,_,hk,rfl,rfl,rfl,by rw [List.size_toArray,lenV];exact hl,by simpa using rv⟩) (fun b u z=>by have z':(none:Option HO)=some u:=z;cases z') (fun b z=>absurd rfl z) fun z=>absurd rfl z
 | none =>
  refine core (fun b=>if b=a then some (.frz { cls:=.type "list",data:=.seq vs.toArray } (.lst (ns.map V.int))) else none) (fun b=>?_) (.inl (.inr ⟨{ cls:=.type "list",data:=.seq vs.toArray },if_pos rfl⟩)) (fun b u z=>?_) (fun b z=>?_) fun _=>hk
  ·by_cases hb:b=a
   ·exact .inr ⟨_,_,if_pos hb⟩
   ·exact .inl (if_neg hb)
  ·by_cases hb:b=a
   ·have z':=(if_pos hb).symm.trans z
    cases z'
    subst hb
    exact ⟨ha,by rw [List.length_map];exact hl,vs,_,rv,ha⟩
   ·have z':=(if_neg hb).symm.trans z
    cases z'
  ·by_cases hb:b=a
   ·exact hb
   ·exact absurd (if_neg hb) z
end L2
namespace L2
open PySem PySem.Spec PyProof.Rows
abbrev KOf {K:PySem.W.Frag} {h:Heap} (_:K.In h):PySem.W.Frag:=K
theorem walk_of {l:PySem.W.OpenLaw} {n k:Nat} {q:Program} {loose:List Str} {XP:(Str→Option Value)→Heap→Prop} {YP:World→Heap→Prop} {d:DefRec} {K:Params→PySem.W.Frag} {CX:World→CXT} {sp:World→Sp} {x:Str}
  (hn:l.most=some n) (hn2:n≤sizeLine) (hdf:d.params.defaults=[]) (hr:Room k callerA)
  (hY:∀ (w:World) (h:Heap),YP w h→(K w.params).In h)
  (F:∀ (w:World) (mg:Str→Option Value) (fa:Addr) (h:Heap),(K w.params).In h→h.Ns mainGlobals mg→mg d.name=some (.ref fa) →
   ∃ fd:FuncData,(∀ (s:Shared) (u:Value),BindsTo s fd ⟨[u],[]⟩ [(x,u)]) ∧
    ∀ base:Heap,(K w.params).In base→base.Ns mainGlobals mg→FnOk l.prog w (K w.params) mg base (CX w) k fa fd [x] (sp w))
  (hsp:∀ (w:World) (H:Hp) (a:Addr) (ns:List Int),ns.length≤n→qgu H→SqL (K w.params) H a (ns.map V.int)→sp w [.ref a] H (fun v _=>v=.bl true) fun _ _ _=>False)
  (hCX:∀ (w:World) (H:Hp) (s:Shared) (e:Value) (s':Shared),CX w [] H s (fun _ _ _=>False) e s'→False) :
  PySem.W.WalkO q loose XP YP l.row.toRowW d [] (fun f vs=>PySem.call f vs):=by
 refine Att.attach_call hn hdf fun w s₀ s₁ mg mb fa o pm cd doc a vs ns G Y ho hd hcd hmg hobj hints hlen hg=>?_
 have KX:=hY w _ Y
 obtain ⟨fd,hb,hF⟩:=F w mg fa _ KX G.T.g hmg
 exact law_call KX G.T.g G.T.b G.T.builtins G.T.nolimit hg hobj hints (Nat.le_trans hlen hn2) hr hF hb (fun H hO hS=>hsp w H a ns hlen hO hS) fun H e s'=>hCX w H s₁ e s'
end L2
namespace L2
open PySem PySem.Spec PyProof.Rows
def qT (s:Stmt) (j:Nat):Stmt:=match s with
 | .ClassDef _ _ _ body _ _ _ _ _ _ _=>body.getD j (.Pass ⟨0,0,0,0⟩)
 | _=>.Pass ⟨0,0,0,0⟩
def qq (s:Stmt):Arguments:=match s with
 | .FunctionDef _ a _ _ _ _ _ _ _ _=>a
 | _=>{ posonlyargs:=[],args:=[],vararg:=none,kwonlyargs:=[],kw_defaults:=[],kwarg:=none,defaults:=[] }
def qj (s:Stmt):List Stmt:=match s with
 | .FunctionDef _ _ b _ _ _ _ _ _ _=>b
 | _=>[]
def qe (s:Stmt):Scope:=match s with
 | .FunctionDef _ _ _ _ _ _ sc _ _ _=>sc
 | _=>{ kind:=.function,names:=[],isGenerator:=false,isCoroutine:=false }
abbrev CX0:CXT:=fun _ _ _ _ _ _=>False
abbrev E0:XK:=fun _ _ _=>False
theorem qx {X:Cx}:zW CX0 X E0:=fun _ _ _ _ _ _ _ h=>h.elim
structure Fun (K:PySem.W.Frag) (x qual:Str) (st:Stmt) (f:Addr) (fd:FuncData):Prop where
 ex:∃ (oc:Value) (od:Option Addr) (kV doc pm:Value) (an:Option Addr) (cdv ct:Value) (osl:Array (Option Value)),
  fd=PySem.W.fnOf x qual (qq st) (qj st) (qe st) .none kV doc pm an cdv ct∧K.lookup f=some ⟨oc,od,.func fd,osl⟩∧PySem.W.codeIn K cdv qual=true
 kp:PySem.W.keepIn K (.ref f)=true
section
variable {P:Program} {w:World} {K:PySem.W.Frag} {mg:Str→Option Value} {base:Heap}
theorem Fun.ok {x qual:Str} {st:Stmt} {f:Addr} {fd:FuncData} {N ps:List Str} {k:Nat} {sp:Sp} (F:Fun K x qual st f fd) (S:FnScope N ps (qe st)) (len:∀ vs H Q E,sp vs H Q E→vs.length=ps.length)
  (hbody:∀ (cdv:Value) (A:Around) (outer:List Env) (s:Shared) (H:Hp) (vs:List V) (Q:VK) (E:XK),Room k (A.deeper (envOfC qual (qe st) s.heap.objs.size f cdv))→sp vs H Q E →
   ∃ t,PSs (qe0 CX0 P w K mg base N qual (qe st) f cdv A outer s H E).nox (qj st) t∧t { nx:=fun _ H'=>Q .non H',rt:=Q } (start N vs) H):FnOk P w K mg base CX0 (k + 1) f fd ps sp:=by
 obtain ⟨oc,od,kV,doc,pm,an,cdv,ct,osl,rfl,lk,hcd⟩:=F.ex
 refine qfP lk hcd S len fun A outer s H vs Q E hr hsp=>?_
 obtain ⟨t,h,q⟩:=hbody cdv A outer s H vs Q E hr hsp
 exact ⟨t,h.nox,q⟩
theorem Fun.binds {x qual:Str} {st:Stmt} {f:Addr} {fd:FuncData} {ps:List Str} (F:Fun K x qual st f fd)
  (h:∀ (kV doc pm:Value) (an:Option Addr) (cdv ct:Value) (us:List Value),us.length=ps.length→bindArgs (PySem.W.fnOf x qual (qq st) (qj st) (qe st) .none kV doc pm an cdv ct) ⟨us,[]⟩=pure (ps.zip us)):Binds K fd ps []:=by
 obtain ⟨oc,od,kV,doc,pm,an,cdv,ct,osl,rfl,lk,hcd⟩:=F.ex
 exact .all (h kV doc pm an cdv ct)
theorem fun_mk {x qual:Str} {st:Stmt} {f:Addr} {oc:Value} {od an:Option Addr} {osl:Array (Option Value)} {kV doc pm cdv ct:Value} (l:K.lookup f=some ⟨oc,od,.func (PySem.W.fnOf x qual (qq st) (qj st) (qe st) .none kV doc pm an cdv ct),osl⟩)
  (c:PySem.W.codeIn K cdv qual=true) (k:PySem.W.keepIn K (.ref f)=true):Fun K x qual st f (PySem.W.fnOf x qual (qq st) (qj st) (qe st) .none kV doc pm an cdv ct):=⟨⟨oc,od,kV,doc,pm,an,cdv,ct,osl,rfl,l,c⟩,k⟩
end
theorem qh {n:Nat} (h:n≤1000):n < sizeLine:=Nat.lt_of_le_of_lt h (by decide)
section
variable {X:Cx}
theorem pv (i:Nat) {x:Str} {pos:Pos} (hN:X.N[i]?=some x:=by rfl) (hv:Vis X.env.scope x:=by first | exact Or.inl rfl | exact Or.inr (Or.inl rfl) | exact Or.inr (Or.inr rfl)) (hd:(x==("__debug__":Str))=false:=by decide)
  (hcd:(x==("__classdict__":Str))=false:=by decide):PE X (.Name x pos) (qgp i):=pe_var hN hv hd hcd
theorem call_lenD:zH X (.builtin "len") (fun xs H Q=>∃ a kvs,xs=[V.ref a]∧H a=some (.dK kvs)∧Q (.int kvs.length) H):=by
 intro pins s σ H xs us Q I r h
 obtain ⟨a,kvs,rfl,ha,q⟩:=h
 obtain ⟨u,rfl,ru⟩:=qbc r
 cases ru
 exact d_len I (.inl ha) fun t s' I'=>⟨.int kvs.length,H,I',⟨t,rfl⟩,q⟩
end
theorem iteF {A B:Prop} (h:B):if false=true then A else B:=by
 rw [if_neg Bool.false_ne_true]
 exact h
theorem qbC {A B:Prop} (h:A):if true=true then A else B:=by
 rw [if_pos rfl]
 exact h
theorem qD {c A B:Prop} [Decidable c] (h1:c→A) (h2:¬ c→B):if c then A else B:=by
 by_cases h:c
 ·rw [if_pos h]
  exact h1 h
 ·rw [if_neg h]
  exact h2 h
def Same (H H':Hp):Prop:=∀ b o,H b=some o→H' b=some o
theorem Same.refl (H:Hp):Same H H:=fun _ _ h=>h
theorem Same.trans {H H1 H2:Hp} (a:Same H H1) (b:Same H1 H2):Same H H2:=fun c o h=>b c o (a c o h)
theorem Same.free {H H':Hp} (e:Same H H') {l:Addr} (h:H' l=Option.none):H l=Option.none:=by
 cases q:H l with
 | none=>rfl
 | some o =>
  rw [e l o q] at h
  cases h
theorem Same.seq {K:PySem.W.Frag} {H H':Hp} {a:Addr} {xs:List V} (e:Same H H') (h:SqL K H a xs):SqL K H' a xs:=by
 rcases h with (h | ⟨o,h⟩) | h
 ·exact .inl (.inl (e _ _ h))
 ·exact .inl (.inr ⟨o,e _ _ h⟩)
 ·exact .inr h
section
variable {κ:Type} [DecidableEq κ]
end
end L2
set_option maxHeartbeats 4000000
namespace L2
open PySem PySem.Spec PyProof.Rows
section
variable {prog:Program} {w:World} {A:Around} {R:Result→Shared→Prop} {s:Shared}
theorem compLoop_own {elt target iter:Expr} {ifs:List Expr} {scope:Scope} {pos:Pos} {it acc:Value} {env:Env} (I:Nat→Shared→Prop)
  (turn:∀ n s,I n s→wpAny (model prog w) A (pyNext it) (fun r s1=>match r with
   | none=>R (.ok .next) s1
   | some v=>wpAny (model prog w) A (letOwnedTupleGo target it v) (fun _ s1'=>wpAny (model prog w) A (assign target env v) (fun _ s2 =>
     wpAny (model prog w) A (forIn ifs true fun c r=>if r=true then do let ok ← isTrue c env (eval c env);pure (ForInStep.yield ok) else pure (ForInStep.yield r)) (fun ok s3 =>
      if ok=true then wpAny (model prog w) A (eval elt env) (fun x s4 =>
       wpAny (model prog w) A (call (.builtin "list.append") [acc,x]) (fun _ s5=>∃ m,m < n∧I m s5) (fun _ _=>False) s4) (fun _ _=>False) s3
      else ∃ m,m < n∧I m s3) (fun _ _=>False) s2) (fun _ _=>False) s1') (fun _ _=>False) s1) (fun _ _=>False) s)
  (n:Nat) (h:I n s) :
  codeAny (model prog w) A (.compLoop (.ListComp elt [⟨target,iter,ifs,0⟩] scope pos) 0 it acc env) R s:=by
 refine codeAny_loop rfl I (fun n s hI=>?_) n h
 show wpAny _ A ((compTurn (.ListComp elt [⟨target,iter,ifs,0⟩] scope pos) 0 it acc env).onRaise (fun x=>do noteFrame x env;theTreesLotGoes x)) _ _ s
 refine wpAny_noted ?_
 rw [compTurn_list]
 refine wpAny_bind (wpAny_standAt (wpAny_bind (wpAny_mono (turn n s hI) (fun r s1 h1=>?_) fun _ _ h'=>h'.elim)))
 cases r with
 | none=>exact wpAny_pure h1
 | some v =>
  refine wpAny_bind (wpAny_mono h1 (fun _ s1' h1'=>?_) fun _ _ h'=>h'.elim)
  refine wpAny_bind (wpAny_mono h1' (fun _ s2 h2=>wpAny_bind (wpAny_mono h2 (fun ok s3 h3=>?_) fun _ _ h'=>h'.elim)) fun _ _ h'=>h'.elim)
  cases ok with
  | false=>exact wpAny_pure ⟨rfl,h3⟩
  | true =>
   exact wpAny_bind (wpAny_bind (wpAny_mono h3 (fun x s4 h4=>wpAny_bind (wpAny_mono h4 (fun _ s5 h5=>wpAny_pure (wpAny_pure ⟨rfl,h5⟩)) fun _ _ h'=>h'.elim)) fun _ _ h'=>h'.elim))
end
def qX (env:Env):List (Str×NameKind)→List (Str×Addr)→List (Str×Addr)
 | [],acc=>acc
 | (n,k)::r,acc=>qX env r (if (k==.free)=true then (n,(env.cells.lookup n).getD 0)::acc else acc)
theorem zI {env:Env}:∀ {names:List (Str×NameKind)} {acc:List (Str×Addr)} {x:Str} {c:Addr},(qX env names acc).lookup x=some c →
  ((x,NameKind.free)∈names∧c=(env.cells.lookup x).getD 0)∨acc.lookup x=some c
 | [],_,_,_,h=>.inr h
 | (n,k)::r,acc,x,c,h=>by
  unfold qX at h
  rcases zI h with ⟨h1,h2⟩ | h1
  ·exact .inl ⟨List.mem_cons_of_mem _ h1,h2⟩
  ·by_cases hk:(k==NameKind.free)=true
   ·rw [if_pos hk,List.lookup_cons] at h1
    cases hx:x==n with
    | true =>
     rw [hx] at h1
     have e:x=n:=beq_iff_eq.mp hx
     have e2:k=.free:=beq_iff_eq.mp hk
     subst e e2
     exact .inl ⟨List.mem_cons_self,(Option.some.inj h1).symm⟩
    | false =>
     rw [hx] at h1
     exact .inr h1
   ·rw [if_neg hk] at h1
    exact .inr h1
theorem qaE {env:Env}:∀ {names:List (Str×NameKind)} {acc:List (Str×Addr)} {x:Str},(∃ c,acc.lookup x=some c)→∃ c,(qX env names acc).lookup x=some c
 | [],_,_,h=>h
 | (n,k)::r,acc,x,h=>by
  unfold qX
  apply qaE
  by_cases hk:(k==NameKind.free)=true
  ·rw [if_pos hk,List.lookup_cons]
   cases hx:x==n with
   | true=>exact ⟨_,rfl⟩
   | false=>exact h
  ·rw [if_neg hk]
   exact h
theorem zJ {env:Env}:∀ {names:List (Str×NameKind)} {acc:List (Str×Addr)} {x:Str},(x,NameKind.free)∈names→∃ c,(qX env names acc).lookup x=some c
 | [],_,_,h=>by cases h
 | (n,k)::r,acc,x,h=>by
  unfold qX
  rcases List.mem_cons.mp h with e | e
  ·cases e
   apply qaE
   rw [show (NameKind.free==NameKind.free)=true from rfl,if_pos rfl,List.lookup_cons,beq_self_eq_true]
   exact ⟨_,rfl⟩
  ·exact zJ e
theorem qaF {scope:Scope} {env:Env} (h:∀ n,(n,NameKind.free)∈scope.names→∃ c,env.cells.lookup n=some c):closureFor scope env=pure (qX env scope.names []):=by
 have key:∀ (names:List (Str×NameKind)) (acc:List (Str×Addr)),(∀ n,(n,NameKind.free)∈names→∃ c,env.cells.lookup n=some c) →
   (forIn names acc (fun (x:Str×NameKind) (r:List (Str×Addr))=>(if (x.2==NameKind.free)=true then (cellOf env x.1>>=fun c=>pure (ForInStep.yield ((x.1,c)::r))) else pure (ForInStep.yield r):Sem (ForInStep (List (Str×Addr))))))=(pure (qX env names acc):Sem (List (Str×Addr))):=by
  intro names
  induction names with
  | nil=>intro acc _;rfl
  | cons x r ih =>
   intro acc hn
   obtain ⟨n,k⟩:=x
   rw [List.forIn_cons]
   unfold qX
   by_cases hk:(k==NameKind.free)=true
   ·have e2:k=.free:=beq_iff_eq.mp hk
    subst e2
    obtain ⟨c,hc⟩:=hn n List.mem_cons_self
    have e3:cellOf env n=pure c:=by unfold cellOf;rw [hc]
    simp only [hk,if_true,e3,hc,Option.getD_some]
    exact ih _ fun m hm=>hn m (List.mem_cons_of_mem _ hm)
   ·simp only [hk,if_false]
    exact ih _ fun m hm=>hn m (List.mem_cons_of_mem _ hm)
 have e:=key scope.names [] h
 unfold closureFor
 exact Eq.trans (congrArg (fun m=>m>>=pure) e) rfl
@[reducible] def Cx.comp (X:Cx) (N:List Str) (scope:Scope) (C:Addr) (s0:Shared) (H0:Hp) (ex:List Addr):Cx where
 prog:=X.prog
 w:=X.w
 K:=X.K
 mg:=X.mg
 base:=X.base
 A:=X.A
 N:=N
 s₀:=s0
 H₀:=H0
 env:=compEnvC scope (qX X.env scope.names []) C X.env
 outer:=X.stack
 stack:=X.stack
 ex:=ex
 fn:=fun _=>false
 calm:=X.calm
 pn:=[]
 xe:=fun _ _=>False
structure CompOk (sc scope:Scope):Prop where
 kind:scope.kind=.function
 nocell:∀ y∈scope.names,y.2≠.cell
 loc:∀ y∈scope.names,y.2=.local→scope.names.lookup y.1=some .local
 free:∀ y∈scope.names,y.2=.free→sc.names.lookup y.1=some .cell∨sc.names.lookup y.1=some .free
 once:∀ y∈scope.names,y.2=.free→scope.names.lookup y.1=some .free
def qeO (sc scope:Scope):Bool:=decide (scope.kind=.function)&&scope.names.all fun y=>match y.2 with
 | .local=>scope.names.lookup y.1==some .local
 | .free=>(sc.names.lookup y.1==some .cell||sc.names.lookup y.1==some .free)&&scope.names.lookup y.1==some .free
 | .cell=>false
 | _=>true
theorem qc8 {sc scope:Scope} (h:qeO sc scope=true):CompOk sc scope:=by
 unfold qeO at h
 rw [Bool.and_eq_true] at h
 have ha:=List.all_eq_true.mp h.2
 refine ⟨of_decide_eq_true h.1,fun y hy e=>?_,fun y hy e=>?_,fun y hy e=>?_,fun y hy e=>?_⟩
 ·have:=ha y hy
  rw [e] at this
  cases this
 ·have:=ha y hy
  rw [e] at this
  exact beq_iff_eq.mp this
 ·have:=ha y hy
  rw [e,Bool.and_eq_true,Bool.or_eq_true] at this
  exact this.1.imp beq_iff_eq.mp beq_iff_eq.mp
 ·have:=ha y hy
  rw [e,Bool.and_eq_true] at this
  exact beq_iff_eq.mp this.2
def qgv (nl:Nat) (ixs:List Nat) (N XN:List Str) (names:List (Str×NameKind)):Bool:=(List.range ixs.length).all fun k=>match ixs[k]?,N[nl + k]? with
 | some j,some x=>XN[j]?==some x&&names.any fun y=>y.1==x&&y.2==.free
 | _,_=>true
theorem qd8 {nl:Nat} {ixs:List Nat} {N XN:List Str} {names:List (Str×NameKind)} (h:qgv nl ixs N XN names=true) (k j:Nat) (x:Str) (h1:ixs[k]?=some j) (h2:N[nl + k]?=some x):XN[j]?=some x∧(x,NameKind.free)∈names:=by
 have hk:k < ixs.length:=(List.getElem?_eq_some_iff.mp h1).1
 have:=List.all_eq_true.mp h k (List.mem_range.mpr hk)
 rw [h1,h2] at this
 simp only [Bool.and_eq_true] at this
 refine ⟨beq_iff_eq.mp this.1,?_⟩
 obtain ⟨⟨n,kd⟩,hy,e⟩:=List.any_eq_true.mp this.2
 rw [Bool.and_eq_true] at e
 have e1:n=x:=beq_iff_eq.mp e.1
 have e2:kd=.free:=beq_iff_eq.mp e.2
 subst e1 e2
 exact hy
def qdP (nl:Nat) (ixs:List Nat) (σ:St):St:=List.replicate nl none++ixs.map fun j=>(σ[j]?).getD none
theorem capS_len (nl:Nat) (ixs:List Nat) (σ:St):(qdP nl ixs σ).length=nl + ixs.length:=by
 unfold qdP;rw [List.length_append,List.length_replicate,List.length_map]
theorem qc9 {nl:Nat} {ixs:List Nat} {σ:St} {i:Nat} {v:V} (h:(qdP nl ixs σ)[i]?=some (some v)):nl≤i∧∃ j,ixs[i - nl]?=some j∧σ[j]?=some (some v):=by
 unfold qdP at h
 by_cases hi:i < nl
 ·rw [List.getElem?_append_left (by rw [List.length_replicate];exact hi),List.getElem?_replicate] at h
  split at h<;>cases h
 ·rw [List.getElem?_append_right (by rw [List.length_replicate];omega),List.length_replicate,List.getElem?_map] at h
  refine ⟨by omega,?_⟩
  cases e:ixs[i - nl]? with
  | none=>rw [e] at h;cases h
  | some j =>
   rw [e] at h
   have h':(σ[j]?).getD none=some v:=Option.some.inj h
   cases q:σ[j]? with
   | none=>rw [q] at h';cases h'
   | some u =>
    rw [q] at h'
    exact ⟨j,rfl,by rw [q];exact congrArg some h'⟩
def qeP (env:Env) (y:Str×NameKind):Str×NameKind:=if (y.2==NameKind.free&&env.scope.kind==.function&&env.kindOf y.1==some .cell)=true then (y.1,NameKind.cell) else (y.1,y.2)
theorem relF_fst (env:Env) (y:Str×NameKind):(qeP env y).1=y.1:=by unfold qeP;split<;>rfl
theorem relF_snd (env:Env) (y:Str×NameKind):(qeP env y).2=y.2∨((qeP env y).2=.cell∧y.2=.free):=by
 unfold qeP
 split
 ·rename_i h
  rw [Bool.and_eq_true,Bool.and_eq_true] at h
  exact .inr ⟨rfl,beq_iff_eq.mp h.1.1⟩
 ·exact .inl rfl
theorem zq {env:Env}:∀ {names:List (Str×NameKind)} {x:Str} {k:NameKind},(names.map (qeP env)).lookup x=some k→∃ k0,names.lookup x=some k0∧(x,k0)∈names∧(k=k0∨(k=.cell∧k0=.free))
 | [],_,_,h=>by cases h
 | (n,k1)::r,x,k,h=>by
  rw [List.map_cons,show qeP env (n,k1)=((qeP env (n,k1)).1,(qeP env (n,k1)).2) from rfl,List.lookup_cons,relF_fst] at h
  rw [List.lookup_cons]
  cases hx:x==n with
  | true =>
   have e:x=n:=beq_iff_eq.mp hx
   subst e
   have hx':(x==(x,k1).1)=true:=hx
   rw [hx'] at h
   have h':=Option.some.inj h
   refine ⟨k1,rfl,List.mem_cons_self,?_⟩
   rcases relF_snd env (x,k1) with z | ⟨z1,z2⟩
   ·exact .inl (h'.symm.trans z)
   ·exact .inr ⟨h'.symm.trans z1,z2⟩
  | false =>
   have hx':(x==(n,k1).1)=false:=hx
   rw [hx'] at h
   obtain ⟨k0,e1,e2,e3⟩:=zq h
   exact ⟨k0,e1,List.mem_cons_of_mem _ e2,e3⟩
section
variable {X:Cx} {pins:List (Addr×Obj)} {σ:St} {H:Hp} {s:Shared}
theorem comp_free_of {scope:Scope} {x:Str} (O:CompOk X.env.scope scope) {C:Addr} {cl:List (Str×Addr)} (h:(compEnvC scope cl C X.env).kindOf x=some .cell∨(compEnvC scope cl C X.env).kindOf x=some .free):(x,NameKind.free)∈scope.names:=by
 rcases h with h | h
 ·obtain ⟨k0,_,hm,e | ⟨_,e⟩⟩:=zq (env:=X.env) (names:=scope.names) h
  ·exact absurd e.symm (O.nocell _ hm)
  ·rw [e] at hm
   exact hm
 ·obtain ⟨k0,_,hm,e | ⟨e,_⟩⟩:=zq (env:=X.env) (names:=scope.names) h
  ·rw [← e] at hm
   exact hm
  ·cases e
theorem Inv.comp {N:List Str} {scope:Scope} {nl:Nat} {ixs:List Nat} {C D:Addr} {fp:List Addr} {ob:Obj} {h1:Heap} {tk:Nat} (I:Inv X pins σ H s) (O:CompOk X.env.scope scope)
  (hN:N.length=nl + ixs.length) (hcap:∀ (k j:Nat) (x:Str),ixs[k]?=some j→N[nl + k]?=some x→X.N[j]?=some x∧(x,NameKind.free)∈scope.names)
  (hf:∀ b∈fp,qcZ X pins H b) (hfl:∀ b∈fp,b < s.heap.objs.size) (hC:s.heap.objs.size≤C) (hD:s.heap.objs.size≤D) (hDC:D≠C) (hns:h1.Ns C fun _=>none) (k:∀ b o,s.heap.get? b=some o→h1.get? b=some o)
  (hob:h1.get? D=some ob) (hcl:∀ v,ob.data≠.cell v):Inv (X.comp N scope C s H fp) [(D,ob)] (qdP nl ixs σ) H { s with heap:=h1,toks:=tk }:=by
 have cells:∀ x c,(qX X.env scope.names []).lookup x=some c→X.env.cells.lookup x=some c∧(x,NameKind.free)∈scope.names:=fun x c h=>by
  rcases zI h with ⟨h1,h2⟩ | h1
  ·obtain ⟨c',hc'⟩:=I.ok.has x (by
    rcases O.free _ h1 rfl with z | z
    ·exact .inl z
    ·exact .inr z)
   rw [hc'] at h2
   exact ⟨by rw [hc',h2];rfl,h1⟩
  ·cases h1
 refine ⟨⟨I.ok.mod,O.kind,I.ok.glob,I.ok.blt,hC,fun x y c h1 h2=>I.ok.inj x y c (cells x c h1).1 (cells y c h2).1,fun x hx=>zJ (comp_free_of O hx),fun x c z _=>(by cases z),I.ok.hd,I.ok.frames,.inl rfl,
   fun b hb=>⟨Nat.ne_of_lt (Nat.lt_of_lt_of_le (hfl b hb) hC),fun x c e=>(hf b hb).2.2.2.2.1 x c (cells x c e).1⟩,I.bs,Nat.le_trans I.ok.bsz I.sz,fun b o e hb=>?_,fun b hb z=>?_,I.stack,I.stkFree⟩,
  rfl,I.bare,Un.kept k,⟨_,hns,fun i x v e1 e2 e3=>?_⟩,fun x c e=>?_,I.hok.fresh hC,fun x c e=>I.freeC x c (cells x c e).1,fun p hp=>?_,I.hok.kept k,?_⟩
 ·rcases (hf b hb).2.2.2.1 with z | z
  ·exact I.ok.noex b o e z
  ·have:=(I.ok.bs b o e).1
   exact absurd (Nat.lt_of_lt_of_le (Heap.lt_size this) z) (Nat.lt_irrefl _)
 ·rcases List.mem_cons.mp (I.stkSub b z) with e | e
  ·exact (hf b hb).2.1 e
  ·exact (hf b hb).2.2.1 e
 ·obtain ⟨hi,j,hj,hv⟩:=qc9 e2
  obtain ⟨hx,hfr⟩:=hcap (i - nl) j x hj (by rw [Nat.add_sub_cancel' hi];exact e1)
  obtain ⟨m,hn,hl⟩:=I.loc
  have hk:=O.free _ hfr rfl
  obtain ⟨u,ru,lk⟩:=hl j x v hx hv (by
   rcases hk with z | z
   ·exact .inr (.inl z)
   ·exact .inr (.inr z))
  refine ⟨u,ru,?_⟩
  rcases lk with ⟨hk2,_⟩ | ⟨_,c,hc,hcell⟩
  ·have hk2':X.env.scope.names.lookup x=some .local:=hk2
   rcases hk with z | z<;>· rw [z] at hk2';cases hk2'
  ·obtain ⟨c',hc'⟩:=zJ (env:=X.env) (acc:=[]) hfr
   have e:c'=c:=by
    have:=(cells x c' hc').1
    rw [hc] at this
    exact (Option.some.inj this).symm
   subst e
   refine .inr ⟨?_,c',hc',?_⟩
   ·rcases e3 with z | z | z
    ·obtain ⟨k0,z3,_,e | ⟨e,_⟩⟩:=zq (env:=X.env) (names:=scope.names) z
     ·rw [O.once _ hfr rfl] at z3
      cases z3
      cases e
     ·cases e
    ·exact .inl z
    ·exact .inr z
   ·obtain ⟨o,ho,hd⟩:=hcell
    exact ⟨o,k _ _ ho,hd⟩
 ·obtain ⟨v,o,ho,hd⟩:=I.cell x c (cells x c e).1
  exact ⟨v,o,k _ _ ho,hd⟩
 ·have e:p=(D,ob):=by simpa using hp
  subst e
  refine ⟨hob,I.hok.fresh hD,hDC,fun z=>?_,hcl⟩
  rcases List.mem_cons.mp (I.stkSub D z) with e | e
  ·exact absurd (show X.env.locals < D from Nat.lt_of_lt_of_le I.lt hD) (by rw [e];exact Nat.lt_irrefl _)
  ·exact I.nofs hD e
 ·show (qdP nl ixs σ).length=N.length
  rw [capS_len,hN]
theorem Inv.compBack {N:List Str} {scope:Scope} {C D:Addr} {fp:List Addr} {its:List Value} {n:Nat} {s':Shared} {H':Hp} {σ':St} {ys:List V} (I:Inv X pins σ H s) (hf:∀ b∈fp,qcZ X pins H b) (hC:s.heap.objs.size≤C) (hD:s.heap.objs.size≤D)
  (J:Inv (X.comp N scope C s H fp) [(D,{ cls:=.type "list",data:=.seq its.toArray n })] σ' H' s') (hv:Vals ys its) (hz:ys.length≤sizeLine):Inv X pins σ (upd H' D (.lst ys)) s':=by
 obtain ⟨pD,nD,neD,_,_⟩:=J.pin (D,{ cls:=.type "list",data:=.seq its.toArray n }) (List.mem_append_right _ (List.mem_singleton.mpr rfl))
 have ltD:∀ b o,s.heap.get? b=some o→b≠D:=fun b o e=>Nat.ne_of_lt (Nat.lt_of_lt_of_le (Heap.lt_size e) hD)
 have J0:=J.base
 refine I.call' (ch:=fp) J.os ⟨J0.keep,J0.slot,fun b o e n hx=>?_,J0.there,fun b xs e=>?_,fun b o u e=>?_,fun b ps e=>?_⟩ (fun b u e=>?_) J.bare fun b hb=>⟨(hf b hb).2.2.2.1,(hf b hb).2.1,(hf b hb).2.2.2.2.1,(hf b hb).2.2.2.2.2⟩
 ·rw [qr (ltD b o e)]
  exact J0.free b o e n hx
 ·have q:=J0.tups b xs e
  rw [qr (qw q nD)]
  exact q
 ·have q:=J0.frzs b o u e
  rw [qr (qw q nD)]
  exact q
 ·obtain ⟨more,q⟩:=J0.tbls b ps e
  exact ⟨more,by rw [qr (qw q nD)];exact q⟩
 ·by_cases hb:b=D
  ·subst hb
   rw [qc] at e
   cases e
   exact ⟨hz,its,n,hv,pD⟩
  ·rw [qr hb] at e
   exact (J.hok b u e).stay (fun c v _ q=>q) (fun c q=>by rw [qr (qw q nD)];exact q) fun c xs q=>by rw [qr (qw q nD)];exact q
end
def qgU:TT:=fun _ H Q=>Q true H
def qfx (wi:TI) (g:TG) (tc:TT) (te:TE) (nl:Nat) (ixs:List Nat):TE:=fun σ H Q=>wi σ H fun J H1 =>
 ∃ W:Nat→Nat→List V→Hp→Prop,(∃ m,W 0 m [] H1)∧∀ i m ys H,W i m ys H →
  (J.stop i H∧ys.length≤sizeLine∧∀ p,H p=none→Q (.ref p) (upd H p (.lst ys))) ∨
  (J.go i H∧∃ M:List V→Hp→Prop,(∀ ys' H',M ys' H'→∃ m',m' < m∧W (i + 1) m' ys' H')∧∀ x H',J.yld i H x H'→g x (qdP nl ixs σ) H' fun σ2 H2=>tc σ2 H2 fun b H3 =>
   if b=true then te σ2 H3 fun v H4=>ys.length < sizeLine∧M (ys++[v]) H4 else M ys H3)
def qeQ (nl:Nat) (g:TG):Prop:=∀ x σ H Q,g x σ H Q→g x σ H fun σ2 H2=>Q σ2 H2∧σ2.length=σ.length∧∀ i,nl≤i→σ2[i]?=σ[i]?
theorem je {nl i:Nat} (h:i < nl:=by decide):qeQ nl (qcJ i):=fun x σ H Q q=>⟨q,List.length_set ..,fun j hj=>List.getElem?_set_ne (by omega)⟩
def qfT (X:Cx) (ifs:List Expr) (tc:TT):Prop:=
 ∀ (pins:List (Addr×Obj)) (s:Shared) (σ:St) (H:Hp) (Q:Bool→Hp→Prop),Inv X pins σ H s→tc σ H Q →
  wpAny (model X.prog X.w) X.A (forIn ifs true fun c r=>if r=true then do let ok ← isTrue c X.env (eval c X.env);pure (ForInStep.yield ok) else pure (ForInStep.yield r)) (TP X pins σ Q) X.xe s
theorem zK {X:Cx}:qfT X [] qgU:=fun pins s σ H Q I h=>wpAny_tests_nil ⟨H,I,h⟩
theorem jx {X:Cx} {c:Expr} {tc:TT} (h:PT X c tc):qfT X [c] tc:=fun pins s σ H Q I q=>wpAny_tests_one (h pins s σ H Q I q)
section
variable {X:Cx} {pins:List (Addr×Obj)} {σ:St} {H:Hp} {s:Shared}
theorem qbD {N:List Str} {scope:Scope} {nl:Nat} {ixs:List Nat} {fp:List Addr} {it:Addr} {tn:Nat→Heap→Prop} {J:It} {tg elt iter:Expr} {ifs:List Expr} {pos:Pos} {g:TG} {tc:TT} {te:TE} {Q:V→Hp→Prop} {E:Value→Shared→Prop}
  {RR:Value→Addr→Result→Shared→Prop} (I:Inv X pins σ H s) (hc:X.calm=true) (O:CompOk X.env.scope scope)
  (hN:N.length=nl + ixs.length) (hcap:∀ (k j:Nat) (x:Str),ixs[k]?=some j→N[nl + k]?=some x→X.N[j]?=some x∧(x,NameKind.free)∈scope.names)
  (T:Turn X.prog X.w X.K tg J fp it tn) (st:tn 0 s.heap) (hf:∀ b∈fp,qcZ X pins H b)
  (hg:∀ C s0 H0 ex,PG (X.comp N scope C s0 H0 ex) tg g) (gk:qeQ nl g) (hi:∀ C s0 H0 ex,qfT (X.comp N scope C s0 H0 ex) ifs tc) (he:∀ C s0 H0 ex,PE (X.comp N scope C s0 H0 ex) elt te)
  (h:∃ W:Nat→Nat→List V→Hp→Prop,(∃ m,W 0 m [] H)∧∀ i m ys H,W i m ys H →
   (J.stop i H∧ys.length≤sizeLine∧∀ p,H p=none→Q (.ref p) (upd H p (.lst ys))) ∨
   (J.go i H∧∃ M:List V→Hp→Prop,(∀ ys' H',M ys' H'→∃ m',m' < m∧W (i + 1) m' ys' H')∧∀ x H',J.yld i H x H'→g x (qdP nl ixs σ) H' fun σ2 H2=>tc σ2 H2 fun b H3 =>
    if b=true then te σ2 H3 fun v H4=>ys.length < sizeLine∧M (ys++[v]) H4 else M ys H3))
  (hRR:∀ (D C:Addr) (s':Shared) (H':Hp) (σ':St) (ys:List V) (its:List Value) (n:Nat),s.heap.objs.size≤C→s.heap.objs.size≤D→Inv (X.comp N scope C s H fp) [(D,{ cls:=.type "list",data:=.seq its.toArray n })] σ' H' s'→Vals ys its→ys.length≤sizeLine →
   (∀ p,H' p=none→Q (.ref p) (upd H' p (.lst ys)))→RR (.ref D) C (.ok .next) s') :
  wpAny (model X.prog X.w) X.A (newList []) (fun acc s3=>wpAny (model X.prog X.w) X.A (newFunctionEnv scope X.env.globals (qX X.env scope.names []) [] X.env.qual none .none (some X.env)) (fun cenv s4 =>
   codeAny (model X.prog X.w) X.A (.compStart (.ListComp elt [⟨tg,iter,ifs,0⟩] scope pos) 0 (.ref it) acc { cenv with scope:=relabel scope X.env }) (RR acc cenv.locals) s4) E s3) E s:=by
 obtain ⟨W,⟨m0,w0⟩,turn⟩:=h
 refine wpAny_newObj_type (wpAny_newFunctionEnv O.nocell (by intro y hy;simp at hy) (fun h1 hns1 hsb1=>?_) O.kind)
 dsimp only at hns1 hsb1 ⊢
 generalize hH2:s.heap.push { cls:=.type "list",dict:=none,data:=.seq ([]:List Value).toArray }=H2 at hns1 hsb1 ⊢
 have hC:H2.objs.size=s.heap.objs.size + 1:=by rw [← hH2,Heap.size_push]
 have hDC:s.heap.objs.size≠H2.objs.size:=by rw [hC];exact Nat.ne_of_lt (Nat.lt_succ_self _)
 have hCle:s.heap.objs.size≤H2.objs.size:=by rw [hC];exact Nat.le_succ _
 have below:∀ b,b < s.heap.objs.size→b≠H2.objs.size∧b≠s.heap.objs.size:=fun b hb=>⟨by rw [hC];exact Nat.ne_of_lt (Nat.lt_succ_of_lt hb),Nat.ne_of_lt hb⟩
 have old:∀ b o,s.heap.get? b=some o→h1.get? b=some o:=fun b o e=>hsb1.extBut b o (below b (Heap.lt_size e)).1 (Heap.get?_push_of_some _ (hH2 ▸ Heap.get?_push_of_some _ e))
 have hacc:h1.get? s.heap.objs.size=some { cls:=.type "list",data:=.seq ([]:List Value).toArray }:=hsb1.extBut _ _ hDC (Heap.get?_push_of_some _ (hH2 ▸ Heap.get?_push_size _ rfl))
 have hfl:∀ b∈fp,b < s.heap.objs.size:=fun b hb=>by
  obtain ⟨o,ho,_⟩:=T.obj 0 _ st b hb
  exact Heap.lt_size ho
 have loop:∀ s3:Shared,s3={ s with heap:=h1,toks:=s.toks + ([]:List (Str×Value)).length } →
   codeAny (model X.prog X.w) X.A (.compLoop (.ListComp elt [⟨tg,iter,ifs,0⟩] scope pos) 0 (.ref it) (.ref s.heap.objs.size) (compEnvC scope (qX X.env scope.names []) H2.objs.size X.env)) (RR (.ref s.heap.objs.size) H2.objs.size) s3:=by
  rintro s3 rfl
  have I0:=I.comp (N:=N) (C:=H2.objs.size) (D:=s.heap.objs.size) (h1:=h1) (tk:=s.toks + ([]:List (Str×Value)).length) O hN hcap hf hfl hCle (Nat.le_refl _) hDC hns1 old hacc (fun v z=>by cases z)
  have stat:∀ {H':Hp} {σ':St} {s':Shared} {pl:List (Addr×Obj)},Inv (X.comp N scope H2.objs.size s H fp) pl σ' H' s'→(∀ p∈pl,p.1=s.heap.objs.size)→(∀ b∈fp,H' b=none)→∀ b∈fp,qcZ (X.comp N scope H2.objs.size s H fp) pl H' b:=fun {H' σ' s' pl} J hpl hn b hb =>
   ⟨hn b hb,(below b (hfl b hb)).1,fun z=>(by
     rcases List.mem_cons.mp (I.stkSub b z) with e | e
     ·exact (hf b hb).2.1 e
     ·exact (hf b hb).2.2.1 e),.inl hb,J.ok.exf b hb |>.2,fun p hp z=>by
    have e:=hpl p (by simpa using hp)
    rw [e] at z
    exact (below b (hfl b hb)).2 z.symm⟩
  refine compLoop_own (fun k s'=>∃ i H' ys its n,Inv (X.comp N scope H2.objs.size s H fp) [(s.heap.objs.size,{ cls:=.type "list",data:=.seq its.toArray n })] (qdP nl ixs σ) H' s'∧tn i s'.heap∧(∀ b∈fp,H' b=none)∧Vals ys its∧W i k ys H') ?_ m0
   ⟨0,H,[],[],0,I0,T.keep _ _ _ st fun b _ o e=>old b o e,fun b hb=>(hf b hb).1,.nil,w0⟩
  rintro k s' ⟨i,H',ys,its,n,J1,st1,fr1,v1,w1⟩
  have one:∀ p∈[((s.heap.objs.size,{ cls:=.type "list",data:=.seq its.toArray n }):Addr×Obj)],p.1=s.heap.objs.size:=fun p hp=>by
   have e:p=_:=List.mem_singleton.mp hp
   rw [e]
  rcases turn i k ys H' w1 with ⟨stop,hz,q⟩ | ⟨go,M,hM,step⟩
  ·refine thn (T.done (X.comp N scope H2.objs.size s H fp) rfl rfl rfl hc i _ s' _ H' _ J1 (stat J1 one fr1) st1 stop) fun r s4 ⟨hr,J4⟩=>?_
   subst hr
   exact hRR _ _ s4 H' _ ys its n hCle (Nat.le_refl _) J4 v1 hz q
  ·refine thn (T.item (X.comp N scope H2.objs.size s H fp) rfl rfl rfl hc i _ s' _ H' _ J1 (stat J1 one fr1) st1 go) fun r s4 ⟨u,hr,h4⟩=>?_
   subst hr
   refine thn h4 fun _ s5 ⟨x,H5,J5,r5,y5,st5,fr5⟩=>?_
   have J5':=J5.pinned (stat J5 one fr5) (T.obj _ _ st5)
   refine thn (hg _ _ _ _ _ s5 _ H5 x u _ J5' r5 (gk _ _ _ _ (step x H5 y5))) fun _ s6 ⟨σ6,H6,J6,q6,l6,k6⟩=>?_
   refine thn (hi _ _ _ _ _ s6 σ6 H6 _ J6 q6) fun ok s7 ⟨H7,J7,q7⟩=>?_
   have again:∀ {s8:Shared} {H8:Hp} {ys':List V} {k':Nat},Inv (X.comp N scope H2.objs.size s H fp) ([((s.heap.objs.size,{ cls:=.type "list",data:=.seq its.toArray n }):Addr×Obj)]++qb7 fp s5.heap) σ6 H8 s8 →
     (∀ b o,b≠s.heap.objs.size→s8.heap.get? b=some o→s8.heap.get? b=some o)→tn (i + 1) s8.heap∧∀ b∈fp,H8 b=none:=fun {s8 H8 ys' k'} J8 _=>by
    refine ⟨T.keep _ _ _ st5 fun b hb o e=>(J8.pin (b,o) (List.mem_append_right _ (List.mem_append_right _ (qaa hb e)))).1,fun b hb=>?_⟩
    obtain ⟨o,e,d⟩:=T.obj _ _ st5 b hb
    exact (J8.pin (b,o) (List.mem_append_right _ (List.mem_append_right _ (qaa hb e)))).2.1
   have wk:∀ (j:Nat) v,(qdP nl ixs σ)[j]?=some (some v)→σ6[j]?=some (some v):=fun j v e=>by
    obtain ⟨hj,_⟩:=qc9 e
    rw [k6 j hj]
    exact e
   cases ok with
   | false =>
    rw [if_neg Bool.false_ne_true] at q7 ⊢
    obtain ⟨m',hm,w7⟩:=hM _ _ q7
    obtain ⟨st7,fr7⟩:=again (ys':=ys) (k':=0) J7 (fun _ _ _ e=>e)
    exact ⟨m',hm,i + 1,H7,ys,its,n,J7.unpinned.weak l6.symm wk,st7,fr7,v1,w7⟩
   | true =>
    rw [if_pos rfl] at q7 ⊢
    refine thn (he _ _ _ _ _ s7 σ6 H7 _ J7 q7) fun y s8 ⟨v,H8,J8,r8,hlt,mq⟩=>?_
    obtain ⟨m',hm,w8⟩:=hM _ _ mq
    obtain ⟨st8,fr8⟩:=again (ys':=ys) (k':=0) J8 (fun _ _ _ e=>e)
    have J9:=J8.unpinned
    obtain ⟨pD,nD,neD,nfD,_⟩:=J9.pin (s.heap.objs.size,{ cls:=.type "list",data:=.seq its.toArray n }) (List.mem_append_right _ (List.mem_singleton.mpr rfl))
    refine wpAny_list_append_plain (hsz:=by rw [List.size_toArray,← v1.length];omega) ⟨n,pD⟩ fun h9 hl9 hs9=>?_
    obtain ⟨n9,hl9⟩:=hl9
    have e9:(its.toArray.push y)=(its++[y]).toArray:=by simp
    rw [e9] at hl9
    have Ja:Inv (X.comp N scope H2.objs.size s H fp) [] (qdP nl ixs σ) H8 { s8 with heap:=h9,toks:=s8.toks }:=
     ((J9.pins_of (pins':=[]) fun p hp=>absurd hp (by simp)).turned (it:=s.heap.objs.size) (h':=h9) (t':=s8.toks) (fun b o hb e=>(hs9.2 b hb).trans e) nD neD (.inr (Nat.le_refl _))
      (fun x c e z=>by
       obtain ⟨c0,o0,h0,_⟩:=I0.cell x c e
       have:=zI e
       rcases this with ⟨hfr,hcc⟩ | hcc
       ·obtain ⟨c',hc'⟩:=I.ok.has x (by
         rcases O.free _ hfr rfl with q | q
         ·exact .inl q
         ·exact .inr q)
        rw [hc'] at hcc
        have hcc':c=c':=hcc
        obtain ⟨_,q⟩:=I.cell x c' hc'
        rw [← hcc',z] at q
        exact absurd q.lt (Nat.lt_irrefl _)
       ·cases hcc) (fun p hp=>absurd hp (by simp))).weak l6.symm wk
    refine ⟨m',hm,i + 1,H8,ys++[v],its++[y],n9,Ja.pins_of fun p hp=>?_,?_,fr8,v1.append (.cons r8 .nil),w8⟩
    ·have e:p=_:=List.mem_singleton.mp hp
     subst e
     exact ⟨hl9,nD,neD,nfD,fun v z=>by cases z⟩
    ·exact T.keep _ _ _ st8 fun b hb o e=>(hs9.2 b (below b (hfl b hb)).2).trans e
 exact codeAny_compStart_list (loop _ rfl) (T.self _ 0 _ _ _ (T.keep _ _ _ st fun b _ o e=>old b o e) (loop _ rfl))
end
section
variable {X:Cx} {tg elt iter:Expr} {ifs:List Expr} {scope:Scope} {pos:Pos} {N:List Str} {nl:Nat} {ixs:List Nat} {wi:TI} {g:TG} {tc:TT} {te:TE}
theorem jW {sc:Scope} {XN:List Str} (N:List Str) (nl:Nat) (ixs:List Nat) (hsc:X.env.scope=sc) (hXN:X.N=XN) (hc:X.calm=true) (O':qeO sc scope=true) (hN:N.length=nl + ixs.length) (hcap':qgv nl ixs N XN scope.names=true)
  (hi:PI X tg iter wi) (hg:∀ C s0 H0 ex,PG (X.comp N scope C s0 H0 ex) tg g) (gk:qeQ nl g) (ht:∀ C s0 H0 ex,qfT (X.comp N scope C s0 H0 ex) ifs tc) (he:∀ C s0 H0 ex,PE (X.comp N scope C s0 H0 ex) elt te)
  (hs:∀ x,foldedSetIterable iter X.env x=pure x:=by intro _;rfl):PE X (.ListComp elt [⟨tg,iter,ifs,0⟩] scope pos) (qfx wi g tc te nl ixs):=by
 intro pins s σ H Q I h
 subst hsc hXN
 have O:=qc8 O'
 have hcap:=qd8 hcap'
 rw [eval_ListComp]
 have hcl:=qaF (scope:=scope) (env:=X.env) fun n hn=>I.ok.has n (by
  rcases O.free _ hn rfl with z | z
  ·exact .inl z
  ·exact .inr z)
 refine wpAny_comprehension_free (use:=none) rfl hs hcl O.kind O.loc (thn (hi pins s σ H _ I h) fun v s1 h1=>thn h1 fun itv s2 h2=>?_)
 obtain ⟨it,fp,tn,J,H2,e,I2,T,st2,f2,hW⟩:=h2
 subst e
 refine qbD (Q:=Q) (RR:=fun acc C=>compPost (model X.prog X.w) X.A X.xe none (EP X pins σ Q) acc C) I2 hc O hN hcap T st2 f2 hg gk ht he hW ?_
 intro D C s' H' σ' ys its n hC hD J' hv hz q
 obtain ⟨m,hn,_⟩:=id J'.loc
 have B:=I2.compBack f2 hC hD J' hv hz
 obtain ⟨_,nD,neD,_,_⟩:=J'.pin (D,{ cls:=.type "list",data:=.seq its.toArray n }) (List.mem_append_right _ (List.mem_singleton.mpr rfl))
 refine ⟨m,hn,fun h' sb=>⟨.ref D,_,?_,rfl,q D nD⟩⟩
 refine B.turned (it:=C) (h':=h') (t':=s'.toks) (fun b o hb e=>(sb.2 b hb).trans e) ((qr (H:=H') (a:=D) (b:=C) (o:=.lst ys) (Ne.symm neD)).trans J'.free) (Nat.ne_of_gt (Nat.lt_of_lt_of_le I2.lt hC)) (.inr (Nat.le_trans I2.sz hC)) (fun x c e z=>?_) (fun p hp z=>?_)
 ·obtain ⟨_,q⟩:=I2.cell x c e
  exact absurd (Nat.lt_of_lt_of_le q.lt (by rw [z];exact hC)) (Nat.lt_irrefl _)
 ·exact absurd (Nat.lt_of_lt_of_le (Heap.lt_size (I2.pin p hp).1) (by rw [z];exact hC)) (Nat.lt_irrefl _)
theorem qaw {i:Nat} {y:Str} {py spos:Pos} {sc:Scope} {XN:List Str} (N:List Str) (nl:Nat) (ixs:List Nat) (hsc:X.env.scope=sc) (hXN':X.N=XN) (hc:X.calm=true) (O':qeO sc scope=true) (hN:N.length=nl + ixs.length) (hcap':qgv nl ixs N XN scope.names=true)
  (hXN:X.N.Nodup) (hi':X.N[i]?=some y) (hy:X.env.scope.names.lookup y=some .local)
  (hi:PI X tg iter wi) (hg:∀ C s0 H0 ex,PG (X.comp N scope C s0 H0 ex) tg g) (gk:qeQ nl g) (ht:∀ C s0 H0 ex,qfT (X.comp N scope C s0 H0 ex) ifs tc) (he:∀ C s0 H0 ex,PE (X.comp N scope C s0 H0 ex) elt te)
  (hsw:swapsWith (.ListComp elt [⟨tg,iter,ifs,0⟩] scope pos) (some (.Name y py)) spos.line X.env=pure true:=by rfl)
  (hs:∀ x,foldedSetIterable iter X.env x=pure x:=by intro _;rfl):PS X (.Assign [.Name y py] (.ListComp elt [⟨tg,iter,ifs,0⟩] scope pos) spos) (qfI (qfx wi g tc te nl ixs) (qcJ i)):=by
 intro pins s σ H D0 I h
 subst hsc hXN'
 have O:=qc8 O'
 have hcap:=qd8 hcap'
 have hcl:=qaF (scope:=scope) (env:=X.env) fun n hn=>I.ok.has n (by
  rcases O.free _ hn rfl with z | z
  ·exact .inl z
  ·exact .inr z)
 rw [exec_Assign_Name_used _ _ _ _ hsw]
 refine wpAny_bind (wpAny_standAt (wpAny_bind ?_))
 show wpAny _ X.A (do let _ ← comprehension (.ListComp elt [⟨tg,iter,ifs,0⟩] scope pos) scope X.env _ (newList []) false (eval iter X.env) (some (assign (.Name y py) X.env))) _ _ s
 refine wpAny_bind (wpAny_mono (wpAny_comprehension_free (use:=some (assign (.Name y py) X.env)) (Q:=fun _ s'=>SP X pins D0 .next s') rfl hs hcl O.kind O.loc
  (thn (hi pins s σ H _ I h) fun v s1 h1=>thn h1 fun itv s2 h2=>?_)) (fun _ s' hq=>wpAny_pure (wpAny_pure hq)) fun _ _ e=>e)
 obtain ⟨it,fp,tn,J,H2,e,I2,T,st2,f2,hW⟩:=h2
 subst e
 refine qbD (Q:=fun v H'=>qcJ i v σ H' D0.nx) (RR:=fun acc C=>compPost (model X.prog X.w) X.A X.xe (some (assign (.Name y py) X.env)) (fun _ s'=>SP X pins D0 .next s') acc C) I2 hc O hN hcap T st2 f2 hg gk ht he hW ?_
 intro D C s' H' σ' ys its n hC hD J' hv hz q
 obtain ⟨m,hn,_⟩:=id J'.loc
 have B:=I2.compBack f2 hC hD J' hv hz
 obtain ⟨_,nD,neD,_,_⟩:=J'.pin (D,{ cls:=.type "list",data:=.seq its.toArray n }) (List.mem_append_right _ (List.mem_singleton.mpr rfl))
 show wpAny _ X.A (assign (.Name y py) X.env (.ref D)) _ _ _
 refine wpAny_assign_Name (qb6 (i:=i) (x:=y) (v:=.ref D) B hXN hi' (.inl hy) rfl (fun s'' B' hsb=>?_) (.inr hy))
 obtain ⟨a,sa,ha⟩:=hsb
 have hCa:C≠a:=by
  rintro rfl
  rcases ha with z | z
  ·exact absurd (show X.env.locals < C from Nat.lt_of_lt_of_le I2.lt hC) (by rw [z];exact Nat.lt_irrefl _)
  ·obtain ⟨_,q⟩:=I2.cell y C z
   exact absurd (Nat.lt_of_lt_of_le q.lt hC) (Nat.lt_irrefl _)
 refine ⟨m,hn.sameBut sa hCa,fun h' sb=>⟨_,_,?_,q D nD⟩⟩
 refine B'.turned (it:=C) (h':=h') (t':=s''.toks) (fun b o hb e=>(sb.2 b hb).trans e) ((qr (H:=H') (a:=D) (b:=C) (o:=.lst ys) (Ne.symm neD)).trans J'.free) (Nat.ne_of_gt (Nat.lt_of_lt_of_le I2.lt hC)) (.inr (Nat.le_trans I2.sz hC)) (fun x c e z=>?_) (fun p hp z=>?_)
 ·obtain ⟨_,q⟩:=I2.cell x c e
  exact absurd (Nat.lt_of_lt_of_le q.lt (by rw [z];exact hC)) (Nat.lt_irrefl _)
 ·exact absurd (Nat.lt_of_lt_of_le (Heap.lt_size (I2.pin p hp).1) (by rw [z];exact hC)) (Nat.lt_irrefl _)
end
end L2
namespace L2
open PySem PySem.Spec PyProof.Rows
def Its (x:Str):It:=⟨fun i _=>i < x.cps.size,fun i H v H'=>H'=H∧∃ c,x.cps[i]?=some c∧v=.str ⟨#[c]⟩,fun i _=>i=x.cps.size⟩
theorem qda {P:Program} {w:World} {K:PySem.W.Frag} {tg:Expr} {it:Addr} {x:Str} {t:Tok} {T:String} (W:∀ A:Around,A.handled=none→Walks P w A it [it] [it] x.cps.size (SignAt x) fun i h=>h.IsStrIter it T x t i)
  (sf:∀ (A:Around) (i:Nat) (s:Shared) (Q:Value→Shared→Prop) (E:Value→Shared→Prop),s.heap.IsStrIter it T x t i→Q (.ref it) s→wpAny (model P w) A (pyIter (.ref it)) Q E s)
  (htg:∀ v,letOwnedTupleGo tg (.ref it) v=pure ()):Turn P w K tg (Its x) [it] it (fun i h=>h.IsStrIter it T x t i) where
 mem:=by simp
 obj:=fun i h st b hb=>by
  have e:b=it:=by simpa using hb
  subst e
  obtain ⟨o,e,c,d⟩:=st
  exact ⟨o,e,fun v z=>by rw [d] at z;cases z⟩
 keep:=fun i h h' st k=>by
  obtain ⟨o,e,r⟩:=st
  exact ⟨o,k it (by simp) o e,r⟩
 item:=by
  intro X hP hw hK hc i pins s σ H E I hf st hg
  subst hP hw hK
  obtain ⟨f0,f1,f2,f3,f4,f5⟩:=hf it (by simp)
  refine (W X.A (I.ok.hd hc)).item i s _ _ hg st fun v h' tk hv st' kk=>?_
  obtain ⟨c,u,hcx,rfl⟩:=hv
  have I1:Inv X pins σ H { s with heap:=h',toks:=tk }:=I.turned (fun b o hb e=>kk b o (by simpa using hb) e) f0 f1 f3 f4 f5
  refine ⟨_,rfl,wpAny_of_eq (htg _) ⟨.str ⟨#[c]⟩,H,I1,⟨u,rfl⟩,⟨rfl,c,hcx,rfl⟩,st',fun b hb=>(hf b hb).1⟩⟩
 done:=by
  intro X hP hw hK hc i pins s σ H E I hf st hg
  subst hP hw hK
  obtain ⟨f0,f1,f2,f3,f4,f5⟩:=hf it (by simp)
  have e:i=x.cps.size:=hg
  subst e
  exact (W X.A (I.ok.hd hc)).done s _ _ st fun h' tk kk=>⟨rfl,I.turned (fun b o hb e=>kk b o (by simpa using hb) e) f0 f1 f3 f4 f5⟩
 self:=sf
section
variable {X:Cx} {tg:Expr}
end
section
variable {K:PySem.W.Frag} {a:Addr} {xs:List V} {g:TG} {tc:TT} {te:TE} {σ':St} {H1:Hp} {Q:V→Hp→Prop}
def qeR (J:It) (g:TG) (tc:TT) (te:TE) (σ':St) (H1:Hp) (Q:V→Hp→Prop):Prop:=
 ∃ W:Nat→Nat→List V→Hp→Prop,(∃ m,W 0 m [] H1)∧∀ i m ys H,W i m ys H →
   (J.stop i H∧ys.length≤sizeLine∧∀ p,H p=none→Q (.ref p) (upd H p (.lst ys))) ∨
   (J.go i H∧∃ M:List V→Hp→Prop,(∀ ys' H',M ys' H'→∃ m',m' < m∧W (i + 1) m' ys' H')∧∀ x H',J.yld i H x H'→g x σ' H' fun σ2 H2=>tc σ2 H2 fun b H3 =>
    if b=true then te σ2 H3 fun v H4=>ys.length < sizeLine∧M (ys++[v]) H4 else M ys H3)
theorem qY (Pv:Nat→List V→Hp→Prop) (h0:Pv 0 [] H1) (hl:∀ i ys H,i≤xs.length→Pv i ys H→SqL K H a xs)
  (hs:∀ i x ys H,xs[i]?=some x→Pv i ys H→g x σ' H fun σ2 H2=>tc σ2 H2 fun b H3=>if b=true then te σ2 H3 fun v H4=>ys.length < sizeLine∧Pv (i + 1) (ys++[v]) H4 else Pv (i + 1) ys H3)
  (hd:∀ ys H,Pv xs.length ys H→ys.length≤sizeLine∧∀ p,H p=none→Q (.ref p) (upd H p (.lst ys))):qeR (Itl K a) g tc te σ' H1 Q:=by
 refine ⟨fun i m ys H=>m=xs.length - i∧i≤xs.length∧Pv i ys H,⟨xs.length,by simp,Nat.zero_le _,h0⟩,?_⟩
 rintro i m ys H ⟨rfl,hi,p⟩
 have q:=hl i ys H hi p
 by_cases hlt:i < xs.length
 ·refine .inr ⟨⟨xs,xs[i],q,by simp [hlt]⟩,Pv (i + 1),fun ys' H' p'=>⟨xs.length - (i + 1),by omega,rfl,hlt,p'⟩,fun x H' y=>?_⟩
  obtain ⟨e,y⟩:=y
  subst e
  exact hs i x ys _ (y xs q) p
 ·have e:i=xs.length:=by omega
  subst e
  exact .inl ⟨⟨xs,q,Nat.le_refl _⟩,hd ys H p⟩
theorem qae {lo:Int} {n:Nat} (Pv:Nat→List V→Hp→Prop) (h0:Pv 0 [] H1)
  (hs:∀ i ys H,i < n→Pv i ys H→g (.int (lo + i)) σ' H fun σ2 H2=>tc σ2 H2 fun b H3=>if b=true then te σ2 H3 fun v H4=>ys.length < sizeLine∧Pv (i + 1) (ys++[v]) H4 else Pv (i + 1) ys H3)
  (hd:∀ ys H,Pv n ys H→ys.length≤sizeLine∧∀ p,H p=none→Q (.ref p) (upd H p (.lst ys))):qeR (Itr lo n) g tc te σ' H1 Q:=by
 refine ⟨fun i m ys H=>m=n - i∧i≤n∧Pv i ys H,⟨n,by simp,Nat.zero_le _,h0⟩,?_⟩
 rintro i m ys H ⟨rfl,hi,p⟩
 by_cases hlt:i < n
 ·refine .inr ⟨hlt,Pv (i + 1),fun ys' H' p'=>⟨n - (i + 1),by omega,rfl,hlt,p'⟩,fun x H' y=>?_⟩
  obtain ⟨e,y⟩:=y
  subst e y
  exact hs i ys _ hlt p
 ·have e:i=n:=by omega
  subst e
  exact .inl ⟨Nat.le_refl _,hd ys H p⟩
theorem qdb {x:Str} (Pv:Nat→List V→Hp→Prop) (h0:Pv 0 [] H1)
  (hs:∀ i c ys H,x.cps[i]?=some c→Pv i ys H→g (.str ⟨#[c]⟩) σ' H fun σ2 H2=>tc σ2 H2 fun b H3=>if b=true then te σ2 H3 fun v H4=>ys.length < sizeLine∧Pv (i + 1) (ys++[v]) H4 else Pv (i + 1) ys H3)
  (hd:∀ ys H,Pv x.cps.size ys H→ys.length≤sizeLine∧∀ p,H p=none→Q (.ref p) (upd H p (.lst ys))):qeR (Its x) g tc te σ' H1 Q:=by
 refine ⟨fun i m ys H=>m=x.cps.size - i∧i≤x.cps.size∧Pv i ys H,⟨x.cps.size,by simp,Nat.zero_le _,h0⟩,?_⟩
 rintro i m ys H ⟨rfl,hi,p⟩
 by_cases hlt:i < x.cps.size
 ·refine .inr ⟨hlt,Pv (i + 1),fun ys' H' p'=>⟨x.cps.size - (i + 1),by omega,rfl,hlt,p'⟩,fun v H' y=>?_⟩
  obtain ⟨e,c,hc,y⟩:=y
  subst e y
  exact hs i c ys _ hc p
 ·have e:i=x.cps.size:=by omega
  subst e
  exact .inl ⟨rfl,hd ys H p⟩
end
def qck:V→Option Value
 | .ty n=>some (.type n)
 | .ref a=>some (.ref a)
 | _=>none
theorem qbE {y:V} {c u:Value} (h:qck y=some c) (r:RelV y u):u=c:=by
 cases y with
 | ty n=>cases h;exact r
 | ref a=>cases h;exact r
 | _=>cases h
section
variable {X:Cx} {pins:List (Addr×Obj)} {σ:St} {H:Hp} {s:Shared}
theorem TyOf.kit {x:V} {u t:Value} (I:Inv X pins σ H s) (rx:RelV x u) (ty:TyOf X.K H x t):∃ P:Heap→Prop,PySem.W.KitX X.K u t P∧P s.heap∧u≠.builtin "__main__.__loader__#opaque":=by
 cases ty with
 | non=>cases (show u=Value.none from rx);exact ⟨_,PySem.W.kitx_none,True.intro,(fun z=>nomatch z)⟩
 | bl y=>cases (show u=Value.bool y from rx);exact ⟨_,PySem.W.kitx_bool,True.intro,(fun z=>nomatch z)⟩
 | int i=>obtain ⟨t,q⟩:=(show ∃ t,u=Value.int i t from rx);cases q;exact ⟨_,PySem.W.kitx_int,True.intro,(fun z=>nomatch z)⟩
 | str y=>obtain ⟨t,q⟩:=(show ∃ t,u=Value.str y t from rx);cases q;exact ⟨_,PySem.W.kitx_str,True.intro,(fun z=>nomatch z)⟩
 | flt y=>obtain ⟨t,q⟩:=(show ∃ t,u=Value.float y t from rx);cases q;exact ⟨_,PySem.W.kitx_float,True.intro,(fun z=>nomatch z)⟩
 | @lst a xs ea =>
  cases (show u=Value.ref a from rx)
  obtain ⟨_,_,n,_,h1⟩:=(show ObjOk X.prog X.w H s.heap a (.lst xs) from I.hok a _ ea)
  exact ⟨_,PySem.W.kitx_list,⟨_,h1,rfl⟩,(fun z=>nomatch z)⟩
 | @frz a ob xs ea =>
  cases (show u=Value.ref a from rx)
  obtain ⟨_,_,_,n,_,h1⟩:=(show ObjOk X.prog X.w H s.heap a (.frz ob (.lst xs)) from I.hok a _ ea)
  exact ⟨_,PySem.W.kitx_list,⟨_,h1,rfl⟩,(fun z=>nomatch z)⟩
 | @tup a xs ea =>
  cases (show u=Value.ref a from rx)
  obtain ⟨_,_,_,p⟩:=(show ObjOk X.prog X.w H s.heap a (.tup xs) from I.hok a _ ea)
  obtain ⟨o,h1,h2,_⟩:=p
  exact ⟨_,PySem.W.kitx_tuple,⟨o,h1,h2⟩,(fun z=>nomatch z)⟩
 | @dK a kvs ea =>
  cases (show u=Value.ref a from rx)
  obtain ⟨_,_,vs,_,p⟩:=(show ObjOk X.prog X.w H s.heap a (.dK kvs) from I.hok a _ ea)
  obtain ⟨o,es,ep,h1,h2,_⟩:=p
  exact ⟨_,PySem.W.kitx_dict,⟨o,h1,h2.1⟩,(fun z=>nomatch z)⟩
 | @dT a kvs ea =>
  cases (show u=Value.ref a from rx)
  obtain ⟨_,_,xs,_,o,es,ep,h1,h2,_⟩:=(show ObjOk X.prog X.w H s.heap a (.dT kvs) from I.hok a _ ea)
  exact ⟨_,PySem.W.kitx_dict,⟨o,h1,h2.1⟩,(fun z=>nomatch z)⟩
 | @ins a C dx fs ea cl ha hn htk hm =>
  cases (show u=Value.ref a from rx)
  obtain ⟨mA,O,_⟩:=qaU I.hok ea
  obtain ⟨od,J,_⟩:=O.look
  exact ⟨_,PySem.W.kitx_own (cl.get _) cl.hd ha hn htk hm,J,(fun z=>nomatch z)⟩
end
section
variable {X:Cx}
theorem qbf:∀ {ys:List V} {cs us:List Value},ys.map qck=cs.map some→Vals ys us→us=cs
 | [],[],_,_,.nil=>rfl
 | [],_::_,_,h,_=>by cases h
 | y::ys,[],_,h,_=>by cases h
 | y::ys,c::cs,_,h,.cons r t=>by
  rw [List.map_cons,List.map_cons] at h
  injection h with h1 h2
  rw [qbE h1 r,qbf h2 t]
theorem qdc:∀ {bs:List Bool} {us:List Value},Vals (bs.map V.bl) us→us=bs.map Value.bool
 | [],_,.nil=>rfl
 | b::bs,_,.cons r t=>by
  have e:=qdc t
  rw [e]
  cases r
  rfl
def qgV (K:PySem.W.Frag):List V→Hp→VK→Prop:=fun xs H Q=>∃ (p:Addr) (bs:List Bool),xs=[.ref p]∧SqL K H p (bs.map V.bl)∧Q (.bl (bs.all id)) H
theorem call_all (hc:X.calm=true):zH X (.builtin "all") (qgV X.K):=by
 intro pins s σ H xs us Q I r h
 obtain ⟨p,bs,rfl,hp,q⟩:=h
 obtain ⟨u,rfl,ru⟩:=qbc r
 cases ru
 obtain ⟨its,rv,pl,hz⟩:=I.list hp
 have e:=qdc rv
 subst e
 have hh:X.A.in1.handled=none:=I.ok.hd hc
 refine call_all_walk (wpAny_pyIter_list pl.isList ?_)
 have hne:p≠s.heap.objs.size:=by
  obtain ⟨o,ho,_⟩:=pl.isList
  exact Nat.ne_of_lt (Heap.lt_size ho)
 refine ⟨s.heap.objs.size,_,_,_,_,_,fun i=>(bs[i]?).getD false,rfl,Walks.list hh s.heap.objs.size p hne (bs.map Value.bool).toArray,⟨⟨_,Heap.get?_push_size _ rfl,rfl,rfl⟩,pl.isList.at fun o e=>Heap.get?_push_of_some _ e⟩,fun i v s Q E hv hq=>?_,fun h' tk hk=>?_⟩
 ·have hv':(bs.map Value.bool)[i]?=some v:=by simpa using hv
  rw [List.getElem?_map] at hv'
  cases e:bs[i]? with
  | none=>rw [e] at hv';cases hv'
  | some b =>
   rw [e] at hv'
   cases hv'
   have hq':Q ((bs[i]?).getD false) s:=hq
   rw [e] at hq'
   exact wpAny_pure hq'
 ·have e:((List.range (bs.map Value.bool).toArray.size).all fun i=>(bs[i]?).getD false)=bs.all id:=by
   rw [List.size_toArray,List.length_map]
   have key:∀ bs:List Bool,((List.range bs.length).all fun i=>(bs[i]?).getD false)=bs.all id:=by
    intro bs
    induction bs with
    | nil=>rfl
    | cons b r ih =>
     rw [List.length_cons,List.range_succ_eq_map,List.all_cons,List.all_map,List.all_cons,← ih]
     rfl
   exact key bs
  rw [e]
  refine ⟨.bl _,H,?_,rfl,q⟩
  have I1:Inv X pins σ H { s with heap:=s.heap.push { cls:=.type "list_iterator",data:=.fields #[.ref p,.int 0 0] } }:=I.kept (t':=s.toks) fun b o e=>Heap.get?_push_of_some _ e
  have nf:=I.fpOk (b:=s.heap.objs.size) (Nat.le_refl _) (I.hok.fresh (Nat.le_refl _))
  exact I1.turned (it:=s.heap.objs.size) (h':=h') (t':=tk) (fun b o hb e=>hk b o (by simpa using hb) e) nf.1 nf.2.1 nf.2.2.2.1 nf.2.2.2.2.1 nf.2.2.2.2.2
theorem op_le_str:OpR X (compareOp .LtE) (fun x y H Q=>∃ i j,x=.str i∧y=.str j∧Q (.bl (!decide (j.cps.toList < i.cps.toList))) H):=by
 intro pins s σ H x y v u Q I rx ry h
 obtain ⟨i,j,rfl,rfl,q⟩:=h
 obtain ⟨t,rfl⟩:=rx
 obtain ⟨t',rfl⟩:=ry
 exact PySem.P.le_str (fin_bl I q (by rfl))
def qgw:R2:=fun x y H Q=>match x,y with
 | .int i,.int j=>Q (.bl (decide (i≤j))) H
 | .str i,.str j=>Q (.bl (!decide (j.cps.toList < i.cps.toList))) H
 | _,_=>False
theorem qgl:OpR X (compareOp .LtE) qgw:=by
 intro pins s σ H x y v u Q I rx ry h
 cases x with
 | int i=>cases y with
  | int j=>exact op_le pins s σ H _ _ v u Q I rx ry ⟨i,j,rfl,rfl,h⟩
  | _=>exact False.elim h
 | str i=>cases y with
  | str j=>exact op_le_str pins s σ H _ _ v u Q I rx ry ⟨i,j,rfl,rfl,h⟩
  | _=>exact False.elim h
 | _=>exact False.elim h
def rIsU:R2:=fun x y H Q=>match x,y with
 | .bl i,.bl j=>Q (.bl (i==j)) H
 | x,.non=>Q (.bl (decide (x=.non))) H
 | _,_=>False
theorem op_rep_str:OpR X (binaryOp .Mult) (fun x y H Q=>∃ z k,x=.str z∧y=.int k∧MulOk z k∧Q (.str (Txt.mul z k)) H):=by
 intro pins s σ H x y v u Q I rx ry h
 obtain ⟨z,k,rfl,rfl,hm,q⟩:=h
 obtain ⟨t,rfl⟩:=rx
 obtain ⟨t',rfl⟩:=ry
 exact SB.mul hm fun t' k'=>⟨.str _,H,I.tok _,⟨_,rfl⟩,q⟩
def qfU:R2:=fun x y H Q=>match x,y with
 | .int i,.int j=>CMul i j∧Q (.int (i * j)) H
 | .str z,.int k=>MulOk z k∧Q (.str (Txt.mul z k)) H
 | .ref a,.int k=>qgT (.ref a) (.int k) H Q
 | _,_=>False
theorem qbw:OpR X (binaryOp .Mult) qfU:=by
 intro pins s σ H x y v u Q I rx ry h
 cases y with
 | int j=>cases x with
  | int i=>exact op_mul pins s σ H _ _ v u Q I rx ry ⟨i,j,rfl,rfl,h.1,h.2⟩
  | str i=>exact op_rep_str pins s σ H _ _ v u Q I rx ry ⟨i,j,rfl,rfl,h.1,h.2⟩
  | ref a=>exact op_rep pins s σ H _ _ v u Q I rx ry h
  | _=>exact False.elim h
 | _=>cases x<;>exact False.elim h
def qeS (K:PySem.W.Frag):R2:=fun x y H Q=>match x,y with
 | .int i,.int j=>Q (.int (i + j)) H
 | .str i,.str j=>i.length + j.length≤sizeLine∧Q (.str (i++j)) H
 | .ref a,.ref b=>qgS (.ref a) (.ref b) H Q∨qfR K (.ref a) (.ref b) H Q
 | _,_=>False
theorem u_add:OpR X (binaryOp .Add) (qeS X.K):=by
 intro pins s σ H x y v u Q I rx ry h
 cases x with
 | int i=>cases y with
  | int j=>exact op_add pins s σ H _ _ v u Q I rx ry ⟨i,j,rfl,rfl,h⟩
  | _=>exact False.elim h
 | str i=>cases y with
  | str j=>exact op_add_str pins s σ H _ _ v u Q I rx ry ⟨i,j,rfl,rfl,h.1,h.2⟩
  | _=>exact False.elim h
 | ref a=>cases y with
  | ref b=>exact h.elim (fun h=>op_cat pins s σ H _ _ v u Q I rx ry h) fun h=>op_catT pins s σ H _ _ v u Q I rx ry h
  | _=>exact False.elim h
 | _=>exact False.elim h
def qcO (K:PySem.W.Frag):List V→Hp→VK→Prop:=fun xs H Q=>match xs with
 | [.str z]=>z.length≤sizeLine∧Q (.int z.length) H
 | [.ref p]=>(∃ ys,(SqL K H p ys∨SqT K H p ys)∧Q (.int ys.length) H)∨∃ kvs,H p=some (.dK kvs)∧Q (.int kvs.length) H
 | _=>False
theorem call_lenU:zH X (.builtin "len") (qcO X.K):=by
 intro pins s σ H xs us Q I r h
 match xs,h with
 | [.str z],h=>exact call_len_str pins s σ H _ us Q I r ⟨z,rfl,h.1,h.2⟩
 | [.ref p],.inl ⟨ys,h,q⟩=>exact call_len_seq pins s σ H _ us Q I r ⟨p,ys,rfl,h,q⟩
 | [.ref p],.inr ⟨kvs,h,q⟩=>exact call_lenD pins s σ H _ us Q I r ⟨p,kvs,rfl,h,q⟩
theorem sl_str:SlR X (fun x lo hi H Q=>∃ z,x=.str z∧z.length≤sizeLine∧Q (.str (Txt.slice z lo hi)) H):=by
 intro pins s σ H x v vl vu lo hi sl Q I rx hs pl pu h
 obtain ⟨z,rfl,hz,q⟩:=h
 obtain ⟨t,rfl⟩:=rx
 refine ⟨"str",_,F.slot_str_getitem.lookup,typeIs_str _ _ _,?_⟩
 cases pl with
 | none =>
  cases pu with
  | none=>exact wpAny_getItem_str_slice (l:=none) (u:=none) (st:=none) hs rfl (post_val_or_str ⟨Nat.le_trans (Txt.slice_le z _ _) hz,fun t' k=>⟨.str _,H,I.tok _,⟨_,rfl⟩,q⟩⟩)
  | int j uj=>exact wpAny_getItem_str_slice (l:=none) (u:=some (j,uj)) (st:=none) hs rfl (post_val_or_str ⟨Nat.le_trans (Txt.slice_le z _ _) hz,fun t' k=>⟨.str _,H,I.tok _,⟨_,rfl⟩,q⟩⟩)
 | int i ui =>
  cases pu with
  | none=>exact wpAny_getItem_str_slice (l:=some (i,ui)) (u:=none) (st:=none) hs rfl (post_val_or_str ⟨Nat.le_trans (Txt.slice_le z _ _) hz,fun t' k=>⟨.str _,H,I.tok _,⟨_,rfl⟩,q⟩⟩)
  | int j uj=>exact wpAny_getItem_str_slice (l:=some (i,ui)) (u:=some (j,uj)) (st:=none) hs rfl (post_val_or_str ⟨Nat.le_trans (Txt.slice_le z _ _) hz,fun t' k=>⟨.str _,H,I.tok _,⟨_,rfl⟩,q⟩⟩)
def qgx (K:PySem.W.Frag):V→Option Int→Option Int→Hp→VK→Prop:=fun x lo hi H Q=>match x with
 | .str z=>z.length≤sizeLine∧Q (.str (Txt.slice z lo hi)) H
 | .ref a=>qgR K (.ref a) lo hi H Q∨qgN K (.ref a) lo hi H Q
 | _=>False
theorem u_sl:SlR X (qgx X.K):=by
 intro pins s σ H x v vl vu lo hi sl Q I rx hs pl pu h
 cases x with
 | str z=>exact sl_str pins s σ H _ v vl vu lo hi sl Q I rx hs pl pu ⟨z,rfl,h.1,h.2⟩
 | ref a=>exact h.elim (fun h=>sl_list pins s σ H _ v vl vu lo hi sl Q I rx hs pl pu h) fun h=>sl_tup pins s σ H _ v vl vu lo hi sl Q I rx hs pl pu h
 | _=>exact False.elim h
theorem qd9:∀ {ys:List Str} {us:List Value},Vals (ys.map V.str) us→StrsAre us ys
 | [],_,.nil=>.nil
 | y::ys,_,.cons r t=>by
  obtain ⟨tk,rfl⟩:=r
  exact .cons y tk (qd9 t)
def qfV (K:PySem.W.Frag):V→List V→Hp→VK→Prop:=fun x vs H Q=>∃ (z:Str) (p:Addr) (ys:List Str),x=.str z∧vs=[.ref p]∧SqL K H p (ys.map V.str)∧(ys.map (·.length)).sum + ys.length * z.length≤16777216∧Q (.str (Txt.join z ys)) H
theorem mt_join:MtR X "str.join" (qfV X.K):=by
 intro pins s σ H x vs v us Q I rx rv h
 obtain ⟨z,p,ys,rfl,rfl,hp,hz,q⟩:=h
 obtain ⟨t,rfl⟩:=rx
 obtain ⟨u,rfl,ru⟩:=rv.one
 cases ru
 obtain ⟨its,r,pl,_⟩:=I.list hp
 exact join_list pl.isList (by simpa using qd9 r) hz fun t' k=>⟨.str _,H,I.tok _,⟨_,rfl⟩,q⟩
def qgy (K:PySem.W.Frag) (te:TE):TI:=fun σ H R=>te σ H fun v H1=>match v with
 | .str x=>R (Its x) H1
 | .ref a=>((∃ xs,SqL K H1 a xs)∧R (Itl K a) H1)∨((∃ xs,SqT K H1 a xs)∧R (Itt K a) H1)
 | _=>False
theorem pi_any {tg e:Expr} {te:TE} (he:PE X e te) (htg:∀ it v,letOwnedTupleGo tg it v=pure ():=by intro _ _;rfl):PI X tg e (qgy X.K te):=by
 intro pins s σ H R I h
 refine thn (he pins s σ H _ I h) fun v s1 ⟨y,H1,I1,r1,q1⟩=>?_
 cases y with
 | str x =>
  obtain ⟨t,rfl⟩:=r1
  have fp:∀ b∈[s1.heap.objs.size],qcZ X pins H1 b:=fun b hb=>by
   have e:b=s1.heap.objs.size:=by simpa using hb
   subst e
   exact I1.fpOk (Nat.le_refl _) (I1.hok.fresh (Nat.le_refl _))
  cases ha:x.cps.all (· < 128)
  ·exact wpAny_pyIter_wide ha ⟨s1.heap.objs.size,[s1.heap.objs.size],_,_,H1,rfl,I1.kept (t':=s1.toks) fun b o e=>Heap.get?_push_of_some _ e,
    qda (T:="str_iterator") (fun A hA=>Walks.strWide hA _ x t) (fun A i s Q E st h=>wpAny_pyIter_striter_wide st h) (htg _),⟨_,Heap.get?_push_size _ rfl,rfl,rfl⟩,fp,q1⟩
  ·exact wpAny_pyIter_ascii ha ⟨s1.heap.objs.size,[s1.heap.objs.size],_,_,H1,rfl,I1.kept (t':=s1.toks) fun b o e=>Heap.get?_push_of_some _ e,
    qda (T:="str_ascii_iterator") (fun A hA=>Walks.strAscii hA _ x t) (fun A i s Q E st h=>wpAny_pyIter_striter_ascii st h) (htg _),⟨_,Heap.get?_push_size _ rfl,rfl,rfl⟩,fp,q1⟩
 | ref a =>
  cases r1
  have fp:∀ b∈[s1.heap.objs.size],qcZ X pins H1 b:=fun b hb=>by
   have e:b=s1.heap.objs.size:=by simpa using hb
   subst e
   exact I1.fpOk (Nat.le_refl _) (I1.hok.fresh (Nat.le_refl _))
  rcases q1 with ⟨⟨xs,hq⟩,q⟩ | ⟨⟨xs,hq⟩,q⟩
  ·obtain ⟨its,rv,p,hz⟩:=I1.list hq
   exact wpAny_pyIter_list p.isList ⟨s1.heap.objs.size,[s1.heap.objs.size],_,_,H1,rfl,I1.kept (t':=s1.toks) fun b o e=>Heap.get?_push_of_some _ e,turn_list a _,⟨_,Heap.get?_push_size _ rfl,rfl,rfl⟩,fp,q⟩
  ·obtain ⟨its,rv,p,hz⟩:=I1.tuple hq
   exact wpAny_pyIter_tuple (show s1.heap.IsTuple a its.toArray from p) ⟨s1.heap.objs.size,[s1.heap.objs.size],_,_,H1,rfl,I1.kept (t':=s1.toks) fun b o e=>Heap.get?_push_of_some _ e,turn_tuple a _,⟨_,Heap.get?_push_size _ rfl,rfl,rfl⟩,fp,q⟩
 | _=>exact False.elim q1
end
end L2
namespace L2
open PySem PySem.Spec PyProof.Rows
section
variable {D:Ends} {σ:St} {H:Hp} {Q:VK} {QT:Bool→Hp→Prop} {QA:List V→Hp→Prop} {t u:TS} {te ta tb tc:TE} {c c':TT} {tr tas:TA} {r r':R2} {K:PySem.W.Frag}
theorem vSeq (h:t { D with nx:=u D } σ H):qgH t u D σ H:=h
theorem vAsg {i:Nat} (h:te σ H fun x H1=>D.nx (σ.set i (some x)) H1):qfI te (qcJ i) D σ H:=h
theorem vAsgS {to ti:TE} {s:qfM} (h:te σ H fun x H1=>to σ H1 fun o H2=>ti σ H2 fun i H3=>s o i x H3 fun H4=>D.nx σ H4):qfI te (qgK to ti s) D σ H:=h
theorem vIfS (h:c σ H fun b H1=>if b=true then t D σ H1 else u D σ H1):qgJ c t u D σ H:=h
theorem vRet (h:te σ H D.rt):qgI te D σ H:=h
theorem vRetN (h:D.rt .non H):tRetN D σ H:=h
theorem vDrop (h:te σ H fun _ H1=>D.nx σ H1):qfL te D σ H:=h
theorem vNext (h:D.nx σ H):qfK D σ H:=h
theorem vC {v:V} (h:Q v H):tC v σ H Q:=h
theorem vVar {i:Nat} {v:V} (e:σ[i]?=some (some v)) (h:Q v H):qgp i σ H Q:=⟨v,e,h⟩
theorem vOp (h:ta σ H fun x H1=>tb σ H1 fun y H2=>r x y H2 Q):tOp r ta tb σ H Q:=h
theorem vUn {f:V→Hp→VK→Prop} (h:ta σ H fun x H1=>f x H1 Q):tUn f ta σ H Q:=h
theorem vChain (h:ta σ H fun x H1=>tb σ H1 fun y H2=>r x y H2 fun z H3=>∃ k,z=.bl k∧if k=true then tc σ H3 fun z2 H4=>r' y z2 H4 Q else Q (.bl false) H3):qdV r r' ta tb tc σ H Q:=h
theorem vNil (h:QA [] H):qeZ σ H QA:=h
theorem vCons (h:ta σ H fun x H1=>tr σ H1 fun xs H2=>QA (x::xs) H2):qaq ta tr σ H QA:=h
theorem vCB {f:List V→Hp→VK→Prop} (h:tas σ H fun vs H1=>f vs H1 Q):tCB f tas σ H Q:=h
theorem vCall {sp:Sp} {E:XK} (h:tas σ H fun vs H1=>sp (vs++[]) H1 Q E):qdW sp [] E tas σ H Q:=h
theorem vLst (h:tas σ H fun xs H1=>xs.length≤sizeLine∧∀ p,H1 p=none→Q (.ref p) (upd H1 p (.lst xs))):qgj tas σ H Q:=h
theorem vTup (h:tas σ H fun xs H1=>xs.length≤sizeLine∧∀ p,H1 p=none→Q (.ref p) (upd H1 p (.tup xs))):qgi tas σ H Q:=h
theorem vTest (h:te σ H fun x H'=>∃ k,x=.bl k∧QT k H'):qfu te σ H QT:=h
theorem vB (h:te σ H fun x H'=>∃ k,x=.bl k∧QT k H'):tB te σ H QT:=h
theorem vNot (h:c σ H fun b H1=>QT (!b) H1):qgF c σ H QT:=h
theorem vAnd (h:c σ H fun b H1=>if b=true then c' σ H1 QT else QT false H1):qgE c c' σ H QT:=h
theorem vOr (h:c σ H fun b H1=>if b=true then QT true H1 else c' σ H1 QT):tOr c c' σ H QT:=h
theorem vAndV (h:ta σ H fun x H1=>∃ k,x=.bl k∧if k=true then tb σ H1 Q else Q (.bl false) H1):qfJ ta tb σ H Q:=h
theorem vOrV (h:ta σ H fun x H1=>∃ k,x=.bl k∧if k=true then Q (.bl true) H1 else tb σ H1 Q):qgG ta tb σ H Q:=h
theorem vNotV (h:ta σ H fun x H1=>∃ k,x=.bl k∧Q (.bl (!k)) H1):tNotV ta σ H Q:=h
theorem vIf (h:c σ H fun b H1=>if b=true then ta σ H1 Q else tb σ H1 Q):tIf c ta tb σ H Q:=h
theorem vYes (h:QT true H):qgU σ H QT:=h
theorem vI0 {g:Int→Int→V} {i j:Int} (h:Q (g i j) H):rI0 g (.int i) (.int j) H Q:=⟨i,j,rfl,rfl,h⟩
theorem vI {C:Int→Int→Prop} {g:Int→Int→V} {i j:Int} (hc:C i j) (h:Q (g i j) H):rI C g (.int i) (.int j) H Q:=⟨i,j,rfl,rfl,hc,h⟩
theorem vU {g:Int→V} {i:Int} (h:Q (g i) H):rU g (.int i) H Q:=⟨i,rfl,h⟩
theorem vEqI {i j:Int} (h:Q (.bl (decide (i=j))) H):rEq (.int i) (.int j) H Q:=⟨rfl,by
 have e:decide (V.int i=V.int j)=decide (i=j):=by
  by_cases h:i=j
  ·subst h;simp
  ·rw [decide_eq_false h,decide_eq_false (fun e=>h (V.int.inj e))]
 rw [e];exact h⟩
theorem vEqB {i j:Bool} (h:Q (.bl (i==j)) H):rEq (.bl i) (.bl j) H Q:=⟨rfl,by rw [dec_bl];exact h⟩
theorem zX {p:Addr} {xs:List V} {i:Int} {v:V} (hp:H p=some (.lst xs)) (ha:atI xs i=some v) (h:Q v H):rIx K (.ref p) (.int i) H Q:=.inl ⟨p,xs,i,v,rfl,rfl,SqL.of hp,ha,h⟩
theorem vIxLs {p:Addr} {xs:List V} {i:Int} {v:V} (hp:SqL K H p xs) (ha:atI xs i=some v) (h:Q v H):rIx K (.ref p) (.int i) H Q:=.inl ⟨p,xs,i,v,rfl,rfl,hp,ha,h⟩
theorem qaR {p:Addr} {xs:List V} {i:Int} {v:V} (hp:H p=some (.tup xs)) (ha:atI xs i=some v) (h:Q v H):rIx K (.ref p) (.int i) H Q:=.inr (.inl ⟨p,xs,i,v,rfl,rfl,SqT.of hp,ha,h⟩)
theorem qgW {z:Str} {i:Int} {ch:Nat} (hz:z.length≤sizeLine) (ha:atI z.cps.toList i=some ch) (h:Q (.str ⟨#[ch]⟩) H):rIx K (.str z) (.int i) H Q:=.inr (.inr ⟨z,i,ch,rfl,rfl,hz,ha,h⟩)
theorem qeT {p:Addr} {xs:List V} {k:Int} {v:V} {j:Nat} {QH:Hp→Prop} (hp:H p=some (.lst xs)) (hj:ixN xs.length k=some j) (h:QH (upd H p (.lst (xs.set j v)))):qfw (.ref p) (.int k) v H QH:=⟨p,xs,k,j,rfl,rfl,hp,hj,h⟩
theorem vEx {k:Bool} {P:Bool→Prop} (h:P k):∃ k',V.bl k=.bl k'∧P k':=⟨k,rfl,h⟩
theorem vLeI {i j:Int} (h:Q (.bl (decide (i≤j))) H):qgw (.int i) (.int j) H Q:=h
theorem vLeS {i j:Str} (h:Q (.bl (!decide (j.cps.toList < i.cps.toList))) H):qgw (.str i) (.str j) H Q:=h
theorem vIsB {i j:Bool} (h:Q (.bl (i==j)) H):rIsU (.bl i) (.bl j) H Q:=h
theorem vAddI {i j:Int} (h:Q (.int (i + j)) H):qeS K (.int i) (.int j) H Q:=h
theorem qfy {i j:Str} (hz:i.length + j.length≤sizeLine) (h:Q (.str (i++j)) H):qeS K (.str i) (.str j) H Q:=⟨hz,h⟩
theorem qbO {i j:Int} (hc:CMul i j) (h:Q (.int (i * j)) H):qfU (.int i) (.int j) H Q:=⟨hc,h⟩
theorem qfz {z:Str} (hz:z.length≤sizeLine) (h:Q (.int z.length) H):qcO K [.str z] H Q:=⟨hz,h⟩
theorem qar {p:Addr} {ys:List V} (hp:H p=some (.lst ys)) (h:Q (.int ys.length) H):qcO K [.ref p] H Q:=.inl ⟨ys,.inl (SqL.of hp),h⟩
theorem qe3 {p:Addr} {ys:List V} (hp:SqL K H p ys) (h:Q (.int ys.length) H):qcO K [.ref p] H Q:=.inl ⟨ys,.inl hp,h⟩
theorem qfW {p:Addr} {ys:List V} (hp:H p=some (.tup ys)) (h:Q (.int ys.length) H):qcO K [.ref p] H Q:=.inl ⟨ys,.inr (SqT.of hp),h⟩
theorem qgz {z:Str} {lo hi:Option Int} (hz:z.length≤sizeLine) (h:Q (.str (Txt.slice z lo hi)) H):qgx K (.str z) lo hi H Q:=⟨hz,h⟩
theorem vSl {f:V→Option Int→Option Int→Hp→VK→Prop} {tl th:TO} (h:te σ H fun x H1=>tl σ H1 fun l H2=>th σ H2 fun u H3=>f x l u H3 Q):tSl f te tl th σ H Q:=h
theorem vNoPart {QO:Option Int→Hp→Prop} (h:QO none H):qdZ σ H QO:=h
theorem vPart {QO:Option Int→Hp→Prop} (h:te σ H fun x H1=>∃ i,x=.int i∧QO (some i) H1):qfQ te σ H QO:=h
theorem vExI {i:Int} {P:Int→Prop} (h:P i):∃ j,V.int i=.int j∧P j:=⟨i,rfl,h⟩
theorem vBM {T:String} {f:V→List V→Hp→VK→Prop} (h:te σ H fun x H1=>tyV K T x H1∧tas σ H1 fun xs H2=>f x xs H2 Q):tBM K T f te tas σ H Q:=h
theorem vBM0 {T:String} {f:V→List V→Hp→VK→Prop} (h:te σ H fun x H1=>tyV K T x H1∧f x [] H1 Q):qgt K T f te σ H Q:=h
theorem vComp {wi:TI} {g:TG} {nl:Nat} {ixs:List Nat} (h:wi σ H fun J H1=>qeR J g c te (qdP nl ixs σ) H1 Q):qfx wi g c te nl ixs σ H Q:=h
theorem vFor {wi:TI} {g:TG} (h:wi σ H fun J H1=>∃ W:Nat→Nat→St→Hp→Prop,(∃ m,W 0 m σ H1)∧∀ i m σ H,W i m σ H →
 (J.stop i H∧D.nx σ H)∨(J.go i H∧∃ N:St→Hp→Prop,(∀ σ' H',N σ' H'→∃ m',m' < m∧W (i + 1) m' σ' H')∧∀ x H',J.yld i H x H'→g x σ H' fun σ2 H2=>t { D with nx:=N,ct:=N,bk:=D.nx } σ2 H2)):qgL wi g t D σ H:=h
theorem vRng1 {R:It→Hp→Prop} (h:tas σ H fun vs H1=>∃ j:Int,vs=[.int j]∧-(2 ^ 62)≤j∧j < 2 ^ 62∧R (Itr 0 j.toNat) H1):qfN tas σ H R:=h
theorem vAny {R:It→Hp→Prop} (h:te σ H fun v H1=>match v with
 | .str x=>R (Its x) H1
 | .ref a=>((∃ xs,SqL K H1 a xs)∧R (Itl K a) H1)∨((∃ xs,SqT K H1 a xs)∧R (Itt K a) H1)
 | _=>False):qgy K te σ H R:=h
theorem vGN {i:Nat} {v:V} {QS:St→Hp→Prop} (h:QS (σ.set i (some v)) H):qcJ i v σ H QS:=h
theorem qas {α:Type} {xs:List α} {i:Int} (h0:0≤i) (h1:i < xs.length):∃ v,atI xs i=some v∧xs[i.toNat]?=some v:=by
 obtain ⟨n,rfl⟩:=Int.eq_ofNat_of_zero_le h0
 have hn:n < xs.length:=by omega
 exact ⟨xs[n],jQ (by simp [hn]),by simp [hn]⟩
end
section
variable {X:Cx} {K:PySem.W.Frag} {o e:Expr} {es:List Expr} {to ta:TE} {t:TA} {name f:Str} {apos cpos pos:Pos} {T id:String} {r:V→List V→Hp→VK→Prop} {tg:Expr}
theorem j7 (hK:X.K=K):zH X (.builtin "len") (qcO K):=by subst hK;exact call_lenU
theorem k_all (hK:X.K=K) (hc:X.calm=true):zH X (.builtin "all") (qgV K):=by subst hK;exact call_all hc
theorem qeH (hK:X.K=K):SlR X (qgx K):=by subst hK;exact u_sl
theorem zu (hK:X.K=K):OpR X (binaryOp .Add) (qeS K):=by subst hK;exact u_add
theorem k_join (hK:X.K=K):MtR X "str.join" (qfV K):=by subst hK;exact mt_join
theorem jh (hK:X.K=K) (he:PE X e ta) (htg:∀ it v,letOwnedTupleGo tg it v=pure ():=by intro _ _;rfl):PI X tg e (qgy K ta):=by subst hK;exact pi_any he htg
theorem qfX (hK:X.K=K) (pa:PlainAttrs T) (slot:Slot T name id) (hty:typeOf (.builtin id)=pure (.type "method_descriptor")) (hm:MtR X id r) (ho:PE X o to)
  (hbase:attributeBase o name X.env (eval o X.env)=eval o X.env:=by rfl) (hline:(apos.endLine==cpos.line)=true:=by rfl):PE X (.Call (.Attribute o name apos) [] [] cpos) (qgt K T r to):=by
 subst hK
 exact pe_bm0 pa slot hty hm ho hbase hline
theorem qdQ (hK:X.K=K) (pa:PlainAttrs T) (slot:Slot T name id) (hty:typeOf (.builtin id)=pure (.type "method_descriptor")) (hm:MtR X id r) (ho:PE X o to) (ha:PA X (e::es) t)
  (hbase:attributeBase o name X.env (eval o X.env)=eval o X.env:=by rfl)
  (hfew:((backTo cpos (starEach (e::es) X.env)).all (fun x=>!x.1)&&(backToKw cpos (keywordEach [] X.env)).all (fun x=>x.1.isSome)
   && decide ((e::es).length + ([]:List Keyword).length + (if ([]:List Keyword).isEmpty then 0 else 1) < 30))=true:=by rfl)
  (hline:(apos.endLine==cpos.line)=true:=by rfl) (hs:starEach (e::es) X.env=(false,eval e X.env)::starEach es X.env:=by rfl) (hplain:(backTo cpos (starEach es X.env)).any (·.1)=false:=by rfl) :
  PE X (.Call (.Attribute o name apos) (e::es) [] cpos) (tBM K T r to t):=by
 subst hK
 exact pe_bm pa slot hty hm ho ha hbase hfew hline hs hplain
end
structure DefOk (P:Program) (w:World) (K:PySem.W.Frag) (mg:Str→Option Value) (base:Heap) (CX:CXT) (k:Nat) (x:Str) (ps:List Str) (sp:Sp):Prop where
 ex:∃ f fd,FnOk P w K mg base CX k f fd ps sp∧mg x=some (.ref f)∧PySem.W.keepIn K (.ref f)=true∧Binds K fd ps []
section
variable {X:Cx} {CX:CXT} {k:Nat} {ps:List Str} {sp:Sp} {E:XK} {x:Str} {p pos:Pos} {e:Expr} {es:List Expr} {t:TA}
theorem qp (D:DefOk X.prog X.w X.K X.mg X.base CX k x ps sp) (hr:Room k X.A) (hx:zW CX X E) (ha:PA X (e::es) t) (hg:Gl X x:=by rfl) (hdb:(x==("__debug__":Str))=false:=by decide)
  (he:starEach (e::es) X.env=(false,eval e X.env)::starEach es X.env:=by rfl) (hpl:(backTo pos (starEach es X.env)).any (·.1)=false:=by rfl):PE X (.Call (.Name x p) (e::es) [] pos) (qdW sp [] E t):=by
 obtain ⟨f,fd,F,hm,hk,hb⟩:=D.ex
 exact pe_call F hr hg hm hk hb .nil hx ha hdb he hpl
theorem qbP {i:Int} (hg:Gl X x) (hm:∃ tk,X.mg x=some (.int i tk)) (hd:(x==("__debug__":Str))=false:=by decide):PE X (.Name x pos) (tC (.int i)):=by
 obtain ⟨tk,hm⟩:=hm
 exact qat hg hm ⟨tk,rfl⟩ hd
end
def qcl (t c:String):Bool:=t==c||(t=="bool"&&c=="int")
theorem qaW (K:PySem.W.Frag):∀ t∈["NoneType", "bool", "int", "str", "list", "tuple", "dict"],∀ c∈["bool", "int", "str", "list", "tuple", "dict"],PySem.W.kitOne K (.type t) (.type c)=some (qcl t c):=by
 intro t ht c hc
 simp only [List.mem_cons,List.not_mem_nil,or_false] at ht hc
 rcases ht with rfl | rfl | rfl | rfl | rfl | rfl | rfl<;>rcases hc with rfl | rfl | rfl | rfl | rfl | rfl<;>rfl
end L2
namespace L2
open PySem PySem.Spec PyProof.Rows
def qb4:List Value→Bool
 | [.type a,.type b,.type c,.type d]=>a=="ValueError"&&b=="Exception"&&c=="BaseException"&&d=="object"
 | .ref _::r=>qb4 r
 | _=>false
def qgm (K:PySem.W.Frag) (C:Addr):Bool:=match K.lookup C with
 | some ⟨.type "type",_,.cls cd,sl⟩=>(match cd.mro,sl.toList with
  | .ref D::bm,[_,_,_,_,some (.builtin n),_]=>D==C&&!cd.hasDel&&qb4 bm&&n=="ValueError.__new__"
  | _,_=>false)
 | _=>false
theorem qdd {K:PySem.W.Frag} {h:Heap} {C:Addr} (X:K.In h) (q:qgm K C=true):∃ nm qn N bs bm hdct sn sub ab col dd k0 k1 k2 k3 k5,
  h.get? C=some (excClassObj nm qn C N bs bm hdct sn sub ab col dd k0 k1 k2 k3 k5 "ValueError.__new__")∧qb4 bm=true:=by
 unfold qgm at q
 split at q
 ·rename_i dd cd sl ho
  split at q
  ·rename_i D bm k0 k1 k2 k3 n k5 hm hs
   simp only [Bool.and_eq_true,beq_iff_eq,Bool.not_eq_true'] at q
   obtain ⟨⟨⟨e1,e2⟩,e3⟩,e4⟩:=q
   subst e1 e4
   obtain ⟨nm,bs,mro,ns,qn,hd,sn,sub,ab,col,del⟩:=cd
   dsimp only at hm e2
   subst hm e2
   obtain ⟨l⟩:=sl
   dsimp only at hs
   subst hs
   exact ⟨nm,qn,ns,bs,bm,hd,sn,sub,ab,col,dd,k0,k1,k2,k3,k5,X _ _ ho,e3⟩
  ·cases q
 ·cases q
structure XAt (K:PySem.W.Frag) (C:Addr):Prop where
 ga:PySem.W.findIn K (.ref C) "__getattribute__"=some (some (.builtin "BaseException.__getattribute__"))
 gn:PySem.W.findIn K (.ref C) "__getattr__"=some none
 bx:PySem.W.mroIn K C (.type "BaseException")=some true
 ob:PySem.W.mroIn K C (.type "object")=some true
 hd:PySem.W.hasDictIn K C=true
 cl:PySem.W.findIn K (.ref C) "__class__"=some (some (.builtin "object.__class__"))
 cg:PySem.W.specialIn K (.builtin "object.__class__") "__get__"=some (some (.builtin "getset_descriptor.__get__"))
 ct:PySem.W.takesIn K (.builtin "object.__class__")=some true
 sa:PySem.W.findIn K (.ref C) "__setattr__"=some (some (.builtin "object.__setattr__"))
 mr:(PySem.W.clsIn K C).any (fun cd=>qb4 cd.mro)=true
 xc:qgm K C=true
theorem bexc_ga_slot:Slot "ValueError" "__getattribute__" "BaseException.__getattribute__":=PySem.F.attr_ValueError.ga
section
variable {prog:Program} {w:World} {A:Around} {E:Value→Shared→Prop} {s:Shared} {K:PySem.W.Frag} {x C:Addr} {ox:Obj} {od:Option Obj} {name:Str} {v:Value}
theorem xga_value {tk:Tok} {Q:Fin→Shared→Prop} (X:K.In s.heap) (I:PySem.W.InstAt s.heap x ox C od) (hf:PySem.W.findObj K C od name=some (.value v)) (h:Q (.done (.ret v)) s) :
  wpAny (model prog w) A (Builtin.«object.__getattribute__» ⟨[.ref x,.str name tk],[]⟩) Q E s:=by
 have F:=PySem.W.looks_find (M:=model prog w) X I hf
 refine wpAny_bind (wpAny_pure (wpAny_bind (wpAny_pure (wpAny_bind (I.type.here (wpAny_bind (F.here ?_)))))))
 exact wpAny_pure h
theorem xga_call {tk:Tok} {R:Result→Shared→Prop} (X:K.In s.heap) (I:PySem.W.InstAt s.heap x ox C od) (hb:PySem.W.mroIn K C (.type "BaseException")=some true)
  (h:wpAny (model prog w) A.in1 (Builtin.«object.__getattribute__» ⟨[.ref x,.str name tk],[]⟩) (fun fin s'=>match fin with | .done f=>R (.ok f) s' | .again c'=>c'.quiet=true∧codeAny (model prog w) A c' R s') (fun e s'=>R (.error e) s') s) :
  codeAny (model prog w) A (.call (.builtin "BaseException.__getattribute__") ⟨[.ref x,.str name tk],[]⟩) R s:=by
 refine codeAny_call_builtin bexc_ga_slot.plain PySem.F.entry_bexc_ga ?_
 exact @PySem.W.check_slot (model prog w) _ _ s "BaseException.__getattribute__" "BaseException" "__getattribute__" (.ref x) [.str name tk] [] _ (by decide +kernel) (by decide +kernel) (I.type.andThen (PySem.W.looks_mroIn X hb)) (PySem.F.args_bexc_ga _ _) h
theorem qea {fill expr:Bool} {tk:Tok} {Q:Value→Shared→Prop} (X:K.In s.heap) (I:PySem.W.InstAt s.heap x ox C od) (c:XAt K C)
  (h:wpAny (model prog w) A.in1 (Builtin.«object.__getattribute__» ⟨[.ref x,.str name tk],[]⟩) (fun fin s'=>match fin with | .done (.ret v)=>wpAny (model prog w) A (handedOut v) Q E s' | _=>False) (fun _ _=>False) s) :
  wpAny (model prog w) A (getAttrBy (.ref x) (.str name tk) fill expr) Q E s:=by
 unfold getAttrBy
 refine wpAny_holding (wpAny_bind (I.type.here (wpAny_bind ((PySem.W.looks_findIn X c.ga).here ?_))))
 have e1:(onTheHeap (Value.ref C)&&Value.builtin "BaseException.__getattribute__"==Value.builtin "object.__getattribute__")=false:=by
  rw [show (Value.builtin "BaseException.__getattribute__"==Value.builtin "object.__getattribute__")=false by decide +kernel]
  rfl
 dsimp only
 rw [e1,if_neg (by decide)]
 unfold getAttrByItsOwn hookBefore
 rw [if_pos (show onTheHeap (Value.ref C)=true from rfl)]
 refine wpAny_bind ((PySem.W.looks_findIn X c.gn).here (wpAny_bind (wpAny_attempt (wpAny_holding ?_))))
 have e2:(expr&&onTheHeap (Value.builtin "BaseException.__getattribute__"))=false:=by cases expr<;>rfl
 unfold callGetattribute
 rw [e2,if_neg (by decide)]
 unfold boundAndCalled
 rw [bexc_ga_slot.bind]
 refine wpAny_bind (wpAny_pure ?_)
 show wpAny _ _ (call (.builtin "BaseException.__getattribute__") [.ref x,.str name tk]) _ _ _
 refine wpAny_call (xga_call X I c.bx (wpAny_mono h (fun fin s' z=>?_) fun _ _ z=>z.elim))
 rcases fin with (_ | _ | _ | _) | _<;>first | exact z | exact z.elim
theorem xget {expr:Bool} {Q:Value→Shared→Prop} (X:K.In s.heap) (I:PySem.W.InstAt s.heap x ox C od) (c:XAt K C) (hf:PySem.W.findObj K C od name=some (.value v)) (hh:PySem.W.handedIn v=true)
  (h:Q v { s with toks:=s.toks + 1 }):wpAny (model prog w) A (getAttr (.ref x) name expr) Q E s:=by
 unfold getAttr
 refine wpAny_bind (wpAny_mkText (qea (s:={ s with toks:=s.toks + 1 }) X I c (xga_value (s:={ s with toks:=s.toks + 1 }) X I hf ?_)))
 show wpAny _ _ (handedOut v) _ _ _
 rw [PySem.W.handedOut_of hh]
 exact wpAny_pure h
theorem xclass {Q:Option Value→Shared→Prop} (X:K.In s.heap) (I:PySem.W.InstAt s.heap x ox C od) (c:XAt K C) (hf:PySem.W.findObj K C od "__class__"=some (.bind (.builtin "getset_descriptor.__get__") (.builtin "object.__class__")))
  (h:Q (some (.ref C)) { s with toks:=s.toks + 1 }):wpAny (model prog w) A (getAttr? (.ref x) "__class__") Q E s:=by
 unfold getAttr? getAttrBy?
 refine wpAny_bind (wpAny_mkText (wpAny_bind (wpAny_attempt (qea (s:={ s with toks:=s.toks + 1 }) X I c ?_))))
 have F:=PySem.W.looks_find (M:=model prog w) X I hf
 refine wpAny_bind (wpAny_pure (wpAny_bind (wpAny_pure (wpAny_bind (I.type.here (s:={ s with toks:=s.toks + 1 }) (wpAny_bind (F.here (s:={ s with toks:=s.toks + 1 }) ?_)))))))
 show wpAny _ _ (holding [Value.builtin "object.__class__"] (call (.builtin "getset_descriptor.__get__") [.builtin "object.__class__",.ref x,.ref C])>>=ret) _ _ _
 refine wpAny_bind (wpAny_holding (wpAny_call (PySem.W.class_get (s:={ s with toks:=s.toks + 1 }) X I c.ob ?_)))
 refine wpAny_pure ?_
 show wpAny _ _ (handedOut (.ref C)) _ _ _
 exact wpAny_pure (wpAny_pure h)
theorem findObj_class (c:XAt K C):PySem.W.findObj K C od "__class__"=some (.bind (.builtin "getset_descriptor.__get__") (.builtin "object.__class__")):=by
 obtain ⟨cd,hc,_⟩:=PySem.W.any_some c.hd
 unfold PySem.W.findObj
 rw [hc,Option.bind_some,c.cl,Option.bind_some]
 simp [c.cg,c.ct]
theorem qde {od:Option Obj} (c:XAt K C):PySem.W.KitX K (.ref x) (.ref C) (fun h=>PySem.W.InstAt h x ox C od) where
 ty:=fun _ _ _ I=>I.type
 it:=fun _ _ X _=>by
  obtain ⟨cd,hc,_⟩:=PySem.W.any_some c.hd
  unfold PySem.W.clsIn at hc
  split at hc
  ·rename_i c1 d1 cd1 sl1 ho
   intro A' Q' E' s' k q
   unfold isType loadHead
   exact wpAny_bind (wpAny_loadPart (k _ _ (X _ _ ho)) (wpAny_pure q))
  ·cases hc
 ne:=fun h tp dd its n sl X htp=>by
  obtain ⟨cd,hc,_⟩:=PySem.W.any_some c.hd
  refine Bool.eq_false_iff.mpr fun q=>?_
  have e:C=tp:=Value.ref.inj (beq_iff_eq.mp q)
  subst e
  unfold PySem.W.clsIn at hc
  split at hc
  ·rename_i c1 d1 cd1 sl1 ho
   have z:=(X _ _ ho).symm.trans htp
   cases z
  ·cases hc
 ca:=fun X I k=>xclass X I c (findObj_class c) k
end
end L2
namespace L2
open PySem PySem.Spec PyProof.Rows
theorem qcm {c:Addr} {r:List Value} (e:qb4 (.ref c::r)=true):qb4 r=true:=by
 cases r with
 | nil=>cases e
 | cons a r=>exact e
theorem qaG:∀ {l:List Value},qb4 l=true→∃ rs:List Addr,l=rs.map Value.ref++[.type "ValueError",.type "Exception",.type "BaseException",.type "object"]
 | [],e=>by cases e
 | .ref c::r,e=>by
  obtain ⟨rs,q⟩:=qaG (qcm e)
  exact ⟨c::rs,by rw [q];rfl⟩
 | .type a::r,e=>by
  match r,e with
  | [.type b,.type c,.type d],e =>
   simp only [qb4,Bool.and_eq_true,beq_iff_eq] at e
   obtain ⟨⟨⟨rfl,rfl⟩,rfl⟩,rfl⟩:=e
   exact ⟨[],rfl⟩
theorem refuse_exc (self:Value) {l:List Value} (e:qb4 l=true):refuseLoop self "__setattr__" l=pure ():=by
 obtain ⟨rs,rfl⟩:=qaG e
 induction rs with
 | nil=>exact PySem.F.store_ValueError.passes self
 | cons c rs ih=>rw [List.map_cons,List.cons_append,refuseLoop_ref];exact ih (qcm e)
theorem qaH {l:List Value} (e:qb4 l=true) {T:String} (h:T∈["ValueError", "Exception", "BaseException", "object"]):l.contains (.type T)=true:=by
 obtain ⟨rs,rfl⟩:=qaG e
 rw [List.contains_iff_mem]
 refine List.mem_append_right _ ?_
 simp only [List.mem_cons,List.not_mem_nil,or_false] at h ⊢
 rcases h with rfl | rfl | rfl | rfl<;>simp
section
variable {prog:Program} {w:World} {A:Around} {E:Value→Shared→Prop} {s:Shared} {K:PySem.W.Frag} {x C:Addr} {name:Str} {v:Value} {R:Result→Shared→Prop}
theorem xosa {tk:Tok} {ox:Obj} {od:Option Obj} (X:K.In s.heap) (I:PySem.W.InstAt s.heap x ox C od) (c:XAt K C) (n:NoAttr K C name)
  (h:wpAny (model prog w) A.in1 (Builtin.ObjectAttr.storeInOwnDict (.ref x) (.ref C) (.str name tk) name v false)
   (fun fin s'=>match fin with | .done f=>R (.ok f) s' | .again c'=>c'.quiet=true∧codeAny (model prog w) A c' R s') (fun e s'=>R (.error e) s') s) :
  codeAny (model prog w) A (.call (.builtin "object.__setattr__") ⟨[.ref x,.str name tk,v],[]⟩) R s:=by
 have SF:=PySem.F.store_object
 obtain ⟨cd,hc,ho⟩:=PySem.W.any_some c.mr
 have hm:PySem.W.Looks (model prog w) s.heap (mroOf (.ref C)) cd.mro:=(PySem.W.looks_clsIn X hc).andThen .now
 refine codeAny_call_builtin SF.slot.plain SF.entry (@PySem.W.check_slot (model prog w) _ _ s "object.__setattr__" "object" "__setattr__" (.ref x) [.str name tk,v] [] _ SF.kind SF.split (I.type.andThen (PySem.W.looks_mroIn X c.ob)) (SF.args (.ref x) (.str name tk) v) ?_)
 rw [PySem.W.osa_eq,refuse_eq]
 refine wpAny_bind (wpAny_bind (I.type.here (wpAny_bind (hm.here ?_))))
 rw [refuse_exc _ ho]
 refine wpAny_pure (wpAny_bind (I.type.here (wpAny_bind ((PySem.W.looks_findIn X n).here (wpAny_bind (wpAny_pure ?_))))))
 exact h
theorem xset {vs:Array Value} (X:K.In s.heap) (hx:s.heap.get? x=some ⟨.ref C,none,.fields vs,#[]⟩) (c:XAt K C) (n:NoAttr K C name) {Q:Unit→Shared→Prop}
  (h:∀ h',h'.get? x=some ⟨.ref C,some s.heap.objs.size,.fields vs,#[]⟩→h'.Ns1 s.heap.objs.size (fun y=>if y=name then some v else none)→(∀ b o,b≠x→s.heap.get? b=some o→h'.get? b=some o) →
   Q () { s with heap:=h',toks:=s.toks + 2 }):wpAny (model prog w) A (setAttr (.ref x) name v) Q E s:=by
 have I:PySem.W.InstAt s.heap x ⟨.ref C,none,.fields vs,#[]⟩ C none:=⟨hx,rfl,rfl,True.intro⟩
 obtain ⟨cd,hc,hd⟩:=PySem.W.any_some c.hd
 refine PySem.W.set_plain X I c.sa (xosa (s:={ s with toks:=s.toks + 1 }) X I c n ?_)
 refine wpAny_bind (wpAny_pure (wpAny_bind (wpAny_bind (wpAny_loadPart hx (wpAny_bind ((PySem.W.looks_clsIn X hc).here (s:={ s with toks:=s.toks + 1 }) ?_))))))
 rw [hd]
 obtain ⟨hh,g,dr,tk,os⟩:=s
 show wpAny _ _ (alloc { cls:=.type "dict",data:=.dict #[] }>>=fun d=>update x (fun o=>{ cls:=o.cls,dict:=some d,data:=o.data,slots:=o.slots })>>=fun _=>pure (some d)) _ _ _
 have hxs:x≠hh.objs.size:=Nat.ne_of_lt (Heap.lt_size hx)
 have hx1:=Heap.get?_push_of_some { cls:=.type "dict",data:=.dict #[] } hx
 refine wpAny_bind (wpAny_alloc' (wpAny_bind (wpAny_update' hx1 (wpAny_pure ?_))))
 have hx2:=Heap.get?_update_self (fun o:Obj=>{ cls:=o.cls,dict:=some hh.objs.size,data:=o.data,slots:=o.slots }) hx1 rfl
 have hd2:=(Heap.get?_update_ne (hh.push { cls:=.type "dict",data:=.dict #[] }) hh.objs.size x (fun o:Obj=>{ cls:=o.cls,dict:=some hh.objs.size,data:=o.data,slots:=o.slots }) hxs.symm).trans (Heap.get?_push_at rfl rfl)
 generalize hg:(hh.push { cls:=.type "dict",data:=.dict #[] }).update x (fun o:Obj=>{ cls:=o.cls,dict:=some hh.objs.size,data:=o.data,slots:=o.slots })=h2 at hx2 hd2 ⊢
 have nd:h2.Ns hh.objs.size (fun _=>none):=⟨_,#[],_,hd2,rfl,fun e he=>absurd he (by simp),fun _=>rfl⟩
 show wpAny _ _ (Builtin.ObjectAttr.storeInDict hh.objs.size (.str name tk) name v) _ _ _
 unfold Builtin.ObjectAttr.storeInDict Builtin.ObjectAttr.newKeyGuard
 refine wpAny_bind (wpAny_pure (wpAny_bind (wpAny_nsSet1 (Heap.Ns1.of_empty nd) fun h' n2 sb=>?_)))
 obtain ⟨oD,esD,epD,hoD,hdD,hcD⟩:=n2.count (PySem.Within.cons name v PySem.Within.nil)
 have hz:esD.size≤sizeLine:=Nat.le_trans hcD (by rw [List.length_cons,List.length_nil,sizeLine_eq];omega)
 refine wpAny_bind (wpAny_lookBehind hoD (by rw [hdD];exact pastItsLine_dict (Nat.le_succ_of_le hz)) ?_)
 refine wpAny_pure (h h' ((sb.2 x hxs).trans hx2) n2 fun b o hb e=>(sb.2 b (Nat.ne_of_lt (Heap.lt_size e))).trans ?_)
 rw [← hg]
 exact (Heap.get?_update_ne _ _ _ _ hb).trans (Heap.get?_push_of_some _ e)
theorem ve_check {M:Model} {ox:Obj} {u:Value} {Q:Unit→Shared→Prop} (X:K.In s.heap) (c:XAt K C) (hx:s.heap.get? x=some ox) (hcls:ox.cls=.ref C) (q:Q () s) :
  wpAny M A (checkBuiltinCall "ValueError.__init__" ⟨[.ref x,u],[]⟩) Q E s:=by
 have F:=PySem.F.excBase_ValueError
 have hshort:=F.noStar
 obtain ⟨nm,qn,N,bs,bm,hdct,sn,sub,ab,col,dd,k0,k1,k2,k3,k5,hC,hm⟩:=qdd X c.xc
 have hcB:(Value.ref C::bm).contains (.type "ValueError")=true:=by rw [List.contains_cons,qaH hm (by simp),Bool.or_true]
 obtain ⟨hh,g,dr,tk,os⟩:=s
 simp only [checkBuiltinCall,F.initKind,F.initSplit,F.initRow]
 repeat (first | (with_reducible refine wpAny_loadPart_at hx ?_;rw [hcls]) | with_reducible refine wpAny_loadPart_at hC ?_ | (with_reducible refine wpAny_isSubtype_exc hC ?_;rw [hcB]) | wp_step)
 exact q
abbrev xfs (a0:Addr):Array Value:=#[.ref a0,.none,.none,.none,.bool false,.none]
theorem xbase_init {a0:Addr} {u:Value} (X:K.In s.heap) (hx:s.heap.get? x=some ⟨.ref C,none,.fields (xfs a0),#[]⟩) (c:XAt K C) {Q:Value→Shared→Prop}
  (h:∀ h' a1,h'.get? x=some ⟨.ref C,none,.fields (xfs a1),#[]⟩→(∀ b o,b≠x→s.heap.get? b=some o→h'.get? b=some o)→Q .none { s with heap:=h' }) :
  wpAny (model prog w) A (call (.builtin "ValueError.__init__") [.ref x,u]) Q E s:=by
 have F:=PySem.F.excBase_ValueError
 refine wpAny_call (codeAny_call_builtin F.init.plain F.initEntry (ve_check X c hx rfl ?_))
 obtain ⟨hh,g,dr,tk,os⟩:=s
 wp_walk
 refine h _ hh.objs.size ?_ fun b o hb e=>?_
 ·rw [Heap.get?_update_self _ (Heap.get?_push_of_some _ hx) rfl]
  rfl
 ·rw [Heap.get?_update_other _ _ (Ne.symm hb)]
  exact Heap.get?_push_of_some _ e
end
end L2
namespace L2
open PySem PySem.Spec PyProof.Rows
theorem qdf {l:List Value} (e:qb4 l=true) {T:String} (h:T∉["ValueError", "Exception", "BaseException", "object"]):l.contains (.type T)=false:=by
 obtain ⟨rs,rfl⟩:=qaG e
 refine Bool.eq_false_iff.mpr fun q=>?_
 rcases List.mem_append.mp (List.contains_iff_mem.mp q) with z | z
 ·obtain ⟨a,_,q⟩:=List.mem_map.mp z
  cases q
 ·simp only [List.mem_cons,List.not_mem_nil,or_false,Value.type.injEq] at z h
  exact h z
section
variable {prog:Program} {w:World} {A:Around} {R:Result→Shared→Prop} {E:Value→Shared→Prop} {h:Heap} {g:Array GenState} {d:Drawn} {t:Nat} {os:OsState}
variable {nm q:Str} {C N:Addr} {bs bm:List Value} {hdct:Bool} {sn:List Str} {sub:List Value} {ab:Bool} {col:Option Bool} {dd:Option Addr} {k0 k1 k2 k3 k5:Option Value}
theorem xnew_check {M:Model} {rest:List Value} {Q:Unit→Shared→Prop} (hC:h.get? C=some (excClassObj nm q C N bs bm hdct sn sub ab col dd k0 k1 k2 k3 k5 "ValueError.__new__")) (hm:qb4 bm=true) (hq:Q () ⟨h,g,d,t,os⟩) :
  wpAny M A (checkBuiltinCall "ValueError.__new__" ⟨.ref C::rest,[]⟩) Q E ⟨h,g,d,t,os⟩:=by
 have F:=PySem.F.excBase_ValueError
 have hcont:(Value.ref C::bm).contains (.type "ValueError")=true:=by rw [List.contains_cons,qaH hm (by simp),Bool.or_true]
 have hstar:=F.noStar
 simp only [checkBuiltinCall,F.newKind,F.newSplit,F.newRow]
 repeat (first | refine wpAny_loadPart_at hC ?_ | (refine wpAny_isSubtype_exc hC ?_;rw [hcont]) | refine wpAny_staticBase_exc hC ?_ | refine wpAny_madeBy_exc hC ?_ | simp only [bne_self_eq_false,Bool.false_eq_true,if_false] | wp_step)
 exact hq
theorem xnew {rest:List Value} (hC:h.get? C=some (excClassObj nm q C N bs bm hdct sn sub ab col dd k0 k1 k2 k3 k5 "ValueError.__new__")) (hm:qb4 bm=true) (hrest:rest.length≤sizeLine)
  (hq:R (.ok (.ret (.ref (h.objs.size + 1)))) ⟨(h.push { cls:=.type "tuple",data:=.seq rest.toArray }).push { cls:=.ref C,data:=.fields (xfs h.objs.size) },g,d,t,os⟩) :
  codeAny (model prog w) A (.builtin "ValueError.__new__" ⟨.ref C::rest,[]⟩) R ⟨h,g,d,t,os⟩:=by
 have F:=PySem.F.excBase_ValueError
 have hends:=F.ends
 have hcB:(Value.ref C::bm).contains (.type "ValueError")=true:=by rw [List.contains_cons,qaH hm (by simp),Bool.or_true]
 have hcA:(Value.ref C::bm).contains (.type "AttributeError")=false:=by rw [List.contains_cons,qdf hm (by simp)];rfl
 have hcN:(Value.ref C::bm).contains (.type "NameError")=false:=by rw [List.contains_cons,qdf hm (by simp)];rfl
 refine codeAny_builtinAt F.entry ?_
 unfold Builtin.«BaseException.__new__»
 refine PySem.wpAt_bind ?_
 show PySem.wpAt _ _ _ (stack>>=_) _ _ _
 refine PySem.wpAt_bind (PySem.wpAt_stack fun p0 below0=>PySem.wpAt_of_wpAny ?_)
 wp_walk
 refine PySem.wpAt_of_wpAny ?_
 rw [F.owner]
 repeat (first | with_reducible refine wpAny_madeHere_exc F.canon hC ?_ | with_reducible refine wpAny_loadPart_at hC ?_ | (with_reducible refine wpAny_isSubtype_exc hC ?_;first | rw [hcB] | rw [hcA] | rw [hcN]) | wp_step)
 show R _ _
 rw [Heap.size_push]
 exact hq
theorem xtype_call {K:PySem.W.Frag} {f:Addr} {rest:List Value} {Q:Fin→Shared→Prop} (X:K.In h) (hC:h.get? C=some (excClassObj nm q C N bs bm hdct sn sub ab col dd k0 k1 k2 k3 k5 "ValueError.__new__")) (hm:qb4 bm=true)
  (hi:PySem.W.findIn K (.ref C) "__init__"=some (some (.ref f))) (hf:PySem.W.isFn K (.ref f)=true) (hrest:rest.length≤sizeLine)
  (hq:wpAny (model prog w) A (call (.ref f) (.ref (h.objs.size + 1)::rest)) (fun r s'=>r=.none∧Q (.done (.ret (.ref (h.objs.size + 1)))) s') E
   ⟨(h.push { cls:=.type "tuple",data:=.seq rest.toArray }).push { cls:=.ref C,data:=.fields (xfs h.objs.size) },g,d,t,os⟩) :
  wpAny (model prog w) A (Builtin.«type.__call__» ⟨.ref C::rest,[]⟩) Q E ⟨h,g,d,t,os⟩:=by
 have F:=PySem.F.excBase_ValueError
 repeat (first | with_reducible refine wpAny_loadPart_at hC ?_ | with_reducible refine wpAny_madeBy_exc hC ?_ | wp_step)
 refine codeAny_call_builtin_code (Code.quiet_builtin _ F.quiet) (xnew_check hC hm (xnew hC hm hrest ?_))
 show wpAny _ _ _ _ _ _
 have up:∀ b o,h.get? b=some o→((h.push { cls:=.type "tuple",data:=.seq rest.toArray }).push { cls:=.ref C,data:=.fields (xfs h.objs.size) }).get? b=some o:=fun b o e=>Heap.get?_push_of_some _ (Heap.get?_push_of_some _ e)
 have hC1:=up _ _ hC
 have hget:((h.push { cls:=.type "tuple",data:=.seq rest.toArray }).push { cls:=.ref C,data:=.fields (xfs h.objs.size) }).get? (h.objs.size + 1)=some { cls:=.ref C,data:=.fields (xfs h.objs.size) }:=Heap.get?_push_at (by rw [Heap.size_push]) rfl
 have X1:K.In ((h.push { cls:=.type "tuple",data:=.seq rest.toArray }).push { cls:=.ref C,data:=.fields (xfs h.objs.size) }):=X.keeps up
 have hcC:(Value.ref C::bm).contains (.ref C)=true:=by simp
 unfold isInstance
 repeat (first | with_reducible refine wpAny_loadPart_at hget ?_ | (with_reducible refine wpAny_isSubtype_exc hC1 ?_;rw [hcC]) | wp_step)
 show wpAny _ _ (typeLookup (.ref C) _) _ _ _
 refine (PySem.W.looks_findIn X1 hi).at (wpAny_holding (wpAny_bind ((PySem.W.bind_fn X1 _ (beq_iff_eq.mp hf)).at (wpAny_bind (wpAny_mono hq (fun r s' hr=>?_) fun _ _ z=>z)))))
 obtain ⟨rfl,hQ⟩:=hr
 wp_walk
 exact hQ
theorem xcall {K:PySem.W.Frag} {f:Addr} {rest:List Value} {s:Shared} {Q:Value→Shared→Prop} (X:K.In s.heap) (c:XAt K C) (hi:PySem.W.findIn K (.ref C) "__init__"=some (some (.ref f))) (hf:PySem.W.isFn K (.ref f)=true) (hrest:rest.length≤sizeLine)
  (hq:wpAny (model prog w) (A.under (.builtin "type.__call__" ⟨.ref C::rest,[]⟩)) (call (.ref f) (.ref (s.heap.objs.size + 1)::rest)) (fun r s'=>r=.none∧Q (.ref (s.heap.objs.size + 1)) s') E
   { s with heap:=(s.heap.push { cls:=.type "tuple",data:=.seq rest.toArray }).push { cls:=.ref C,data:=.fields (xfs s.heap.objs.size) } }) :
  wpAny (model prog w) A (call (.ref C) rest) Q E s:=by
 obtain ⟨nm,qn,N,bs,bm,hdct,sn,sub,ab,col,dd,k0,k1,k2,k3,k5,hC,hm⟩:=qdd X c.xc
 obtain ⟨h,g,d,t,os⟩:=s
 have f1:=tc_lookup
 have f2:=tc_bind (.ref C)
 have hT:(⟨h,g,d,t,os⟩:Shared).TypeIs (.ref C) "type":=⟨_,hC,rfl⟩
 refine wpAny_call (codeAny_of_tree ?_)
 show wpAny _ _ (callAny (.ref C) _) _ _ _
 repeat (any_goals (first | assumption | with_reducible refine wpAny_loadPart_at hC ?_ | wp_step))
 refine ⟨rfl,?_⟩
 exact codeAny_call_builtin_at (Code.quiet_builtin _ (by decide +kernel)) entry_typeCall (wpAny_check_type_call_sub hC (xtype_call X hC hm hi hf hrest hq))
end
end L2
namespace L2
open PySem PySem.Spec PyProof.Rows
def XN (e C:Addr) (dx:Option Addr):HO:=.ext fun h=>∃ a0,h.get? e=some ⟨.ref C,dx,.fields (xfs a0),#[]⟩
def XO (e C:Addr) (dx:Option Addr):HO:=.ext fun h=>∃ vs,h.get? e=some ⟨.ref C,dx,.fields vs,#[]⟩
theorem XN.ok {P:Program} {w:World} {H:Hp} {h:Heap} {e C a0:Addr} {dx:Option Addr} (q:h.get? e=some ⟨.ref C,dx,.fields (xfs a0),#[]⟩):ObjOk P w H h e (XN e C dx):=
 ⟨⟨a0,q⟩,⟨_,q⟩,fun _ _ ⟨a,x⟩ k=>⟨a,k _ x⟩⟩
theorem XO.ok {P:Program} {w:World} {H:Hp} {h:Heap} {e C:Addr} {vs:Array Value} {dx:Option Addr} (q:h.get? e=some ⟨.ref C,dx,.fields vs,#[]⟩):ObjOk P w H h e (XO e C dx):=
 ⟨⟨vs,q⟩,⟨_,q⟩,fun _ _ ⟨a,x⟩ k=>⟨a,k _ x⟩⟩
def IsX (H:Hp) (e C:Addr) (dx:Option Addr):Prop:=H e=some (XN e C dx)∨H e=some (XO e C dx)
theorem IsX.get {P:Program} {w:World} {H:Hp} {h:Heap} {e C:Addr} {dx:Option Addr} (q:IsX H e C dx) (hok:HOk P w H h):∃ vs,h.get? e=some ⟨.ref C,dx,.fields vs,#[]⟩:=by
 rcases q with q | q
 ·obtain ⟨⟨a,x⟩,_⟩:=(show ObjOk P w H h e (XN e C dx) from hok e _ q)
  exact ⟨_,x⟩
 ·obtain ⟨⟨a,x⟩,_⟩:=(show ObjOk P w H h e (XO e C dx) from hok e _ q)
  exact ⟨_,x⟩
theorem upd_id {H:Hp} {a:Addr} {o:HO} (h:H a=some o):upd H a o=H:=by
 funext b
 unfold upd
 split
 ·rename_i e;subst e;exact h.symm
 ·rfl
section
variable {X:Cx} {pins:List (Addr×Obj)} {σ:St} {H:Hp} {s:Shared} {e C:Addr} {dx:Option Addr}
theorem qe4 (I:Inv X pins σ H s) {d:Addr} {fs:List (Str×V)} (h:H d=some (.xd fs)):∃ (od:Obj) (mA:Str→Option Value),s.heap.get? d=some od∧(∀ name,PySem.W.lookIn name od=some (mA name))∧∀ f,RelO (fs.lookup f) (mA f):=by
 obtain ⟨mA,n,r⟩:=(show ObjOk X.prog X.w H s.heap d (.xd fs) from I.hok d _ h)
 obtain ⟨od,h1,h2⟩:=qb8 n
 exact ⟨od,mA,h1,h2,r⟩
end
section
variable {X:Cx} {pins:List (Addr×Obj)} {σ:St} {H:Hp} {s:Shared} {a d:Addr} {h':Heap} {o u:HO} {t':Nat}
theorem Inv.both (I:Inv X pins σ H s) (mu:Mut (H a)) (hd:s.heap.objs.size≤d) (k:∀ b v,b≠a→s.heap.get? b=some v→h'.get? b=some v) (ha:∃ v,h'.get? a=some v)
  (n1:ObjOk X.prog X.w (upd (upd H d u) a o) h' a o) (n2:ObjOk X.prog X.w (upd (upd H d u) a o) h' d u) (ne:d≠a):Inv X pins σ (upd (upd H d u) a o) { s with heap:=h',toks:=t' }:=by
 have nd:H d=none:=I.hok.fresh hd
 have na:∀ b q,H b=some q→¬ Mut (some q)→b≠a:=fun b q e nm z=>by subst z;rw [e] at mu;exact nm mu
 have nn:∀ b,H b=none→b≠a:=fun b e z=>by subst z;rw [e] at mu;exact mu
 have big:∀ b v,s.heap.get? b=some v→b≠d:=fun b v e=>Nat.ne_of_lt (Nat.lt_of_lt_of_le (Heap.lt_size e) hd)
 have up:∀ b q,H b=some q→b≠a→upd (upd H d u) a o b=some q:=fun b q e n=>by rw [qr n,qr (qw e nd)];exact e
 refine I.un ⟨fun b v e n _ _=>k b v (nn b n) e,fun b v e n _ _=>⟨v.slots,k b v (nn b n) e⟩,fun b v e n _=>by rw [qr (nn b n),qr (big b v e)];exact n,fun b v e _=>?_,fun b xs e=>up b _ e (na b _ e fun z=>z),fun b q xs e=>up b _ e (na b _ e fun z=>z),
  fun b ps e=>⟨#[],by rw [up b _ e (na b _ e fun z=>z)];simp⟩⟩ fun b q e=>?_
 ·by_cases hb:b=a
  ·subst hb;exact ha
  ·exact ⟨v,k b v hb e⟩
 ·by_cases hb:b=a
  ·subst hb
   rw [qc] at e
   cases e
   exact n1
  ·rw [qr hb] at e
   by_cases hbd:b=d
   ·subst hbd
    rw [qc] at e
    cases e
    exact n2
   ·rw [qr hbd] at e
    refine (I.hok b q e).stay (fun c v hc r=>k c v ?_ r) (fun c r=>up c _ r (na c _ r fun z=>z)) fun c xs r=>up c _ r (na c _ r fun z=>z)
    rcases hc with rfl | hc
    ·exact hb
    ·exact na c _ hc fun z=>z
end
def qfY (K:PySem.W.Frag) (ta:TE) (f:Str):TE:=fun σ H Q=>ta σ H fun x H1=>(∃ a C dx fs v,x=.ref a∧H1 a=some (.ins C dx fs)∧Cls K C∧NoAttr K C f∧fs.lookup f=some v∧Q v H1) ∨
 (∃ a C dx fs v,x=.ref a∧IsX H1 a C (some dx)∧XAt K C∧NoAttr K C f∧H1 dx=some (.xd fs)∧fs.lookup f=some v∧Q v H1)
def qfZ (K:PySem.W.Frag) (ta tv:TE) (f:Str):TS:=fun D σ H=>tv σ H fun y H1=>ta σ H1 fun x H2=>(∃ a C dx fs,x=.ref a∧H2 a=some (.ins C dx fs)∧Cls K C∧NoAttr K C f∧fs.length < 1000 ∧
  D.nx σ (upd H2 a (.ins C dx (jZ f y fs)))) ∨
 (∃ a C,x=.ref a∧H2 a=some (XN a C none)∧XAt K C∧NoAttr K C f∧∀ dx,H2 dx=none→D.nx σ (upd (upd H2 dx (.xd [(f,y)])) a (XN a C (some dx))))
section
variable {X:Cx} {o e value:Expr} {f:Str} {pos pos':Pos} {ta tv:TE} {K:PySem.W.Frag}
theorem jk (hK:X.K=K) (he:PE X e ta) (hb:attributeBase e f X.env (eval e X.env)=eval e X.env):PE X (.Attribute e f pos) (qfY K ta f):=by
 subst hK
 intro pins s σ H Q I h
 refine attr_of hb (thn (he pins s σ H _ I h) fun u s1 ⟨x,H1,I1,rx,hx⟩=>?_)
 rcases hx with ⟨a,C,dx,fs,v,rfl,ea,c,n,l,q⟩ | ⟨a,C,dx,fs,v,rfl,ea,c,n,hd,l,q⟩
 ·obtain rfl:u=Value.ref a:=rx
  exact getattr_ok I1 ea c n l fun u' s2 I2 ru=>⟨v,H1,I2,ru,q⟩
 ·obtain rfl:u=Value.ref a:=rx
  obtain ⟨vs,hx⟩:=ea.get I1.hok
  obtain ⟨od,mA,h1,h2,r⟩:=qe4 I1 hd
  obtain ⟨u',hu,ru⟩:=RelO.some_of (v:=v) (o:=mA f) (by rw [← l];exact r f)
  exact xget I1.kIn (od:=some od) ⟨hx,rfl,rfl,h1⟩ c (PySem.W.findObj_own c.hd n rfl (by rw [h2,hu])) (qb9 ru) ⟨v,H1,I1.tok _,ru,q⟩
theorem zY (hK:X.K=K) (ha:PE X o ta) (hv:PE X value tv) (hs:swapsWith value (some (.Attribute o f pos')) pos.line X.env=pure false):PS X (.Assign [.Attribute o f pos'] value pos) (qfZ K ta tv f):=by
 subst hK
 intro pins s σ H D I h
 refine plainObj_wpAny_Assign_Attribute (thn (hv pins s σ H _ I h) fun u s1 ⟨y,H1,I1,ry,q⟩=>thn (ha pins s1 σ H1 _ I1 q) fun ov s2 ⟨x,H2,I2,rx,hx⟩=>?_) hs
 rcases hx with ⟨a,C,dx,fs,rfl,ea,c,n,l,q2⟩ | ⟨a,C,rfl,ea,c,n,q2⟩
 ·obtain rfl:ov=Value.ref a:=rx
  exact setattr_ok I2 ea c n l ry fun s3 I3=>⟨σ,_,I3,q2⟩
 ·obtain rfl:ov=Value.ref a:=rx
  obtain ⟨⟨a0,hx⟩,_⟩:=(show ObjOk X.prog X.w H2 s2.heap a (XN a C none) from I2.hok a _ ea)
  refine xset I2.kIn hx c n fun h' g1 g2 g3=>?_
  have nd:H2 s2.heap.objs.size=none:=I2.hok.fresh (Nat.le_refl _)
  have ne:s2.heap.objs.size≠a:=Nat.ne_of_gt (Heap.lt_size hx)
  refine ⟨σ,_,I2.both (o:=XN a C (some s2.heap.objs.size)) (u:=.xd [(f,y)]) (by rw [ea];exact True.intro) (Nat.le_refl _) g3 ⟨_,g1⟩ (XN.ok g1) ⟨_,g2,fun g=>?_⟩ ne,q2 _ nd⟩
  by_cases hg:g=f
  ·subst hg
   simp only [List.lookup,beq_self_eq_true,if_true]
   exact ry
  ·have hb:(g==f)=false:=beq_eq_false_iff_ne.mpr hg
   simp only [List.lookup,hb,if_neg hg]
   exact True.intro
end
def qeb (C:Addr) (sp:Sp) (E:XK) (t:TA):TE:=fun σ H Q=>t σ H fun vs H1=>vs.length≤1000∧∀ x,H1 x=none→sp (.ref x::vs) (upd H1 x (XN x C none)) (fun v H2=>v=.non∧Q (.ref x) H2) E
structure XMk (K:PySem.W.Frag) (C f:Addr):Prop where
 at_:XAt K C
 init:PySem.W.findIn K (.ref C) "__init__"=some (some (.ref f))
 fn:PySem.W.isFn K (.ref f)=true
 kp:PySem.W.keepIn K (.ref C)=true
section
variable {X:Cx} {CX:CXT} {k:Nat} {f C:Addr} {fd:FuncData} {ps:List Str} {sp:Sp} {E:XK} {x m:Str} {p pos apos:Pos} {e o:Expr} {es:List Expr} {ta:TE} {t:TA}
theorem run_xmake {pins:List (Addr×Obj)} {σ:St} {H:Hp} {s:Shared} {Q:VK} {us:List Value} {vs:List V} (M:XMk X.K C f) (F:FnOk X.prog X.w X.K X.mg X.base CX k f fd ps sp) (hr:Room (k + 1) X.A) (hb:Binds X.K fd ps [])
  (hx:zW CX X E) (I:Inv X pins σ H s) (r:Vals vs us) (hl0:vs.length≤1000) (h:∀ x,H x=none→sp (.ref x::vs) (upd H x (XN x C none)) (fun v H2=>v=.non∧Q (.ref x) H2) E) :
  wpAny (model X.prog X.w) X.A (call (.ref C) us) (EP X pins σ Q) X.xe s:=by
 have hq:=h (s.heap.objs.size + 1) (I.hok.fresh (Nat.le_succ _))
 have up:∀ b o,s.heap.get? b=some o→((s.heap.push { cls:=.type "tuple",data:=.seq us.toArray }).push { cls:=.ref C,data:=.fields (xfs s.heap.objs.size) }).get? b=some o:=fun b o q=>Heap.get?_push_of_some _ (Heap.get?_push_of_some _ q)
 have hget:((s.heap.push { cls:=.type "tuple",data:=.seq us.toArray }).push { cls:=.ref C,data:=.fields (xfs s.heap.objs.size) }).get? (s.heap.objs.size + 1)=some ⟨.ref C,none,.fields (xfs s.heap.objs.size),#[]⟩:=Heap.get?_push_at (by rw [Heap.size_push]) rfl
 have I2:=I.laid (a:=s.heap.objs.size + 1) (o:=XN (s.heap.objs.size + 1) C none) (t':=s.toks) up (Nat.le_succ _) (XN.ok hget)
 have r2:Vals (V.ref (s.heap.objs.size + 1)::vs) (Value.ref (s.heap.objs.size + 1)::us):=.cons rfl r
 have hl:(Value.ref (s.heap.objs.size + 1)::us++[]).length=ps.length:=by
  have q:=r2.length
  rw [F.len _ _ _ _ hq] at q
  rw [List.append_nil]
  exact q.symm
 have hus:us.length≤sizeLine:=by rw [← r.length];exact Nat.le_of_lt (qh hl0)
 refine xcall I.kIn M.at_ M.init M.fn hus (wpAny_call (codeAny_mono (F.run _ X.stack _ _ ⟨Value.ref (s.heap.objs.size + 1)::us,[]⟩ (Value.ref (s.heap.objs.size + 1)::us) _ _ E (hr.make C us [])
  (I2.env0.make C us []) (by have z:=hb _ (Value.ref (s.heap.objs.size + 1)::us) I2.kIn hl;rw [List.append_nil] at z;exact z) r2 hq) fun r s' hq'=>?_))
 cases r with
 | error e=>exact hx pins σ _ _ e s' I2 hq'
 | ok fl =>
  cases fl with
  | ret u =>
   obtain ⟨v,H',I3,rv,ev,q3⟩:=I2.after hq'
   subst ev
   exact ⟨rv,⟨V.ref (s.heap.objs.size + 1),H',I3,rfl,q3⟩⟩
  | next=>exact False.elim hq'
  | brk=>exact False.elim hq'
  | cont=>exact False.elim hq'
theorem pe_xmake (M:XMk X.K C f) (F:FnOk X.prog X.w X.K X.mg X.base CX k f fd ps sp) (hr:Room (k + 1) X.A) (hg:Gl X x) (hm:X.mg x=some (.ref C)) (hb:Binds X.K fd ps []) (hx:zW CX X E)
  (ha:PA X (e::es) t) (hdb:(x==("__debug__":Str))=false:=by decide) (he:starEach (e::es) X.env=(false,eval e X.env)::starEach es X.env:=by rfl) (hpl:(backTo pos (starEach es X.env)).any (·.1)=false:=by rfl) :
  PE X (.Call (.Name x p) (e::es) [] pos) (qeb C sp E t):=by
 intro pins s σ H Q I h
 refine wpAny_Call_Name_kw (zU I hg hm ?_ hdb)
 refine PySem.W.callWith_K (h₀:=X.base) I.ok.mod.kin M.kp (thn (ha pos pins s σ H _ I h) fun us s1 ⟨vs,H1,I1,r,z,q⟩=>⟨I1.kIn,?_⟩) he hpl
 exact run_xmake M F hr hb hx I1 r z q
structure CMeth (K:PySem.W.Frag) (C:Addr) (m:Str) (f:Addr):Prop where
 rd:PySem.W.readsIn K C (.type "type")=true
 at_:PySem.W.findCls K (.ref C) (.type "type") m=some (.val (.ref f))
 ga:PySem.W.specialIn K (.ref C) "__getattribute__"=some (some (.builtin "type.__getattribute__"))
 kp:PySem.W.keepIn K (.ref f)=true
theorem pe_clsm {pl:Sem Bool} (M:CMeth X.K C m f) (F:FnOk X.prog X.w X.K X.mg X.base CX k f fd ps sp) (hr:Room k X.A) (hg:Gl X x) (hm:X.mg x=some (.ref C)) (hb:Binds X.K fd ps []) (hx:zW CX X E) (ha:PA X (e::es) t)
  (hdb:(x==("__debug__":Str))=false:=by decide) (hst:starEach (e::es) X.env=(false,eval e X.env)::starEach es X.env:=by rfl) (hpl:(backTo pos (starEach es X.env)).any (·.1)=false:=by rfl)
  (ht:eval (.Call (.Attribute (.Name x p) m apos) (e::es) [] pos) X.env=(do
   let ov ← eval (.Name x p) X.env
   standAt apos.atName
   let (f,first) ← holding [ov] (getMethod ov m pl)
   callWith pos f first (backTo pos (starEach (e::es) X.env)) (backToKw pos (keywordEach [] X.env))):=by rfl) :
  PE X (.Call (.Attribute (.Name x p) m apos) (e::es) [] pos) (qdW sp [] E t):=by
 intro pins s σ H Q I h
 refine PySem.W.methodCall_KW (pl:=pl) (zU I hg hm ?_ hdb) ht
 refine PySem.W.method_cls I.kIn M.ga (PySem.W.cls_value I.kIn M.rd M.at_ rfl ?_)
 refine PySem.W.callWith_K (first:=[]) (h₀:=X.base) I.ok.mod.kin M.kp (thn (ha pos pins _ σ H _ (I.tok (s.toks + 1)) h) fun us s2 ⟨vs,H2,I2,r,q2⟩=>⟨I2.kIn,?_⟩) hst hpl
 exact qc4 F hr hb .nil hx I2 r q2
end
end L2
namespace L2
open PySem PySem.Spec PyProof.Rows
def qe5 (K:PySem.W.Frag) (t:TA):TE:=fun σ H Q=>t σ H fun vs H1=>∃ a C y,vs=[.ref a,y]∧H1 a=some (XN a C none)∧XAt K C∧Q .non H1
theorem ve_type {M:Model} {h:Heap}:PySem.W.Looks M h (typeOf (.type "ValueError")) (.type "type"):=PySem.W.Looks.of_pure (by kernel_rfl)
theorem ve_opaque {M:Model} {h:Heap}:PySem.W.Looks M h (opaqueClassAbove (.type "ValueError")) none:=PySem.W.Looks.of_pure (by kernel_rfl)
structure VInit (K:PySem.W.Frag):Prop where
 ga:PySem.W.findIn K (.type "type") "__getattribute__"=some (some (.builtin "type.__getattribute__"))
 su:PySem.W.subIn K (.type "type") (.type "type")=some true
 at_:PySem.W.findCls K (.type "ValueError") (.type "type") "__init__"=some (.val (.builtin "ValueError.__init__"))
section
variable {X:Cx} {p pos apos:Pos} {e:Expr} {es:List Expr} {t:TA} {K:PySem.W.Frag}
theorem k_vinit {pl:Sem Bool} (hK:X.K=K) (V:VInit K) (hg:Gl X "ValueError") (hm:X.mg "ValueError"=none) (hv:bootBuiltins "ValueError"=some (.type "ValueError")) (ha:PA X (e::es) t)
  (hst:starEach (e::es) X.env=(false,eval e X.env)::starEach es X.env:=by rfl) (hpl:(backTo pos (starEach es X.env)).any (·.1)=false:=by rfl)
  (ht:eval (.Call (.Attribute (.Name "ValueError" p) "__init__" apos) (e::es) [] pos) X.env=(do
   let ov ← eval (.Name "ValueError" p) X.env
   standAt apos.atName
   let (f,first) ← holding [ov] (getMethod ov "__init__" pl)
   callWith pos f first (backTo pos (starEach (e::es) X.env)) (backToKw pos (keywordEach [] X.env))):=by rfl) :
  PE X (.Call (.Attribute (.Name "ValueError" p) "__init__" apos) (e::es) [] pos) (qe5 K t):=by
 subst hK
 intro pins s σ H Q I h
 refine PySem.W.methodCall_KW (pl:=pl) (qa9 I hg hm hv ?_) ht
 have hgm:∀ {Q':Value×List Value→Shared→Prop},Q' (.builtin "ValueError.__init__",[]) { s with toks:=s.toks + 1 }→wpAny (model X.prog X.w) X.A (getMethod (.type "ValueError") "__init__" pl) Q' X.xe s:=fun {Q'} q=>by
  unfold getMethod
  refine wpAny_bind ((ve_type.andThen (PySem.W.looks_findIn I.kIn V.ga)).here ?_)
  dsimp only
  rw [if_pos PySem.W.canon_tga]
  refine wpAny_bind (PySem.W.cls_open (hook:=none) I.kIn ve_opaque ve_type V.ga (PySem.W.Looks.now) V.su V.at_ (wpAny_pure ?_))
  show wpAny _ _ (handedOut _) _ _ _
  exact PySem.W.handed_on rfl (wpAny_pure q)
 refine hgm ?_
 have hA:=ha pos pins _ σ H _ (I.tok (s.toks + 1)) h
 rw [hst] at hA ⊢
 refine Calls.callWith_builtin (by show (false||(backTo pos (starEach es X.env)).any (·.1))=false;rw [hpl]<;>rfl) (Calls.evalArgs_plain ?_)
 refine thn hA fun us s2 ⟨vs,H2,I2,r2,a,C,y,e1,ea,c,q⟩=>?_
 subst e1
 obtain ⟨u,v,rfl,ru,rv⟩:=qcK r2
 cases ru
 obtain ⟨⟨a0,hx⟩,_⟩:=(show ObjOk X.prog X.w H2 s2.heap a (XN a C none) from I2.hok a _ ea)
 refine xbase_init I2.kIn hx c fun h' a1 g1 g2=>?_
 have J:=I2.write (x:=a) (e:=a) (o:=XN a C none) (t':=s2.toks) (by rw [ea];exact True.intro) (.inl rfl) g2 ⟨_,g1⟩ (XN.ok g1)
 rw [upd_id ea] at J
 exact ⟨.non,H2,J,rfl,q⟩
end
end L2
namespace L2
open PySem PySem.Spec PyProof.Rows
structure Keep (fs zs:List Addr) (h h':Heap):Prop where
 keep:∀ b o,h.get? b=some o→b∉zs→b∉fs→h'.get? b=some o
 slot:∀ b o,h.get? b=some o→b∉zs→b∈fs→∃ sl,h'.get? b=some { o with slots:=sl }
structure Trc (h:Heap) (e:Addr) (C:Value) (dx:Option Addr) (T:Addr) (fl:Value):Prop where
 ex:∃ vs,h.get? e=some ⟨C,dx,.fields vs,#[]⟩∧vs[1]?=some (.ref T)
 tb:∃ ts,h.get? T=some ⟨.type "traceback",none,.fields ts,#[]⟩∧ts[3]?=some fl
 ne:T≠e
section
variable {M:Model} {A:Around} {E:Value→Shared→Prop} {s:Shared} {base:Heap} {env:Env} {outer:List Env} {L e:Addr} {C:Value} {dx:Option Addr} {vs:Array Value}
theorem qe6 {head:Value} {had:Bool} {Q:Unit→Shared→Prop} (hfr:A.frames=some (env::outer)) (hl:s.heap.FunFrames base (env::outer)) (hf:env.frame=some L) (he:s.heap.get? e=some ⟨C,dx,.fields vs,#[]⟩) (hsz:1 < vs.size)
  (h:∀ h' T,s.heap.objs.size≤T→Trc h' e C dx T (rawInt L)→Keep (frs (env::outer)) [e] s.heap h'→Q () { s with heap:=h' }) :
  wpAny M A (do let a ← frameOf env;let pl ← entryPlaceOf L had;let b ← EntryCells.newEntry head a .none (rawInt L) .none pl;setField (.ref e) 1 b) Q E s:=by
 have hene:e∉frs (env::outer):=fun hm=>by
  obtain ⟨_,o,ho,hnf⟩:=hl.mem hm
  rw [he] at ho
  cases ho
  exact hnf vs rfl
 refine wpAny_bind (wpAny_frameOf_fun hfr hl hf fun h₁ hs=>wpAny_bind (wpAny_entryPlaceOf fun pl hpl=>?_))
 unfold EntryCells.newEntry newFields
 refine wpAny_bind (wpAny_newObj_type ?_ (hpl.sizeOk5 _ _ _ _ _))
 have he1:h₁.get? e=some ⟨C,dx,.fields vs,#[]⟩:=(hs.2.1 e hene).trans he
 generalize hts:([head,.ref L,.none,rawInt L,.none]++(if pl.isEmpty then List.replicate 6 Value.none else pl)).toArray=ts
 have h3:ts[3]?=some (rawInt L):=by rw [← hts];first | (simp;done) | (rcases hpl with rfl | ⟨_,_,_,_,_,_,_,rfl⟩<;>simp)
 have he2:=Heap.get?_push_of_some (h:=h₁) { cls:=.type "traceback",dict:=none,data:=.fields ts } he1
 have hTe:h₁.objs.size≠e:=Nat.ne_of_gt (Heap.lt_size he1)
 refine wpAny_setField he2 rfl hsz (h _ h₁.objs.size (Nat.le_of_eq hs.1.symm) ⟨⟨vs.setIfInBounds 1 (.ref h₁.objs.size),?_,by simp [hsz]⟩,⟨ts,?_,h3⟩,hTe⟩ ⟨fun b o q hb hn=>?_,fun b o q hb hn=>?_⟩)
 ·rw [Heap.get?_update_self _ he2 rfl]
  rfl
 ·rw [Heap.get?_update_other _ _ (Ne.symm hTe)]
  exact Heap.get?_push_size h₁ rfl
 ·have hbe:b≠e:=fun z=>hb (by simp [z])
  rw [Heap.get?_update_other _ _ (Ne.symm hbe)]
  exact Heap.get?_push_of_some _ ((hs.2.1 b hn).trans q)
 ·have hbe:b≠e:=fun z=>hb (by simp [z])
  obtain ⟨sl,z⟩:=hs.2.2 b o q
  exact ⟨sl,by rw [Heap.get?_update_other _ _ (Ne.symm hbe)];exact Heap.get?_push_of_some _ z⟩
theorem qcn {Q:Unit→Shared→Prop} (hfr:A.frames=some (env::outer)) (hl:s.heap.FunFrames base (env::outer)) (hf:env.frame=some L) (he:s.heap.get? e=some ⟨C,dx,.fields vs,#[]⟩) (h1:vs[1]?=some .none)
  (h:∀ h' T,s.heap.objs.size≤T→Trc h' e C dx T (rawInt L)→Keep (frs (env::outer)) [e] s.heap h'→Q () { s with heap:=h' }):wpAny M A (noteFrame (.ref e) env) Q E s:=by
 unfold noteFrame
 simp only [hf]
 refine wpAny_bind (wpAny_field he rfl h1 ?_)
 rw [if_neg (by decide)]
 exact qe6 hfr hl hf he (Array.getElem?_eq_some_iff.mp h1).1 h
theorem qdg {T:Addr} {Q:Unit→Shared→Prop} (hfr:A.frames=some (env::outer)) (hl:s.heap.FunFrames base (env::outer)) (hf:env.frame=some L) (t:Trc s.heap e C dx T .none)
  (h:∀ h' T',s.heap.objs.size≤T'→Trc h' e C dx T' (rawInt L)→Keep (frs (env::outer)) [e,T] s.heap h'→Q () { s with heap:=h' }):wpAny M A (noteFrame (.ref e) env) Q E s:=by
 obtain ⟨⟨vs,he,h1⟩,⟨ts,hT,h3⟩,hne⟩:=t
 unfold noteFrame
 simp only [hf]
 refine wpAny_bind (wpAny_field he rfl h1 ?_)
 rw [if_pos (show (Value.ref T != Value.none)=true from by simp)]
 refine wpAny_bind (wpAny_field hT rfl h3 ?_)
 rw [if_neg (show ¬ ((Value.none==rawInt L)=true) from by simp [rawInt])]
 refine wpAny_bind (wpAny_setField hT rfl (Array.getElem?_eq_some_iff.mp h3).1 ?_)
 have other:∀ b,b≠T→(s.heap.update T (Obj.mapFields (·.setIfInBounds 3 Value.none))).get? b=s.heap.get? b:=fun b hb=>Heap.get?_update_other _ _ (Ne.symm hb)
 have szu:(s.heap.update T (Obj.mapFields (·.setIfInBounds 3 Value.none))).objs.size=s.heap.objs.size:=Heap.size_after_update ..
 refine qe6 (s:={ s with heap:=s.heap.update T (Obj.mapFields (·.setIfInBounds 3 Value.none)) }) hfr (hl.of_keeps fun b o hb hnf=>?_) hf ((other e (Ne.symm hne)).trans he) (Array.getElem?_eq_some_iff.mp h1).1 fun h' T' hs t' k=>?_
 ·have nb:b≠T:=fun q=>by rw [q,hT] at hb;cases hb;exact hnf ts rfl
  exact ⟨o,(other b nb).trans hb,rfl⟩
 ·refine h h' T' (by rw [← szu];exact hs) t' ⟨fun b o q hb hn=>?_,fun b o q hb hn=>?_⟩
  ·have nb:b≠T:=fun z=>hb (by simp [z])
   exact k.keep b o ((other b nb).trans q) (fun z=>hb (by simp only [List.mem_singleton] at z;simp [z])) hn
  ·have nb:b≠T:=fun z=>hb (by simp [z])
   exact k.slot b o ((other b nb).trans q) (fun z=>hb (by simp only [List.mem_singleton] at z;simp [z])) hn
theorem qbQ {T:Addr} {fl:Value} {Q:Unit→Shared→Prop} (t:Trc s.heap e C dx T fl) (h:∀ h',Trc h' e C dx T .none→(∀ b o,b≠T→s.heap.get? b=some o→h'.get? b=some o)→h'.objs.size=s.heap.objs.size→Q () { s with heap:=h' }) :
  wpAny M A (setFlight (.ref e) none) Q E s:=by
 obtain ⟨⟨vs,he,h1⟩,⟨ts,hT,h3⟩,hne⟩:=t
 have h3':3 < ts.size:=(Array.getElem?_eq_some_iff.mp h3).1
 unfold setFlight
 refine wpAny_bind (wpAny_field he rfl h1 ?_)
 rw [if_pos (show (Value.ref T != Value.none)=true from by simp)]
 refine wpAny_setField hT rfl h3' (h _ ⟨⟨vs,?_,h1⟩,⟨ts.setIfInBounds 3 .none,?_,by simp [h3']⟩,hne⟩ (fun b o hb q=>?_) (Heap.size_after_update ..))
 ·rw [Heap.get?_update_other _ _ hne]
  exact he
 ·rw [Heap.get?_update_self _ hT rfl]
  rfl
 ·rw [Heap.get?_update_other _ _ (Ne.symm hb)]
  exact q
end
end L2
namespace L2
open PySem PySem.Spec PyProof.Rows
def CX1 (P:Program) (w:World):CXT:=fun outer H s E ev s'=>∃ (a C:Addr) (dx:Option Addr) (T:Addr) (H':Hp),ev=.ref a∧s'.os=s.os∧AllBare s'.gens∧Un (frs outer) [] H H' s.heap s'.heap∧HOk P w H' s'.heap ∧
 H' a=some (XO a C dx)∧Trc s'.heap a (.ref C) dx T .none∧s.heap.objs.size≤T∧H' T=none∧E (.ref C) dx H'
section
variable {X:Cx} {pins:List (Addr×Obj)} {σ:St} {H:Hp} {s:Shared}
theorem qbR {a C T:Addr} {dx:Option Addr} {h':Heap} {fl:Value} {zs:List Addr} (I:Inv X pins σ H s) (ha:H a=some (XO a C dx)) (k:Keep (frs X.stack) zs s.heap h') (hz:∀ b∈zs,b=a∨H b=none) (t:Trc h' a (.ref C) dx T fl):HOk X.prog X.w H h':=fun b u e=>by
 by_cases hb:b=a
 ·subst hb
  rw [ha] at e
  cases e
  obtain ⟨vs,q,_⟩:=t.ex
  exact XO.ok q
 ·have nz:∀ c o,H c=some o→c≠a→c∉zs∧c∉frs X.stack:=fun c o q n=>⟨fun z=>(hz c z).elim n fun y=>(by rw [y] at q;cases q),fun z=>(by have y:=I.stkFree c z;rw [y] at q;cases q)⟩
  refine (I.hok b u e).stay (fun c v hc r=>?_) (fun _ q=>q) fun _ _ q=>q
  rcases hc with rfl | hc
  ·exact k.keep c v r (nz c _ e hb).1 (nz c _ e hb).2
  ·have n:c≠a:=fun z=>by rw [z,ha] at hc;cases hc
   exact k.keep c v r (nz c _ hc n).1 (nz c _ hc n).2
theorem qe7 {a C T:Addr} {dx:Option Addr} {h':Heap} {fl:Value} {zs:List Addr} (I:Inv X pins σ H s) (hex:X.ex=[]) (ha:H a=some (XO a C dx)) (k:Keep (frs X.stack) zs s.heap h') (hz:∀ b∈zs,b=a∨X.s₀.heap.objs.size≤b) (t:Trc h' a (.ref C) dx T fl) :
  Un X.fs [] X.H₀ H X.s₀.heap h':=by
 have B:=I.base
 rw [hex] at B
 have low:∀ b o,X.s₀.heap.get? b=some o→b≠X.env.locals:=fun b o e=>Nat.ne_of_lt (Nat.lt_of_lt_of_le (Heap.lt_size e) I.ok.above)
 have nz:∀ b o,X.s₀.heap.get? b=some o→b≠a→b∉zs:=fun b o e n z=>(hz b z).elim n fun y=>absurd (Nat.lt_of_lt_of_le (Heap.lt_size e) y) (Nat.lt_irrefl _)
 have na:∀ b,H b=none→b≠a:=fun b n z=>by rw [z,ha] at n;cases n
 have nfs:∀ b o,X.s₀.heap.get? b=some o→b∉X.fs→b∉frs X.stack:=fun b o e n z=>(List.mem_cons.mp (I.stkSub b z)).elim (low b o e) n
 refine ⟨fun b o e n hb hx=>?_,fun b o e n hb hx=>?_,B.free,fun b o e hx=>?_,B.tups,B.frzs,B.tbls⟩
 ·exact k.keep b o (B.keep b o e n hb hx) (nz b o e (na b (B.free b o e n hx))) (nfs b o e hb)
 ·obtain ⟨sl,q⟩:=B.slot b o e n hb hx
  have zz:=nz b o e (na b (B.free b o e n hx))
  by_cases hs:b∈frs X.stack
  ·obtain ⟨sl2,q2⟩:=k.slot b _ q zz hs
   exact ⟨sl2,q2⟩
  ·exact ⟨sl,k.keep b _ q zz hs⟩
 ·obtain ⟨o',q⟩:=B.there b o e hx
  by_cases hb:b=a
  ·subst hb
   obtain ⟨vs,z,_⟩:=t.ex
   exact ⟨_,z⟩
  ·have zz:=nz b o e hb
   by_cases hs:b∈frs X.stack
   ·obtain ⟨sl2,q2⟩:=k.slot b _ q zz hs
    exact ⟨_,q2⟩
   ·exact ⟨o',k.keep b _ q zz hs⟩
end
structure XOk (X:Cx) (EK:St→XK):Prop where
 pass:∀ (pins:List (Addr×Obj)) (σ:St) (H:Hp) (s:Shared) (e:Value) (s':Shared),Inv X pins σ H s→CX1 X.prog X.w X.stack H s (EK σ) e s'→X.xe e s'
 rais:∀ (pins:List (Addr×Obj)) (σ:St) (H:Hp) (s:Shared) (a C:Addr) (dx:Option Addr),Inv X pins σ H s→H a=some (XN a C dx)→EK σ (.ref C) dx (upd H a (XO a C dx))→X.xe (.ref a) s
 calm:X.calm=true
section
variable {P:Program} {w:World} {K:PySem.W.Frag} {mg:Str→Option Value} {base:Heap} {N:List Str} {qual:Str} {scope:Scope} {f:Addr} {cd:Value} {A:Around} {outer:List Env} {s0:Shared} {H0:Hp} {E:XK}
theorem qR:XOk (qe0 (CX1 P w) P w K mg base N qual scope f cd A outer s0 H0 E) fun _=>E where
 calm:=rfl
 pass:=by
  intro pins σ H s ev s' I hx
  obtain ⟨a,C,dx,T,H',rfl,hos,hbr,un,hok,ha,t,hT,hTn,q⟩:=hx
  have J:=I.call' (s':=s') (H':=H') (ch:=[]) hos un hok hbr (fun b z=>absurd z (by simp))
  show wpAny _ _ (leaving _ _) _ _ _
  unfold leaving
  refine wpAny_bind (qdg (base:=base) J.ok.frames J.stack rfl t fun h' T' hs t' k=>?_)
  refine qbQ (s:={ s' with heap:=h' }) t' fun h2 t2 k2 sz2=>?_
  have hz0:s0.heap.objs.size≤s.heap.objs.size:=I.sz
  have J2:=J.sz
  have kk:Keep (frs (envOfC qual scope s0.heap.objs.size f cd::outer)) [a,T,T'] s'.heap h2:=by
   refine ⟨fun b o e z n=>?_,fun b o e z n=>?_⟩
   ·simp only [List.mem_cons,List.not_mem_nil,or_false,not_or] at z
    exact k2 b o z.2.2 (k.keep b o e (by simp [z.1,z.2.1]) n)
   ·simp only [List.mem_cons,List.not_mem_nil,or_false,not_or] at z
    obtain ⟨sl,y⟩:=k.slot b o e (by simp [z.1,z.2.1]) n
    exact ⟨sl,k2 b _ z.2.2 y⟩
  have nT':H' T'=none:=J.hok.fresh hs
  refine ⟨a,C,dx,T',H',rfl,J.os,hbr,qe7 J rfl ha kk (fun b hb=>?_) t2,qbR J ha kk (fun b hb=>?_) t2,ha,t2,Nat.le_trans J2 hs,nT',q⟩
  ·simp only [List.mem_cons,List.not_mem_nil,or_false] at hb
   rcases hb with rfl | rfl | rfl
   ·exact .inl rfl
   ·exact .inr (Nat.le_trans hz0 hT)
   ·exact .inr (Nat.le_trans J2 hs)
  ·simp only [List.mem_cons,List.not_mem_nil,or_false] at hb
   rcases hb with rfl | rfl | rfl
   ·exact .inl rfl
   ·exact .inr hTn
   ·exact .inr nT'
 rais:=by
  intro pins σ H s a C dx I e q
  obtain ⟨⟨a0,hx⟩,_⟩:=(show ObjOk _ _ H s.heap a (XN a C dx) from I.hok a _ e)
  have J:Inv _ pins σ (upd H a (XO a C dx)) s:=I.write (x:=a) (e:=a) (o:=XO a C dx) (h':=s.heap) (t':=s.toks) (by rw [e];exact True.intro) (.inl rfl) (fun _ _ _ q=>q) ⟨_,hx⟩ (XO.ok hx)
  show wpAny _ _ (leaving _ _) _ _ _
  unfold leaving
  refine wpAny_bind (qcn (base:=base) J.ok.frames J.stack rfl hx rfl fun h' T' hs t' k=>?_)
  refine qbQ (s:={ s with heap:=h' }) t' fun h2 t2 k2 sz2=>?_
  have J2:=J.sz
  have ha:upd H a (XO a C dx) a=some (XO a C dx):=qc
  have kk:Keep (frs (envOfC qual scope s0.heap.objs.size f cd::outer)) [a,T'] s.heap h2:=by
   refine ⟨fun b o e z n=>?_,fun b o e z n=>?_⟩
   ·simp only [List.mem_cons,List.not_mem_nil,or_false,not_or] at z
    exact k2 b o z.2 (k.keep b o e (by simp [z.1]) n)
   ·simp only [List.mem_cons,List.not_mem_nil,or_false,not_or] at z
    obtain ⟨sl,y⟩:=k.slot b o e (by simp [z.1]) n
    exact ⟨sl,k2 b _ z.2 y⟩
  have nT':upd H a (XO a C dx) T'=none:=J.hok.fresh hs
  refine ⟨a,C,dx,T',_,rfl,J.os,J.bare,qe7 J rfl ha kk (fun b hb=>?_) t2,qbR J ha kk (fun b hb=>?_) t2,ha,t2,Nat.le_trans J2 hs,nT',q⟩
  ·simp only [List.mem_cons,List.not_mem_nil,or_false] at hb
   rcases hb with rfl | rfl
   ·exact .inl rfl
   ·exact .inr (Nat.le_trans J2 hs)
  ·simp only [List.mem_cons,List.not_mem_nil,or_false] at hb
   rcases hb with rfl | rfl
   ·exact .inl rfl
   ·exact .inr nT'
end
def qe8 (K:PySem.W.Frag) (EK:St→XK) (te:TE):TS:=fun _ σ H=>te σ H fun x H1=>∃ a C dx,x=.ref a∧H1 a=some (XN a C dx)∧XAt K C∧EK σ (.ref C) dx (upd H1 a (XO a C dx))
section
variable {X:Cx} {EK:St→XK} {e:Expr} {te:TE} {pos:Pos} {K:PySem.W.Frag}
theorem xraise {M:Model} {A:Around} {E:Value→Shared→Prop} {env:Env} {s:Shared} {x:Sem Value} {Q:Flow→Shared→Prop} (hh:A.handled=none)
  (h:wpAny M A x (fun v s1=>∃ a C dx a0,v=.ref a∧K.In s1.heap∧XAt K C∧s1.heap.get? a=some ⟨.ref C,dx,.fields (xfs a0),#[]⟩∧E (.ref a) s1) E s):wpAny M A (raiseStmt env (some x) none) Q E s:=by
 unfold raiseStmt
 refine wpAny_bind (wpAny_mono h (fun v s1 h1=>?_) fun _ _ z=>z)
 obtain ⟨a,C,dx,a0,rfl,kin,c,he,hE⟩:=h1
 obtain ⟨nm,qn,N,bs,bm,hdct,sn,sub,ab,col,dd,k0,k1,k2,k3,k5,hC,hm⟩:=qdd kin c.xc
 have hcB:(Value.ref C::bm).contains (.type "BaseException")=true:=by rw [List.contains_cons,qaH hm (by simp),Bool.or_true]
 obtain ⟨hp,g,d,tk,os⟩:=s1
 repeat (first | with_reducible refine wpAny_loadPart_at he ?_ | with_reducible refine wpAny_loadPart_at hC ?_ | (with_reducible refine wpAny_isSubtype_exc hC ?_;rw [hcB]) | wp_step)
 exact wpAny_raiseNew_none hh hE
theorem jR (hK:X.K=K) (XX:XOk X EK) (he:PE X e te):PS X (.Raise (some e) none pos) (qe8 K EK te):=by
 subst hK
 intro pins s σ H D I h
 rw [arm_exec_Raise]
 refine wpAny_bind (wpAny_standAt (xraise (K:=X.K) (I.ok.hd XX.calm) ?_))
 refine wpAny_bind (thn (he pins s σ H _ I h) fun v s1 ⟨x,H1,I1,rx,a,C,dx,ex,ea,c,q⟩=>wpAny_bind (wpAny_standAt (wpAny_pure ?_)))
 subst ex
 cases rx
 obtain ⟨⟨a0,hx⟩,_⟩:=(show ObjOk _ _ H1 s1.heap a (XN a C dx) from I1.hok a _ ea)
 exact ⟨a,C,dx,a0,rfl,I1.kIn,c,hx,XX.rais pins σ H1 s1 a C dx I1 ea q⟩
end
end L2
namespace L2
open PySem PySem.Spec PyProof.Rows
def qe9 (sp:Sp) (EK:St→XK) (t:TA):TE:=fun σ H Q=>t σ H fun vs H1=>sp vs H1 Q (EK σ)
def qfa (C:Addr) (m:Str) (sp:Sp) (EK:St→XK) (ta:TE) (t:TA):TE:=fun σ H Q=>ta σ H fun x H1=>∃ a dx fs,x=.ref a∧H1 a=some (.ins C dx fs)∧fs.lookup m=none∧t σ H1 fun vs H2=>sp (x::vs) H2 Q (EK σ)
def qfb (C:Addr) (sp:Sp) (EK:St→XK) (t:TA):TE:=fun σ H Q=>t σ H fun vs H1=>∀ x dx,H1 x=none→H1 dx=none→dx≠x →
 sp (.ref x::vs) (upd (upd H1 dx (.own x)) x (.ins C dx [])) (fun v H2=>v=.non∧Q (.ref x) H2) (EK σ)
theorem FnOk.quiet {P:Program} {w:World} {K:PySem.W.Frag} {mg:Str→Option Value} {base:Heap} {k:Nat} {f:Addr} {fd:FuncData} {ps:List Str} {sp:Sp} (F:FnOk P w K mg base (CX1 P w) k f fd ps sp) :
  FnOk P w K mg base CX0 k f fd ps (fun vs H Q _=>sp vs H Q E0):=by
 refine ⟨fun vs H Q E h=>F.len vs H Q E0 h,fun A outer s H args us vs Q E hr he hb hv hs=>codeAny_mono (F.run A outer s H args us vs Q E0 hr he hb hv hs) fun r s' q=>?_⟩
 cases r with
 | ok fl=>cases fl<;>exact q
 | error e =>
  obtain ⟨_,_,_,_,_,_,_,_,_,_,_,_,_,_,z⟩:=q
  exact z.elim
structure MethOk (P:Program) (w:World) (K:PySem.W.Frag) (mg:Str→Option Value) (base:Heap) (CX:CXT) (k:Nat) (C:Addr) (m:Str) (ps:List Str) (sp:Sp):Prop where
 ex:∃ f fd,FnOk P w K mg base CX k f fd ps sp∧Meth K C m f∧Binds K fd ps []
 cl:Cls K C
structure MakeOk (P:Program) (w:World) (K:PySem.W.Frag) (mg:Str→Option Value) (base:Heap) (CX:CXT) (k:Nat) (C:Addr) (x:Str) (ps:List Str) (sp:Sp):Prop where
 ex:∃ f fd,FnOk P w K mg base CX k f fd ps sp∧Mk K C f∧Binds K fd ps []
 mg_:mg x=some (.ref C)
structure XMakeOk (P:Program) (w:World) (K:PySem.W.Frag) (mg:Str→Option Value) (base:Heap) (k:Nat) (C:Addr) (x:Str) (ps:List Str) (sp:Sp):Prop where
 ex:∃ f fd,FnOk P w K mg base CX0 k f fd ps sp∧XMk K C f∧Binds K fd ps []
 mg_:mg x=some (.ref C)
section
variable {X:Cx} {EK:St→XK} {k:Nat} {f C:Addr} {fd:FuncData} {ps:List Str} {sp:Sp} {x m:Str} {p pos apos:Pos} {e o:Expr} {es:List Expr} {ta:TE} {t:TA}
theorem qec {pins:List (Addr×Obj)} {σ:St} {H:Hp} {s:Shared} {Q:VK} {us:List Value} {vs:List V} (F:FnOk X.prog X.w X.K X.mg X.base (CX1 X.prog X.w) k f fd ps sp) (hr:Room k X.A) (hb:Binds X.K fd ps []) (XX:XOk X EK)
  (I:Inv X pins σ H s) (r:Vals vs us) (h:sp vs H Q (EK σ)):wpAny (model X.prog X.w) X.A (call (.ref f) us) (EP X pins σ Q) X.xe s:=by
 have hl:(us++[]).length=ps.length:=by rw [List.append_nil,← r.length];exact F.len _ _ _ _ h
 have b:=hb s us I.kIn hl
 rw [List.append_nil] at b
 refine wpAny_call (codeAny_mono (F.run X.A X.stack s H ⟨us,[]⟩ us vs Q (EK σ) hr I.env0 b r h) fun r s' hq=>?_)
 cases r with
 | error e=>exact XX.pass pins σ H s e s' I hq
 | ok fl =>
  cases fl with
  | ret u=>exact I.after hq
  | _=>exact False.elim hq
theorem qed (D:DefOk X.prog X.w X.K X.mg X.base (CX1 X.prog X.w) k x ps sp) (hr:Room k X.A) (XX:XOk X EK) (ha:PA X (e::es) t) (hg:Gl X x:=by rfl) (hdb:(x==("__debug__":Str))=false:=by decide)
  (he:starEach (e::es) X.env=(false,eval e X.env)::starEach es X.env:=by rfl) (hpl:(backTo pos (starEach es X.env)).any (·.1)=false:=by rfl):PE X (.Call (.Name x p) (e::es) [] pos) (qe9 sp EK t):=by
 obtain ⟨f,fd,F,hm,hk,hb⟩:=D.ex
 intro pins s σ H Q I h
 refine wpAny_Call_Name_kw (zU I hg hm ?_ hdb)
 refine PySem.W.callWith_K (h₀:=X.base) I.ok.mod.kin hk (thn (ha pos pins s σ H _ I h) fun us s1 ⟨vs,H1,I1,r,q⟩=>⟨I1.kIn,?_⟩) he hpl
 exact qec F hr hb XX I1 r q
theorem jS {pl:Sem Bool} (D:MethOk X.prog X.w X.K X.mg X.base (CX1 X.prog X.w) k C m ps sp) (hr:Room k X.A) (XX:XOk X EK) (he:PE X o ta) (ha:PA X (e::es) t)
  (hst:starEach (e::es) X.env=(false,eval e X.env)::starEach es X.env:=by rfl) (hpl:(backTo pos (starEach es X.env)).any (·.1)=false:=by rfl)
  (ht:eval (.Call (.Attribute o m apos) (e::es) [] pos) X.env=(do
   let ov ← eval o X.env
   standAt apos.atName
   let (f,first) ← holding [ov] (getMethod ov m pl)
   callWith pos f first (backTo pos (starEach (e::es) X.env)) (backToKw pos (keywordEach [] X.env))):=by rfl) :
  PE X (.Call (.Attribute o m apos) (e::es) [] pos) (qfa C m sp EK ta t):=by
 obtain ⟨f,fd,F,hm,hb⟩:=D.ex
 intro pins s σ H Q I h
 refine PySem.W.methodCall_KW (pl:=pl) (thn (he pins s σ H _ I h) fun u s1 ⟨x,H1,I1,rx,a,dx,fs,ex,ea,l,q⟩=>?_) ht
 subst ex
 obtain rfl:u=Value.ref a:=rx
 refine qaV I1 ea D.cl hm l ?_
 refine PySem.W.callWith_K (first:=[.ref a]) (h₀:=X.base) I.ok.mod.kin hm.kp (thn (ha pos pins s1 σ H1 _ I1 q) fun us s2 ⟨vs,H2,I2,r,q2⟩=>⟨I2.kIn,?_⟩) hst hpl
 exact qec (us:=.ref a::us) (vs:=.ref a::vs) F hr hb XX I2 (.cons rfl r) q2
theorem run_makeS {pins:List (Addr×Obj)} {σ:St} {H:Hp} {s:Shared} {Q:VK} {us:List Value} {vs:List V} (M:Mk X.K C f) (F:FnOk X.prog X.w X.K X.mg X.base (CX1 X.prog X.w) k f fd ps sp) (hr:Room (k + 1) X.A) (hb:Binds X.K fd ps []) (XX:XOk X EK)
  (I:Inv X pins σ H s) (r:Vals vs us) (h:∀ x dx,H x=none→H dx=none→dx≠x→sp (.ref x::vs) (upd (upd H dx (.own x)) x (.ins C dx [])) (fun v H2=>v=.non∧Q (.ref x) H2) (EK σ)) :
  wpAny (model X.prog X.w) X.A (call (.ref C) us) (EP X pins σ Q) X.xe s:=by
 have hq:=h (s.heap.objs.size + 1) s.heap.objs.size (I.hok.fresh (Nat.le_succ _)) (I.hok.fresh (Nat.le_refl _)) (Nat.ne_of_lt (Nat.lt_succ_self _))
 have I2:=Inv.made (C:=C) I
 have r2:Vals (V.ref (s.heap.objs.size + 1)::vs) (Value.ref (s.heap.objs.size + 1)::us):=.cons rfl r
 have hl:(Value.ref (s.heap.objs.size + 1)::us++[]).length=ps.length:=by
  have q:=r2.length
  rw [F.len _ _ _ _ hq] at q
  rw [List.append_nil]
  exact q.symm
 have b:=hb _ (Value.ref (s.heap.objs.size + 1)::us) I2.kIn hl
 rw [List.append_nil] at b
 refine wpAny_call (qc3 (f:=f) I.kIn M.makes M.init (beq_iff_eq.mp M.fn) (codeAny_mono (F.run _ X.stack _ _ ⟨Value.ref (s.heap.objs.size + 1)::us,[]⟩ (Value.ref (s.heap.objs.size + 1)::us) _ _ (EK σ) (hr.make C us [])
  (I2.env0.make C us []) b r2 hq) fun r s' hq'=>?_))
 cases r with
 | error e=>exact XX.pass pins σ _ _ e s' I2 hq'
 | ok fl =>
  cases fl with
  | ret u =>
   obtain ⟨v,H',I3,rv,ev,q3⟩:=I2.after hq'
   subst ev
   exact ⟨rv,⟨V.ref (s.heap.objs.size + 1),H',I3,rfl,q3⟩⟩
  | _=>exact False.elim hq'
theorem qa6 (D:MakeOk X.prog X.w X.K X.mg X.base (CX1 X.prog X.w) k C x ps sp) (hr:Room (k + 1) X.A) (XX:XOk X EK) (ha:PA X (e::es) t) (hg:Gl X x:=by rfl) (hdb:(x==("__debug__":Str))=false:=by decide)
  (he:starEach (e::es) X.env=(false,eval e X.env)::starEach es X.env:=by rfl) (hpl:(backTo pos (starEach es X.env)).any (·.1)=false:=by rfl):PE X (.Call (.Name x p) (e::es) [] pos) (qfb C sp EK t):=by
 obtain ⟨f,fd,F,M,hb⟩:=D.ex
 intro pins s σ H Q I h
 refine wpAny_Call_Name_kw (zU I hg D.mg_ ?_ hdb)
 refine PySem.W.callWith_K (h₀:=X.base) I.ok.mod.kin M.kp (thn (ha pos pins s σ H _ I h) fun us s1 ⟨vs,H1,I1,r,q⟩=>⟨I1.kIn,?_⟩) he hpl
 exact run_makeS M F hr hb XX I1 r q
theorem qaI (D:XMakeOk X.prog X.w X.K X.mg X.base k C x ps sp) (hr:Room (k + 1) X.A) (ha:PA X (e::es) t) (hg:Gl X x:=by rfl) (hdb:(x==("__debug__":Str))=false:=by decide)
  (he:starEach (e::es) X.env=(false,eval e X.env)::starEach es X.env:=by rfl) (hpl:(backTo pos (starEach es X.env)).any (·.1)=false:=by rfl):PE X (.Call (.Name x p) (e::es) [] pos) (qeb C sp E0 t):=by
 obtain ⟨f,fd,F,M,hb⟩:=D.ex
 exact pe_xmake M F hr hg D.mg_ hb qx ha hdb he hpl
theorem jT {pl:Sem Bool} (D:MethOk X.prog X.w X.K X.mg X.base CX0 k C m ps sp) (hr:Room k X.A) (he:PE X o ta) (ha:PA X (e::es) t)
  (hst:starEach (e::es) X.env=(false,eval e X.env)::starEach es X.env:=by rfl) (hpl:(backTo pos (starEach es X.env)).any (·.1)=false:=by rfl)
  (ht:eval (.Call (.Attribute o m apos) (e::es) [] pos) X.env=(do
   let ov ← eval o X.env
   standAt apos.atName
   let (f,first) ← holding [ov] (getMethod ov m pl)
   callWith pos f first (backTo pos (starEach (e::es) X.env)) (backToKw pos (keywordEach [] X.env))):=by rfl) :
  PE X (.Call (.Attribute o m apos) (e::es) [] pos) (qdX C m sp [] E0 ta t):=by
 obtain ⟨f,fd,F,hm,hb⟩:=D.ex
 exact pe_meth (pl:=pl) he D.cl hm F hr hb .nil qx ha hst hpl ht
theorem qZ {pl:Sem Bool} (D:MethOk X.prog X.w X.K X.mg X.base CX0 k C m ps sp) (hr:Room k X.A) (he:PE X o ta)
  (ht:eval (.Call (.Attribute o m apos) [] [] pos) X.env=(do
   let ov ← eval o X.env
   standAt apos.atName
   let (f,first) ← holding [ov] (getMethod ov m pl)
   callWith pos f first (backTo pos (starEach [] X.env)) (backToKw pos (keywordEach [] X.env))):=by rfl) :
  PE X (.Call (.Attribute o m apos) [] [] pos) (qdX C m sp [] E0 ta qeZ):=by
 obtain ⟨f,fd,F,hm,hb⟩:=D.ex
 exact pe_meth0 (pl:=pl) he D.cl hm F hr hb .nil qx ht
end
section
variable {P:Program} {w:World} {K:PySem.W.Frag} {mg:Str→Option Value} {base:Heap}
theorem Fun.ok1 {x qual:Str} {st:Stmt} {f:Addr} {fd:FuncData} {N ps:List Str} {k:Nat} {sp:Sp} (F:Fun K x qual st f fd) (S:FnScope N ps (qe st)) (len:∀ vs H Q E,sp vs H Q E→vs.length=ps.length)
  (hbody:∀ (cdv:Value) (A:Around) (outer:List Env) (s:Shared) (H:Hp) (vs:List V) (Q:VK) (E:XK),Room k (A.deeper (envOfC qual (qe st) s.heap.objs.size f cdv))→sp vs H Q E →
   ∃ t,PSs (qe0 (CX1 P w) P w K mg base N qual (qe st) f cdv A outer s H E) (qj st) t∧t { nx:=fun _ H'=>Q .non H',rt:=Q } (start N vs) H):FnOk P w K mg base (CX1 P w) (k + 1) f fd ps sp:=by
 obtain ⟨oc,od,kV,doc,pm,an,cdv,ct,osl,rfl,lk,hcd⟩:=F.ex
 exact qfP lk hcd S len fun A outer s H vs Q E hr hsp=>hbody cdv A outer s H vs Q E hr hsp
end
end L2
namespace L2
open PySem PySem.Spec PyProof.Rows
abbrev Cx.tried (X:Cx) (pn:List (Addr×Obj)) (E:Value→Shared→Prop):Cx:={ X with pn:=pn,xe:=E }
abbrev Cx.hand (X:Cx) (a:Addr):Cx:={ X with A:=X.A.mark (some (.ref a)),calm:=false,xe:=fun _ _=>False }
section
variable {X:Cx} {pins pins':List (Addr×Obj)} {σ:St} {H:Hp} {s:Shared} {E:Value→Shared→Prop} {a:Addr}
theorem Inv.tried (I:Inv X pins σ H s) (E:Value→Shared→Prop):Inv (X.tried (X.pn++pins) E) [] σ H s:=
 ⟨⟨I.ok.mod,I.ok.kind,I.ok.glob,I.ok.blt,I.ok.above,I.ok.inj,I.ok.has,I.ok.cab,I.ok.hd,I.ok.frames,I.ok.stk,I.ok.exf,I.ok.bs,I.ok.bsz,I.ok.noex,I.ok.exfs,I.ok.funs,I.ok.frf⟩,I.os,I.bare,I.base,I.loc,I.cell,I.free,I.freeC,
  fun p hp=>I.pin p (by have hp:p∈(X.pn++pins)++[]:=hp;rw [List.append_nil] at hp;exact hp),I.hok,I.len⟩
theorem Inv.untried (I:Inv (X.tried (X.pn++pins) E) pins' σ H s):Inv X pins σ H s:=
 ⟨⟨I.ok.mod,I.ok.kind,I.ok.glob,I.ok.blt,I.ok.above,I.ok.inj,I.ok.has,I.ok.cab,I.ok.hd,I.ok.frames,I.ok.stk,I.ok.exf,I.ok.bs,I.ok.bsz,I.ok.noex,I.ok.exfs,I.ok.funs,I.ok.frf⟩,I.os,I.bare,I.base,I.loc,I.cell,I.free,I.freeC,
  fun p hp=>I.pin p (List.mem_append_left _ hp),I.hok,I.len⟩
theorem Inv.hand (I:Inv X pins σ H s) (a:Addr):Inv (X.hand a) pins σ H s:=
 ⟨⟨I.ok.mod,I.ok.kind,I.ok.glob,I.ok.blt,I.ok.above,I.ok.inj,I.ok.has,I.ok.cab,(fun h=>nomatch h),I.ok.frames,I.ok.stk,I.ok.exf,I.ok.bs,I.ok.bsz,I.ok.noex,I.ok.exfs,I.ok.funs,I.ok.frf⟩,I.os,I.bare,I.base,I.loc,I.cell,I.free,I.freeC,I.pin,I.hok,I.len⟩
theorem Inv.unhand (hc:X.calm=true→X.A.handled=none) (I:Inv (X.hand a) pins σ H s):Inv X pins σ H s:=
 ⟨⟨I.ok.mod,I.ok.kind,I.ok.glob,I.ok.blt,I.ok.above,I.ok.inj,I.ok.has,I.ok.cab,hc,I.ok.frames,I.ok.stk,I.ok.exf,I.ok.bs,I.ok.bsz,I.ok.noex,I.ok.exfs,I.ok.funs,I.ok.frf⟩,I.os,I.bare,I.base,I.loc,I.cell,I.free,I.freeC,I.pin,I.hok,I.len⟩
structure Loose (X:Cx) (pins:List (Addr×Obj)) (H:Hp) (T:Addr):Prop where
 hn:H T=none
 lo:X.s₀.heap.objs.size≤T
 nl:T≠X.env.locals
 nf:T∉X.fs
 nc:∀ x c,X.env.cells.lookup x=some c→c≠T
 np:∀ p∈X.pn++pins,p.1≠T
theorem Inv.loose (I:Inv X pins σ H s) {T:Addr} (hT:s.heap.objs.size≤T) {H':Hp} (hn:H' T=none):Loose X pins H' T where
 hn:=hn
 lo:=Nat.le_trans I.sz hT
 nl:=Nat.ne_of_gt (Nat.lt_of_lt_of_le I.lt hT)
 nf:=I.nofs hT
 nc:=fun x c e=>by
  obtain ⟨v,o,ho,_⟩:=I.cell x c e
  exact Nat.ne_of_lt (Nat.lt_of_lt_of_le (Heap.lt_size ho) hT)
 np:=fun p hp=>Nat.ne_of_lt (Nat.lt_of_lt_of_le (Heap.lt_size (I.pin p hp).1) hT)
theorem Inv.noted {C T:Addr} {dx:Option Addr} {fl:Value} {zs:List Addr} {h':Heap} (I:Inv X pins σ H s) (ha:H a=some (XO a C dx)) (k:Keep (frs X.stack) zs s.heap h') (hz:∀ b∈zs,b=a∨Loose X pins H b) (t:Trc h' a (.ref C) dx T fl) :
  Inv X pins σ H { s with heap:=h' }:=by
 have hh:=qbR I ha k (fun b hb=>(hz b hb).imp (fun e=>e) fun l=>l.hn) t
 have nz:∀ b,H b=none→b∉zs.filter (fun b=>decide (b≠a))→b∉zs:=fun b n z y=>z (List.mem_filter.mpr ⟨y,decide_eq_true fun e=>by rw [e,ha] at n;cases n⟩)
 refine I.call (g':=s.gens) (t':=s.toks) (d':=s.drawn) (ch:=zs.filter fun b=>decide (b≠a)) ⟨fun b o e n hb hx=>k.keep b o e (nz b n hx) hb,fun b o e n hb hx=>k.slot b o e (nz b n hx) hb,fun _ _ _ n _=>n,fun b o e hx=>?_,fun _ _ e=>e,fun _ _ _ e=>e,
  fun b ps e=>⟨#[],by rw [e];simp⟩⟩ hh I.bare fun b hb=>?_
 ·by_cases hba:b=a
  ·subst hba
   obtain ⟨vs,q,_⟩:=t.ex
   exact ⟨_,q⟩
  ·have z:b∉zs:=fun y=>hx (List.mem_filter.mpr ⟨y,decide_eq_true hba⟩)
   by_cases hs:b∈frs X.stack
   ·obtain ⟨sl,q⟩:=k.slot b o e z hs
    exact ⟨_,q⟩
   ·exact ⟨o,k.keep b o e z hs⟩
 ·obtain ⟨y,q⟩:=List.mem_filter.mp hb
  rcases hz b y with e | l
  ·exact absurd e (of_decide_eq_true q)
  ·exact ⟨.inr l.lo,l.nl,l.nc,l.np⟩
theorem unbind_ok {M:Model} {A:Around} {i:Nat} {x:Str} {v:V} {Q:Unit→Shared→Prop} (I:Inv X pins σ H s) (hN:X.N.Nodup) (hi:X.N[i]?=some x) (hx:X.env.scope.names.lookup x=some .local) (hv:σ[i]?=some (some v))
  (h:∀ s',Inv X pins (σ.set i none) H s'→Q () s'):wpAny M A (unbindName X.env x) Q E s:=by
 obtain ⟨m,hn,hl⟩:=id I.loc
 obtain ⟨u,ru,lk⟩:=hl i x v hi hv (.inl hx)
 have hm:m x=some u:=by
  rcases lk with ⟨_,e⟩ | ⟨k,_⟩
  ·exact e
  ·have k':X.env.scope.names.lookup x=some .cell∨X.env.scope.names.lookup x=some .free:=k
   rw [hx] at k'
   rcases k' with z | z<;>cases z
 have hcls:(X.env.scope.kind==.class||(X.env.scope.kind==.module&&X.env.locals != X.env.globals))=false:=by rw [I.ok.kind];rfl
 refine wpAny_unbindName_local hx hn hm hcls fun h' u' hn' hs=>?_
 have lowL:∀ b o,X.s₀.heap.get? b=some o→b≠X.env.locals:=fun b o e=>Nat.ne_of_lt (Nat.lt_of_lt_of_le (Heap.lt_size e) I.ok.above)
 refine h _ ⟨I.ok,I.os,I.bare,⟨fun b o e n hb hx=>?_,fun b o e n hb hx=>?_,I.base.free,fun b o e hx=>?_,I.base.tups,I.base.frzs,I.base.tbls⟩,⟨_,hn',fun j y v' e1 e2 e3=>?_⟩,fun y c e=>?_,I.free,I.freeC,fun p hp=>?_,fun b ob e=>?_,by simpa using I.len⟩
 ·exact (hs.2 b (lowL b o e)).trans (I.base.keep b o e n hb hx)
 ·obtain ⟨sl,e1⟩:=I.base.slot b o e n hb hx
  exact ⟨sl,(hs.2 b (lowL b o e)).trans e1⟩
 ·obtain ⟨o',e1⟩:=I.base.there b o e hx
  exact ⟨o',(hs.2 b (lowL b o e)).trans e1⟩
 ·by_cases hj:j=i
  ·subst hj
   have hlt:j < σ.length:=by rw [I.len];exact (List.getElem?_eq_some_iff.mp hi).1
   rw [List.getElem?_set_self hlt] at e2
   cases e2
  ·rw [List.getElem?_set_ne (Ne.symm hj)] at e2
   obtain ⟨w',r',q⟩:=hl j y v' e1 e2 e3
   refine ⟨w',r',?_⟩
   rcases q with ⟨k,e⟩ | ⟨k,c,e,z⟩
   ·have ny:y≠x:=fun e=>hj (qbM hN e1 (e ▸ hi))
    exact .inl ⟨k,by simp [ny,e]⟩
   ·exact .inr ⟨k,c,e,z.sameBut hs (I.cne y c e)⟩
 ·obtain ⟨w',z⟩:=I.cell y c e
  exact ⟨w',z.sameBut hs (I.cne y c e)⟩
 ·obtain ⟨e,n,ne,nf,d⟩:=I.pin p hp
  exact ⟨(hs.2 p.1 ne).trans e,n,ne,nf,d⟩
 ·refine (I.hok b ob e).stay (fun c w' hc q=>(hs.2 c ?_).trans q) (fun _ q=>q) fun _ _ q=>q
  rintro rfl
  rcases hc with rfl | hc
  ·rw [I.free] at e;cases e
  ·rw [I.free] at hc;cases hc
end
end L2
namespace L2
open PySem PySem.Spec PyProof.Rows
structure Held (X:Cx) (pins:List (Addr×Obj)) (H:Hp) (h:Heap) (a C:Addr) (dx:Option Addr):Prop where
 at_:H a=some (XO a C dx)
 tr:∃ T,Trc h a (.ref C) dx T .none∧Loose X pins H T
def PH (X:Cx) (a C:Addr) (dx:Option Addr) (hs:List ExceptHandler) (th:TS):Prop:=
 ∀ (pins:List (Addr×Obj)) (s:Shared) (σ:St) (H:Hp) (D:Ends),Inv X pins σ H s→Held X pins H s.heap a C dx→th D σ H→wpAny (model X.prog X.w) X.A (handleBy (.ref a) X.env hs) (SP X pins D) X.xe s
def thNil:TS:=fun _ _ _=>False
def thAs (K:PySem.W.Frag) (a C D:Addr) (i:Nat) (tb rest:TS):TS:=fun Z σ H=>∃ b,PySem.W.mroIn K C (.ref D)=some b∧XAt K D∧XAt K C ∧
 if b=true then tb { nx:=fun σ' H'=>Z.nx (σ'.set i none) H',rt:=Z.rt,bk:=fun σ' H'=>Z.bk (σ'.set i none) H',ct:=fun σ' H'=>Z.ct (σ'.set i none) H' } (σ.set i (some (.ref a))) H else rest Z σ H
theorem xmatch {M:Model} {A:Around} {E:Value→Shared→Prop} {s:Shared} {K:PySem.W.Frag} {a C D:Addr} {o:Obj} {b:Bool} {Q:Bool→Shared→Prop} (X:K.In s.heap) (ho:s.heap.get? a=some o) (hc:o.cls=.ref C) (d:XAt K D) (hb:PySem.W.mroIn K C (.ref D)=some b) (q:Q b s) :
  wpAny M A (excMatches (.ref a) (.ref D)) Q E s:=by
 obtain ⟨nm,qn,N,bs,bm,hdct,sn,sub,ab,col,dd,k0,k1,k2,k3,k5,hD,hm⟩:=qdd X d.xc
 have hcB:(Value.ref D::bm).contains (.type "BaseException")=true:=by rw [List.contains_cons,qaH hm (by simp),Bool.or_true]
 have f:=tc_notTuple
 have L:=PySem.W.looks_mroIn (M:=M) X hb
 obtain ⟨hp,g,dr,tk,os⟩:=s
 unfold excMatches
 repeat (first | with_reducible refine wpAny_loadPart_at hD ?_ | (with_reducible refine wpAny_loadPart_at ho ?_;rw [hc]) | (with_reducible refine wpAny_isSubtype_exc hD ?_;rw [hcB]) | with_reducible refine L.at ?_ | wp_step)
 cases b<;>(wp_walk;exact q)
section
variable {X:Cx} {a C D:Addr} {dx:Option Addr} {c n:Str} {cp pos:Pos} {b0:Stmt} {body:List Stmt} {rest:List ExceptHandler} {tb tr:TS} {i:Nat} {K:PySem.W.Frag}
theorem ph_nil:PH X a C dx [] thNil:=fun _ _ _ _ _ _ _ h=>h.elim
theorem suite_as {prog:Program} {w:World} {A:Around} {R:Result→Shared→Prop} {s:Shared} {env:Env} {e:Value}
  (h:wpAny (model prog w) A (setFlight e none) (fun _ s1=>wpAny (model prog w) A (bindName env n e) (fun _ s2=>wpAny (model prog w) A (execs (b0::body) env) (fun f s3=>R (.ok f) s3) (fun _ _=>False) s2) (fun _ _=>False) s1) (fun _ _=>False) s) :
  codeAny (model prog w) A (.handlers e [.ExceptHandler none (some n) (b0::body) pos] env) R s:=by
 refine codeAny_of_tree ?_
 show wpAny _ A (do return Fin.done (← (handleWith e env [.ExceptHandler none (some n) (b0::body) pos]).onRaise (fun x=>do noteFrame x env;theTreesLotGoes x))) _ _ s
 refine wpAny_bind (wpAny_noted ?_)
 unfold handleWith
 refine wpAny_bind (wpAny_standAt (wpAny_bind (wpAny_mono h (fun _ s1 h1=>wpAny_bind (wpAny_mono h1 (fun _ s2 h2=>wpAny_bind (wpAny_attempt (wpAny_mono h2 (fun f s3 h3=>wpAny_pure (wpAny_pure h3)) fun _ _ z=>z.elim))) fun _ _ z=>z.elim)) fun _ _ z=>z.elim)))
theorem ph_as (hK:X.K=K) (hN:X.N.Nodup) (hi:X.N[i]?=some n) (hx:X.env.scope.names.lookup n=some .local) (hg:Gl X c) (hm:X.mg c=some (.ref D)) (hb:PSs (X.hand a) (b0::body) tb) (hr:PH X a C dx rest tr)
  (hdb:(c==("__debug__":Str))=false:=by decide):PH X a C dx (.ExceptHandler (some (.Name c cp)) (some n) (b0::body) pos::rest) (thAs K a C D i tb tr):=by
 subst hK
 intro pins s σ H Z I hl h
 obtain ⟨b,hb1,xd,xc,q⟩:=h
 obtain ⟨vs,he⟩:=(show IsX H a C dx from .inr hl.at_).get I.hok
 refine wpAny_handleBy_cons (codeAny_handlers_test ?_) (by intro q;cases q)
 have Ih:=I.hand a
 refine zU (X:=X.hand a) Ih hg hm (xmatch I.kIn he rfl xd hb1 ?_) hdb
 cases b with
 | false=>exact hr pins s σ H Z I hl q
 | true =>
  obtain ⟨T,t,lo⟩:=hl.tr
  refine suite_as (qbQ t fun h1 t1 k1 sz1=>?_)
  have kk:Keep (frs X.stack) [T] s.heap h1:=⟨fun b o e z _=>k1 b o (by simpa using z) e,fun b o e z _=>⟨o.slots,k1 b o (by simpa using z) e⟩⟩
  have I1:=I.noted hl.at_ kk (fun b hb=>.inr (by rw [List.mem_singleton.mp hb];exact lo)) t1
  have I2:=I1.hand a
  refine wpAny_bindName (qa4 (X:=X.hand a) I2 hN hi (.inl hx) (v:=.ref a) rfl (fun s2 I3=>?_) (.inr hx))
  have q':tb { nx:=fun σ' H'=>Z.nx (σ'.set i none) H',rt:=Z.rt,bk:=fun σ' H'=>Z.bk (σ'.set i none) H',ct:=fun σ' H'=>Z.ct (σ'.set i none) H' } (σ.set i (some (.ref a))) H:=q
  refine thn (hb pins s2 _ H _ I3 q') fun f s3 hf=>?_
  have fin:∀ {σ':St} {H':Hp} {Q:Unit→Shared→Prop},Inv (X.hand a) pins σ' H' s3→(∀ s4,Inv X pins (σ'.set i none) H' s4→Q () s4)→wpAny (model X.prog X.w) X.A (do bindName X.env n .none;unbindBehindTheSuite X.env n pos) Q X.xe s3:=fun {σ' H' Q} J k=>by
   have J':=Inv.unhand I.ok.hd J
   have hlt:i < σ'.length:=by rw [J'.len];exact (List.getElem?_eq_some_iff.mp hi).1
   refine wpAny_bind (wpAny_bindName (qa4 J' hN hi (.inl hx) (v:=.non) rfl (fun s4 J4=>?_) (.inr hx)))
   refine wpAny_onRaise (unbind_ok J4 hN hi hx (v:=.non) (by rw [List.getElem?_set_self hlt]) fun s5 J5=>k s5 ?_)
   rw [List.set_set] at J5
   exact J5
  cases f with
  | next=>obtain ⟨σ',H',J,z⟩:=hf;exact fin J fun s4 J4=>⟨_,H',J4,z⟩
  | brk=>obtain ⟨σ',H',J,z⟩:=hf;exact fin J fun s4 J4=>⟨_,H',J4,z⟩
  | cont=>obtain ⟨σ',H',J,z⟩:=hf;exact fin J fun s4 J4=>⟨_,H',J4,z⟩
  | ret u=>obtain ⟨v,σ',H',J,r,z⟩:=hf;exact fin J fun s4 J4=>⟨v,_,H',J4,r,z⟩
end
end L2
namespace L2
open PySem PySem.Spec PyProof.Rows
def tTry (X:Cx) (body:List Stmt) (hs:List ExceptHandler) (te:TS):TS:=fun D σ H=>∃ (EK:St→XK) (tb:TS),(∀ pn xe,XOk (X.tried pn xe) EK→PSs (X.tried pn xe) body tb) ∧
 tb { nx:=te D,rt:=D.rt,bk:=D.bk,ct:=D.ct } σ H∧∀ (a C:Addr) (dx:Option Addr) (σ':St) (H':Hp),EK σ' (.ref C) dx H'→H' a=some (XO a C dx)→∃ th,PH X a C dx hs th∧th D σ' H'
section
variable {X:Cx} {body orelse:List Stmt} {h0:ExceptHandler} {hs:List ExceptHandler} {pos:Pos} {te:TS}
theorem ps_try (hc:X.calm=true) (hst:X.stack=X.env::X.outer) (hfr:X.env.frame=some X.env.locals) (ho:PSs X orelse te):PS X (.Try body (h0::hs) orelse [] pos) (tTry X body (h0::hs) te):=by
 intro pins s σ H D I h
 obtain ⟨EK,tb,hb,q,hh⟩:=h
 have hfs:X.A.frames=some (X.env::X.outer):=by rw [← hst];exact I.ok.frames
 let xe':Value→Shared→Prop:=fun e s1=>∃ (a C:Addr) (dx:Option Addr) (σ':St) (H':Hp),e=.ref a∧Inv X pins σ' H' s1∧H' a=some (XO a C dx)∧EK σ' (.ref C) dx H' ∧
  ((∃ T,Trc s1.heap a (.ref C) dx T .none∧Loose X pins H' T)∨∃ a0,s1.heap.get? a=some ⟨.ref C,dx,.fields (xfs a0),#[]⟩)
 have XX:XOk (X.tried (X.pn++pins) xe') EK:=by
  refine ⟨fun pins' σ' H1 s1 e s2 J hx=>?_,fun pins' σ' H1 s1 a C dx J e z=>?_,hc⟩
  ·obtain ⟨a,C,dx,T,H',rfl,hos,hbr,un,hok,ha,t,hT,hTn,z⟩:=hx
   have J1:=J.call' (s':=s2) (H':=H') (ch:=[]) hos un hok hbr (fun b z=>absurd z (by simp))
   have J0:=Inv.untried J
   exact ⟨a,C,dx,σ',H',rfl,Inv.untried J1,ha,z,.inl ⟨T,t,J0.loose hT hTn⟩⟩
  ·have J0:=Inv.untried J
   obtain ⟨⟨a0,hx⟩,_⟩:=(show ObjOk _ _ H1 s1.heap a (XN a C dx) from J0.hok a _ e)
   have J1:Inv X pins σ' (upd H1 a (XO a C dx)) s1:=J0.write (x:=a) (e:=a) (o:=XO a C dx) (h':=s1.heap) (t':=s1.toks) (by rw [e];exact True.intro) (.inl rfl) (fun _ _ _ q=>q) ⟨_,hx⟩ (XO.ok hx)
   exact ⟨a,C,dx,σ',_,rfl,J1,qc,z,.inr ⟨a0,hx⟩⟩
 have B:=hb (X.pn++pins) xe' XX [] s σ H _ (I.tried xe') q
 refine wpAny_Try_except (wpAny_mono B (fun f s1 hf=>?_) fun e s1 he=>?_)
 ·cases f with
  | next=>obtain ⟨σ',H',J,z⟩:=hf;exact ho pins s1 σ' H' D (Inv.untried J) z
  | brk=>obtain ⟨σ',H',J,z⟩:=hf;exact ⟨σ',H',Inv.untried J,z⟩
  | cont=>obtain ⟨σ',H',J,z⟩:=hf;exact ⟨σ',H',Inv.untried J,z⟩
  | ret u=>obtain ⟨v,σ',H',J,r,z⟩:=hf;exact ⟨v,σ',H',Inv.untried J,r,z⟩
 ·obtain ⟨a,C,dx,σ',H',rfl,J,ha,z,tt⟩:=he
  obtain ⟨th,hp,hq⟩:=hh a C dx σ' H' z ha
  have stk:s1.heap.FunFrames X.base (X.env::X.outer):=by rw [← hst];exact J.stack
  have go:∀ (h':Heap) (T':Addr) (zs:List Addr),s1.heap.objs.size≤T'→Trc h' a (.ref C) dx T' (rawInt X.env.locals)→Keep (frs (X.env::X.outer)) zs s1.heap h'→(∀ b∈zs,b=a∨Loose X pins H' b) →
    wpAny (model X.prog X.w) X.A (setFlight (.ref a) none) (fun _ s3=>wpAny (model X.prog X.w) X.A (handleBy (.ref a) X.env (h0::hs)) (SP X pins D) X.xe s3) X.xe { s1 with heap:=h' }:=fun h' T' zs hs' t' k hz=>by
   have lo:=J.loose hs' (J.hok.fresh hs')
   have J1:=J.noted ha (by rw [hst];exact k) hz t'
   refine qbQ (s:={ s1 with heap:=h' }) t' fun h2 t2 k2 sz2=>?_
   have kk:Keep (frs X.stack) [T'] h' h2:=⟨fun b o e z _=>k2 b o (by simpa using z) e,fun b o e z _=>⟨o.slots,k2 b o (by simpa using z) e⟩⟩
   have J2:=J1.noted ha kk (fun b hb=>.inr (by rw [List.mem_singleton.mp hb];exact lo)) t2
   exact hp pins _ σ' H' D J2 ⟨ha,T',t2,lo⟩ hq
  rcases tt with ⟨T,t,lo⟩ | ⟨a0,hx⟩
  ·refine qdg (base:=X.base) hfs stk hfr t fun h' T' hs' t' k=>go h' T' _ hs' t' k fun b hb=>?_
   simp only [List.mem_cons,List.not_mem_nil,or_false] at hb
   rcases hb with rfl | rfl
   ·exact .inl rfl
   ·exact .inr lo
  ·refine qcn (base:=X.base) hfs stk hfr hx rfl fun h' T' hs' t' k=>go h' T' _ hs' t' k fun b hb=>?_
   exact .inl (List.mem_singleton.mp hb)
end
end L2
namespace L2
open PySem PySem.Spec PyProof.Rows
def TyX (K:PySem.W.Frag) (H:Hp) (x:V) (t:Value):Prop:=TyOf K H x t∨∃ a C dx,x=.ref a∧t=.ref C∧IsX H a C dx∧XAt K C∧∀ d,dx=some d→∃ fs,H d=some (.xd fs)
theorem TyX.kit {X:Cx} {pins:List (Addr×Obj)} {σ:St} {H:Hp} {s:Shared} {x:V} {u t:Value} (I:Inv X pins σ H s) (rx:RelV x u) (ty:TyX X.K H x t):∃ P:Heap→Prop,PySem.W.KitX X.K u t P∧P s.heap∧u≠.builtin "__main__.__loader__#opaque":=by
 rcases ty with ty | ⟨a,C,dx,rfl,rfl,hx,c,hd⟩
 ·exact ty.kit I rx
 ·cases rx
  obtain ⟨vs,he⟩:=hx.get I.hok
  cases dx with
  | none=>exact ⟨_,qde (od:=none) c,⟨he,rfl,rfl,True.intro⟩,fun z=>nomatch z⟩
  | some d =>
   obtain ⟨fs,hf⟩:=hd d rfl
   obtain ⟨od,mA,h1,_⟩:=qe4 I hf
   exact ⟨_,qde (od:=some od) c,⟨he,rfl,rfl,h1⟩,fun z=>nomatch z⟩
def qf0 (K:PySem.W.Frag):List V→Hp→VK→Prop:=fun xs H Q=>∃ x y t c b,xs=[x,y]∧TyX K H x t∧qck y=some c∧PySem.W.kitOne K t c=some b∧Q (.bl b) H
def qfc (K:PySem.W.Frag):List V→Hp→VK→Prop:=fun xs H Q=>∃ x p ys t cs b,xs=[x,.ref p]∧TyX K H x t∧H p=some (.tup ys)∧ys.map qck=cs.map some∧PySem.W.kitAny K t cs=some b∧Q (.bl b) H
section
variable {X:Cx} {K:PySem.W.Frag}
theorem zP (hK:X.K=K):zH X (.builtin "isinstance") (qf0 K):=by
 subst hK
 intro pins s σ H xs us Q I r h
 obtain ⟨x,y,t,c,b,rfl,ty,hy,hb,q⟩:=h
 obtain ⟨u,v,rfl,ru,rv⟩:=qcK r
 have e:=qbE hy rv
 subst e
 obtain ⟨P,Z,p,ne⟩:=ty.kit I ru
 exact PySem.W.kia_one Z I.kIn p hb ne fun tk=>⟨.bl b,H,I.tok tk,rfl,q⟩
theorem qbS (hK:X.K=K):zH X (.builtin "isinstance") (qfc K):=by
 subst hK
 intro pins s σ H xs us Q I r h
 obtain ⟨x,p,ys,t,cs,b,rfl,ty,hp,hy,hb,q⟩:=h
 obtain ⟨u,v,rfl,ru,rv⟩:=qcK r
 cases rv
 obtain ⟨P,Z,pz,ne⟩:=ty.kit I ru
 obtain ⟨_,its,rv,o,ho,hc,n,hd⟩:=(show ObjOk X.prog X.w H s.heap p (.tup ys) from I.hok p _ hp)
 have e:=qbf hy rv
 subst e
 obtain ⟨c,dd,dt,sl⟩:=o
 have hc':c=.type "tuple":=hc
 have hd':dt=.seq its.toArray n:=hd
 subst hc' hd'
 exact PySem.W.kia_tup Z I.kIn pz ho hb ne fun tk=>⟨.bl b,H,I.tok tk,rfl,q⟩
end
mutual
inductive EqD (K:PySem.W.Frag) (H:Hp):Nat→V→V→Bool→Prop
 | flat {n:Nat} {x y:V} (fx:zt x=true) (fy:zt y=true):EqD K H n x y (eqV x y)
 | self {n:Nat} {a:Addr}:EqD K H n (.ref a) (.ref a) true
 | deep {n:Nat} {a b:Addr} {k:Bool} (h:EqT K H n a b k) (ne:a≠b):EqD K H n (.ref a) (.ref b) k
inductive EqT (K:PySem.W.Frag) (H:Hp):Nat→Addr→Addr→Bool→Prop
 | lst {n:Nat} {a b:Addr} {xs ys:List V} {e:Nat→Bool} (ha:SqL K H a xs) (hb:SqL K H b ys) (hl:xs.length=ys.length) (he:∀ j x y,xs[j]?=some x→ys[j]?=some y→EqD K H n x y (e j)):EqT K H (n + 1) a b ((List.range xs.length).all e)
 | lstL {n:Nat} {a b:Addr} {xs ys:List V} (ha:SqL K H a xs) (hb:SqL K H b ys) (hl:xs.length≠ys.length):EqT K H (n + 1) a b false
 | tup {n:Nat} {a b:Addr} {xs ys:List V} {e:Nat→Bool} (ha:SqT K H a xs) (hb:SqT K H b ys) (he:∀ j x y,xs[j]?=some x→ys[j]?=some y→EqD K H n x y (e j)):EqT K H (n + 1) a b ((List.range (min xs.length ys.length)).all e&&xs.length==ys.length)
 | lt {n:Nat} {a b:Addr} {xs ys:List V} (ha:SqL K H a xs) (hb:SqT K H b ys):EqT K H (n + 1) a b false
 | tl {n:Nat} {a b:Addr} {xs ys:List V} (ha:SqT K H a xs) (hb:SqL K H b ys):EqT K H (n + 1) a b false
end
theorem jB:∀ {xs:List V} {us:List Value} {j:Nat} {u:Value},Vals xs us→us[j]?=some u→∃ x,xs[j]?=some x∧RelV x u
 | _,_,_,_,.nil,e=>by simp at e
 | _,_,0,_,.cons r _,e=>by simp at e;subst e;exact ⟨_,rfl,r⟩
 | _,_,j + 1,u,.cons _ t,e=>by
  obtain ⟨x,h1,h2⟩:=jB (j:=j) (u:=u) t (by simpa using e)
  exact ⟨x,by simpa using h1,h2⟩
section
variable {X:Cx} {pins:List (Addr×Obj)} {σ:St} {H:Hp} {s:Shared}
theorem qcP (I:Inv X pins σ H s):∀ n,(∀ (A:Around) (x y:V) (k:Bool) (u v:Value),EqD X.K H n x y k→RelV x u→RelV y v→A.units + n < cLine→SeqAt.EqAt A s u v k)∧(∀ (A:Around) (a b:Addr) (k:Bool),EqT X.K H n a b k→A.units + n < cLine→SeqAt.RcAt A s (.ref a) (.ref b) k):=by
 intro n
 induction n with
 | zero =>
  have t0:∀ (A:Around) (a b:Addr) (k:Bool),EqT X.K H 0 a b k→A.units + 0 < cLine→SeqAt.RcAt A s (.ref a) (.ref b) k:=fun A a b k h=>by cases h
  refine ⟨fun A x y k u v h rx ry hu=>?_,t0⟩
  cases h with
  | flat fx fy=>exact qd0 rx ry fx fy
  | self=>cases rx;cases ry;exact SeqAt.EqAt.same _
  | deep h ne=>cases h
 | succ n ih =>
  have t1:∀ (A:Around) (a b:Addr) (k:Bool),EqT X.K H (n + 1) a b k→A.units + (n + 1) < cLine→SeqAt.RcAt A s (.ref a) (.ref b) k:=fun A a b k h hu=>by
   have hu0:A.units < cLine:=by omega
   have hu1:A.in1.units + n < cLine:=by show A.units + 1 + n < cLine;omega
   cases h with
   | @lst _ _ _ xs ys e ha hb hl he =>
    obtain ⟨its,r,pl,hz⟩:=I.list ha
    obtain ⟨its2,r2,pl2,hz2⟩:=I.list hb
    have e1:xs.length=its.toArray.size:=by rw [List.size_toArray];exact r.length
    have e2:ys.length=its2.toArray.size:=by rw [List.size_toArray];exact r2.length
    rw [e1]
    refine SeqAt.RcAt.lists pl.isList pl2.isList (by rw [← e1,← e2,hl]) hu0 fun j h1 h2=>?_
    have g1:its[j]?=some its.toArray[j]:=by simp
    have g2:its2[j]?=some its2.toArray[j]:=by simp
    obtain ⟨x,hx,rx⟩:=jB r g1
    obtain ⟨y,hy,ry⟩:=jB r2 g2
    exact ih.1 A.in1 x y (e j) _ _ (he j x y hx hy) rx ry hu1
   | @lstL _ _ _ xs ys ha hb hl =>
    obtain ⟨its,r,pl,hz⟩:=I.list ha
    obtain ⟨its2,r2,pl2,hz2⟩:=I.list hb
    refine SeqAt.RcAt.lists_lengths pl.isList pl2.isList ?_ hu0
    rw [List.size_toArray,List.size_toArray,← r.length,← r2.length]
    simp [hl]
   | @tup _ _ _ xs ys e ha hb he =>
    obtain ⟨its,r,pl,hz⟩:=I.tuple ha
    obtain ⟨its2,r2,pl2,hz2⟩:=I.tuple hb
    have e1:xs.length=its.toArray.size:=by rw [List.size_toArray];exact r.length
    have e2:ys.length=its2.toArray.size:=by rw [List.size_toArray];exact r2.length
    rw [e1,e2]
    refine SeqAt.RcAt.tuples pl pl2 hu0 fun j h1 h2=>?_
    have g1:its[j]?=some its.toArray[j]:=by simp
    have g2:its2[j]?=some its2.toArray[j]:=by simp
    obtain ⟨x,hx,rx⟩:=jB r g1
    obtain ⟨y,hy,ry⟩:=jB r2 g2
    exact ih.1 A.in1 x y (e j) _ _ (he j x y hx hy) rx ry hu1
   | lt ha hb =>
    obtain ⟨its,r,pl,hz⟩:=I.list ha
    obtain ⟨its2,r2,pl2,hz2⟩:=I.tuple hb
    exact SeqAt.RcAt.list_tuple pl.isList pl2 hu0
   | tl ha hb =>
    obtain ⟨its,r,pl,hz⟩:=I.tuple ha
    obtain ⟨its2,r2,pl2,hz2⟩:=I.list hb
    exact SeqAt.RcAt.tuple_list pl pl2.isList hu0
  refine ⟨fun A x y k u v h rx ry hu=>?_,t1⟩
  cases h with
  | flat fx fy=>exact qd0 rx ry fx fy
  | self=>cases rx;cases ry;exact SeqAt.EqAt.same _
  | deep h ne=>cases rx;cases ry;exact SeqAt.EqAt.of_refs ne (t1 A _ _ k h hu)
theorem ne_refs (I:Inv X pins σ H s) {n:Nat} {A:Around} {a b:Addr} {k:Bool} (h:EqT X.K H n a b k) (hu:A.units + n < cLine):SeqAt.RcNeAt A s (.ref a) (.ref b) (!k):=by
 cases n with
 | zero=>cases h
 | succ n =>
  have ih:=qcP I n
  have hu0:A.units < cLine:=by omega
  have hu1:A.in1.units + n < cLine:=by show A.units + 1 + n < cLine;omega
  cases h with
  | @lst _ _ _ xs ys e ha hb hl he =>
   obtain ⟨its,r,pl,hz⟩:=I.list ha
   obtain ⟨its2,r2,pl2,hz2⟩:=I.list hb
   have e1:xs.length=its.toArray.size:=by rw [List.size_toArray];exact r.length
   have e2:ys.length=its2.toArray.size:=by rw [List.size_toArray];exact r2.length
   rw [e1]
   refine SeqAt.RcNeAt.lists pl.isList pl2.isList (by rw [← e1,← e2,hl]) hu0 fun j h1 h2=>?_
   obtain ⟨x,hx,rx⟩:=jB r (show its[j]?=some its.toArray[j] by simp)
   obtain ⟨y,hy,ry⟩:=jB r2 (show its2[j]?=some its2.toArray[j] by simp)
   exact ih.1 A.in1 x y (e j) _ _ (he j x y hx hy) rx ry hu1
  | @lstL _ _ _ xs ys ha hb hl =>
   obtain ⟨its,r,pl,hz⟩:=I.list ha
   obtain ⟨its2,r2,pl2,hz2⟩:=I.list hb
   refine SeqAt.RcNeAt.lists_lengths pl.isList pl2.isList ?_ hu0
   rw [List.size_toArray,List.size_toArray,← r.length,← r2.length]
   simp [hl]
  | @tup _ _ _ xs ys e ha hb he =>
   obtain ⟨its,r,pl,hz⟩:=I.tuple ha
   obtain ⟨its2,r2,pl2,hz2⟩:=I.tuple hb
   have e1:xs.length=its.toArray.size:=by rw [List.size_toArray];exact r.length
   have e2:ys.length=its2.toArray.size:=by rw [List.size_toArray];exact r2.length
   rw [e1,e2]
   refine SeqAt.RcNeAt.tuples pl pl2 hu0 fun j h1 h2=>?_
   obtain ⟨x,hx,rx⟩:=jB r (show its[j]?=some its.toArray[j] by simp)
   obtain ⟨y,hy,ry⟩:=jB r2 (show its2[j]?=some its2.toArray[j] by simp)
   exact ih.1 A.in1 x y (e j) _ _ (he j x y hx hy) rx ry hu1
  | lt ha hb =>
   obtain ⟨its,r,pl,hz⟩:=I.list ha
   obtain ⟨its2,r2,pl2,hz2⟩:=I.tuple hb
   exact SeqAt.RcNeAt.list_tuple pl.isList pl2 hu0
  | tl ha hb =>
   obtain ⟨its,r,pl,hz⟩:=I.tuple ha
   obtain ⟨its2,r2,pl2,hz2⟩:=I.list hb
   exact SeqAt.RcNeAt.tuple_list pl pl2.isList hu0
theorem qfd {A:Around} {x y:V} {u v:Value} (rx:RelV x u) (ry:RelV y v) (fx:zt x=true) (fy:zt y=true):SeqAt.RcAt A s u v (eqV x y)∧SeqAt.RcNeAt A s u v (!eqV x y):=by
 cases x with
 | non =>
  cases rx
  cases y with
  | non=>cases ry;exact ⟨SeqAt.RcAt.none_none,SeqAt.RcNeAt.none_none⟩
  | bl b=>cases ry;exact ⟨SeqAt.RcAt.none_bool b,SeqAt.RcNeAt.none_bool b⟩
  | int b=>obtain ⟨t,rfl⟩:=ry;exact ⟨SeqAt.RcAt.none_int b t,SeqAt.RcNeAt.none_int b t⟩
  | str b=>obtain ⟨t,rfl⟩:=ry;exact ⟨SeqAt.RcAt.none_str b t,SeqAt.RcNeAt.none_str b t⟩
  | _=>cases fy
 | bl a =>
  cases rx
  cases y with
  | non=>cases ry;exact ⟨SeqAt.RcAt.bool_none a,SeqAt.RcNeAt.bool_none a⟩
  | bl b=>cases ry;exact ⟨SeqAt.RcAt.bool_bool a b,SeqAt.RcNeAt.bool_bool a b⟩
  | int b=>obtain ⟨t,rfl⟩:=ry;exact ⟨SeqAt.RcAt.bool_int a b t,SeqAt.RcNeAt.bool_int a b t⟩
  | str b=>obtain ⟨t,rfl⟩:=ry;exact ⟨SeqAt.RcAt.bool_str a b t,SeqAt.RcNeAt.bool_str a b t⟩
  | _=>cases fy
 | int a =>
  obtain ⟨t',rfl⟩:=rx
  cases y with
  | non=>cases ry;exact ⟨SeqAt.RcAt.int_none a t',SeqAt.RcNeAt.int_none a t'⟩
  | bl b=>cases ry;exact ⟨SeqAt.RcAt.int_bool a t' b,SeqAt.RcNeAt.int_bool a t' b⟩
  | int b=>obtain ⟨t,rfl⟩:=ry;exact ⟨SeqAt.RcAt.int_int a t' b t,SeqAt.RcNeAt.int_int a t' b t⟩
  | str b=>obtain ⟨t,rfl⟩:=ry;exact ⟨SeqAt.RcAt.int_str a t' b t,SeqAt.RcNeAt.int_str a t' b t⟩
  | _=>cases fy
 | str a =>
  obtain ⟨t',rfl⟩:=rx
  cases y with
  | non=>cases ry;exact ⟨SeqAt.RcAt.str_none a t',SeqAt.RcNeAt.str_none a t'⟩
  | bl b=>cases ry;exact ⟨SeqAt.RcAt.str_bool a t' b,SeqAt.RcNeAt.str_bool a t' b⟩
  | int b=>obtain ⟨t,rfl⟩:=ry;exact ⟨SeqAt.RcAt.str_int a t' b t,SeqAt.RcNeAt.str_int a t' b t⟩
  | str b=>obtain ⟨t,rfl⟩:=ry;exact ⟨SeqAt.RcAt.str_str a t' b t,SeqAt.RcNeAt.str_str a t' b t⟩
  | _=>cases fy
 | _=>cases fx
end
def qf1 (K:PySem.W.Frag) (neg:Bool):R2:=fun x y H Q=>(zt x=true∧zt y=true∧Q (.bl (if neg then !eqV x y else eqV x y)) H) ∨
 (∃ a b k n,x=.ref a∧y=.ref b∧n≤60∧EqT K H n a b k∧Q (.bl (if neg then !k else k)) H) ∨
 (∃ a kvs,x=.ref a∧y=.ref a∧H a=some (.dK kvs)∧Q (.bl (!neg)) H)
theorem qbg {κ:Type} [DecidableEq κ]:∀ {kb:List (κ×Value)} {k:κ} {v:Value},(kb.map (·.1)).Nodup→(k,v)∈kb→valueAt kb k=some v
 | [],_,_,_,h=>by cases h
 | (k',v')::r,k,v,hn,h=>by
  obtain ⟨h1,h2⟩:=List.nodup_cons.mp (show (k'::r.map (·.1)).Nodup from hn)
  unfold valueAt
  rw [List.find?_cons]
  by_cases e:k'=k
  ·subst e
   simp only [decide_true]
   rcases List.mem_cons.mp h with z | z
   ·cases z;rfl
   ·exact absurd (List.mem_map.mpr ⟨(k',v),z,rfl⟩) h1
  ·simp only [e,decide_false]
   rcases List.mem_cons.mp h with z | z
   ·cases z;exact absurd rfl e
   ·exact qbg h2 z
theorem qcQ {A:Around} {s:Shared} {κ:Type} [DecidableEq κ] (kb:List (κ×Value)) (hn:(kb.map (·.1)).Nodup):∀ ka:List (κ×Value),(∀ p∈ka,p∈kb)→PySem.W.KeqHits A s kb ka true
 | [],_=>.nil
 | (k,v)::r,h=>by
  have hv:valueAt kb k=some v:=qbg hn (h (k,v) List.mem_cons_self)
  exact .hit (e:=true) (b:=true) hv (SeqAt.EqAt.same v) (qcQ kb hn r fun p hp=>h p (List.mem_cons_of_mem _ hp))
section
variable {X:Cx} {K:PySem.W.Frag}
theorem k_eqU (hK:X.K=K) (hu:X.A.units + 100 < cLine):OpR X (compareOp .Eq) (qf1 K false):=by
 subst hK
 intro pins s σ H x y u v Q I rx ry h
 rcases h with ⟨fx,fy,q⟩ | ⟨a,b,k,n,rfl,rfl,hn,e,q⟩ | ⟨a,kvs,rfl,rfl,ea,q⟩
 ·exact (qfd rx ry fx fy).1 _ _ _ _ ⟨.bl _,H,I,rfl,q⟩
 ·cases rx;cases ry
  exact (qcP I n).2 X.A a b k e (by omega) _ _ _ _ ⟨.bl _,H,I,rfl,q⟩
 ·cases rx;cases ry
  obtain ⟨_,hs,vs,r,d⟩:=(show ObjOk X.prog X.w H s.heap a (.dK kvs) from I.hok a _ ea)
  obtain ⟨_,_,_,_,_,_,_,_,nd⟩:=id d
  refine PySem.W.keq_eq hs hs d d (by omega) (fun _=>qcQ vs nd vs fun _ h=>h) ?_
  rw [beq_self_eq_true]
  exact ⟨.bl true,H,I,rfl,q⟩
theorem zZ (hK:X.K=K) (hu:X.A.units + 100 < cLine):OpR X (compareOp .NotEq) (qf1 K true):=by
 subst hK
 intro pins s σ H x y u v Q I rx ry h
 rcases h with ⟨fx,fy,q⟩ | ⟨a,b,k,n,rfl,rfl,hn,e,q⟩ | ⟨a,kvs,rfl,rfl,ea,q⟩
 ·exact (qfd rx ry fx fy).2 _ _ _ _ ⟨.bl _,H,I,rfl,q⟩
 ·cases rx;cases ry
  exact ne_refs I e (by omega) _ _ _ _ ⟨.bl _,H,I,rfl,q⟩
 ·cases rx;cases ry
  obtain ⟨_,hs,vs,r,d⟩:=(show ObjOk X.prog X.w H s.heap a (.dK kvs) from I.hok a _ ea)
  obtain ⟨_,_,_,_,_,_,_,_,nd⟩:=id d
  refine PySem.W.keq_ne hs hs d d (by omega) (fun _=>qcQ vs nd vs fun _ h=>h) ?_
  rw [beq_self_eq_true]
  exact ⟨.bl false,H,I,rfl,q⟩
end
end L2
namespace L2
open PySem PySem.Spec PyProof.Rows
section
variable {X:Cx} {K:PySem.W.Frag}
def qgX (K:PySem.W.Frag):R2:=fun x y H Q=>rIx K x y H Q∨∃ a v,x=.ref a∧DGet H a y (some v)∧Q v H
theorem qB (hK:X.K=K) (hu:X.A.units + 100 < cLine):IxR X (qgX K):=by
 subst hK
 refine IxR.or ix_seq ?_
 intro value slice pins s σ H x y v u Q I rx ry h hs
 obtain ⟨a,z,rfl,g,q⟩:=h
 cases rx
 exact tail_any (dict_typeIs I g) PySem.F.slot_dict_getitem.lookup (d_getItem (by omega) I g ry fun w' s3 I3 rw'=>⟨z,H,I3,rw',q⟩) hs
def rSetU:qfM:=fun o i v H Q=>qfw o i v H Q∨∃ a H',o=.ref a∧DPut H a i v H'∧Q H'
theorem qbF (hu:X.A.units + 100 < cLine):qgq X rSetU:=by
 intro pins s σ H o i v ov iv u Q I ro ri rv h
 rcases h with h | ⟨a,H',rfl,g,q⟩
 ·exact set_list pins s σ H o i v ov iv u Q I ro ri rv h
 ·cases ro
  exact d_setItem (by omega) I g ri rv fun s' I'=>⟨H',I',q⟩
def qgA (K:PySem.W.Frag) (neg:Bool):R2:=fun x y H Q=>rIn K neg x y H Q∨(∃ a o,y=.ref a∧DGet H a x o∧Q (.bl (if neg then !o.isSome else o.isSome)) H) ∨
 (∃ p xs e n,y=.ref p∧SqL K H p xs∧n≤60∧(∀ z∈xs,EqD K H n z x (e z))∧Q (.bl (if neg then !xs.any e else xs.any e)) H)
theorem qee {pins:List (Addr×Obj)} {σ:St} {H:Hp} {s:Shared} {xs:List V} {its:List Value} {x:V} {u:Value} {e:V→Bool} {n:Nat} {A:Around} (I:Inv X pins σ H s) (r:Vals xs its) (rx:RelV x u) (hu:A.units + n < cLine) (he:∀ z∈xs,EqD X.K H n z x (e z)) :
  ∃ e':Value→Bool,(∀ w,w∈its.toArray→SeqAt.EqAt A s w u (e' w))∧its.toArray.any e'=xs.any e:=by
 classical
 refine ⟨fun w=>decide (∃ z∈xs,RelV z w∧e z=true),fun w hw=>?_,?_⟩
 ·have hw':w∈its:=by simpa using hw
  obtain ⟨j,hj⟩:=List.mem_iff_getElem?.mp hw'
  obtain ⟨z,hz,rz⟩:=jB r hj
  have hm:=List.mem_of_getElem? hz
  have eq:decide (∃ z∈xs,RelV z w∧e z=true)=e z:=by
   cases q:e z with
   | true=>exact decide_eq_true ⟨z,hm,rz,q⟩
   | false =>
    refine decide_eq_false fun ⟨z',_,rz',q'⟩=>?_
    rw [RelV.inj rz' rz,q] at q'
    cases q'
  show SeqAt.EqAt A s w u (decide (∃ z∈xs,RelV z w∧e z=true))
  rw [eq]
  exact (qcP I n).1 A z x (e z) w u (he z hm) rz rx hu
 ·rw [Bool.eq_iff_iff,List.any_eq_true]
  constructor
  ·intro h
   have h':its.any (fun w=>decide (∃ z∈xs,RelV z w∧e z=true))=true:=by simpa using h
   obtain ⟨w,_,q⟩:=List.any_eq_true.mp h'
   obtain ⟨z,hz,_,ez⟩:=of_decide_eq_true q
   exact ⟨z,hz,ez⟩
  ·rintro ⟨z,hz,ez⟩
   obtain ⟨j,hj⟩:=List.mem_iff_getElem?.mp hz
   obtain ⟨w,hw,rz⟩:=r.get hj
   have:its.any (fun w=>decide (∃ z∈xs,RelV z w∧e z=true))=true:=List.any_eq_true.mpr ⟨w,List.mem_of_getElem? hw,decide_eq_true ⟨z,hz,rz,ez⟩⟩
   simpa using this
theorem qax (hK:X.K=K) (hu:X.A.units + 100 < cLine):OpR X (compareOp .In) (qgA K false):=by
 subst hK
 intro pins s σ H x y u v Q I rx ry h
 rcases h with h | ⟨a,o,rfl,g,q⟩ | ⟨p,xs,e,n,rfl,hl,hn,he,q⟩
 ·exact op_in_seq pins s σ H x y u v Q I rx ry h
 ·cases ry
  exact qgk (by omega) I g rx fun s' I'=>⟨.bl _,H,I',rfl,q⟩
 ·cases ry
  obtain ⟨its,r,pl,hz⟩:=I.list hl
  obtain ⟨e',h1,h2⟩:=qee (A:=X.A.in1) I r rx (by show X.A.units + 1 + n < cLine;omega) he
  exact SeqAt.in_listAt e' pl.isList h1 (by rw [h2];exact ⟨.bl _,H,I,rfl,q⟩)
theorem qaf (hK:X.K=K) (hu:X.A.units + 100 < cLine):OpR X (compareOp .NotIn) (qgA K true):=by
 subst hK
 intro pins s σ H x y u v Q I rx ry h
 rcases h with h | ⟨a,o,rfl,g,q⟩ | ⟨p,xs,e,n,rfl,hl,hn,he,q⟩
 ·exact op_notIn_seq pins s σ H x y u v Q I rx ry h
 ·cases ry
  exact d_notIn (by omega) I g rx fun s' I'=>⟨.bl _,H,I',rfl,q⟩
 ·cases ry
  obtain ⟨its,r,pl,hz⟩:=I.list hl
  obtain ⟨e',h1,h2⟩:=qee (A:=X.A.in1) I r rx (by show X.A.units + 1 + n < cLine;omega) he
  exact SeqAt.notIn_listAt e' pl.isList h1 (by rw [h2];exact ⟨.bl _,H,I,rfl,q⟩)
def rListU (K:PySem.W.Frag):List V→Hp→VK→Prop:=fun xs H Q=>(∃ p ys,xs=[.ref p]∧(SqL K H p ys∨SqT K H p ys)∧∀ l,H l=none→Q (.ref l) (upd H l (.lst ys))) ∨
 (∃ p kvs,xs=[.ref p]∧H p=some (.dK kvs)∧∀ l,H l=none→Q (.ref l) (upd H l (.lst (kvs.map fun kv=>kV kv.1)))) ∨
 (∃ x,xs=[.str x]∧x.length≤1000∧∀ l,H l=none→Q (.ref l) (upd H l (.lst (x.cps.toList.map fun c=>.str ⟨#[c]⟩))))
theorem qbG {α β:Type} {F:α→β→Prop}:∀ {l:List α} {m:List β} {j:Nat} {a:α},Paired F l m→l[j]?=some a→∃ b,m[j]?=some b∧F a b
 | _,_,_,_,.nil,e=>by simp at e
 | _,_,0,_,.cons r _,e=>by simp at e;subst e;exact ⟨_,rfl,r⟩
 | _,_,j + 1,a,.cons _ t,e=>by
  obtain ⟨b,h1,h2⟩:=qbG (j:=j) (a:=a) t (by simpa using e)
  exact ⟨b,by simpa using h1,h2⟩
theorem qaX:∀ {ys:List V} {us:List Value},ys.length=us.length→(∀ (j:Nat) y u,ys[j]?=some y→us[j]?=some u→RelV y u)→Vals ys us
 | [],[],_,_=>.nil
 | [],_::_,h,_=>by cases h
 | _::_,[],h,_=>by cases h
 | y::ys,u::us,h,q=>.cons (q 0 y u rfl rfl) (qaX (Nat.succ.inj h) fun j y' u' h1 h2=>q (j + 1) y' u' (by simpa using h1) (by simpa using h2))
theorem qbh (hK:X.K=K) (hc:X.calm=true):zH X (.type "list") (rListU K):=by
 subst hK
 intro pins s σ H xs us Q I r h
 rcases h with h | ⟨p,kvs,rfl,ea,q⟩ | ⟨x,rfl,hx,q⟩
 ·exact call_list_of pins s σ H xs us Q I r h
 ·obtain ⟨u,rfl,ru⟩:=qbc r
  cases ru
  obtain ⟨hz,hs,vs,rv,d⟩:=(show ObjOk X.prog X.w H s.heap p (.dK kvs) from I.hok p _ ea)
  obtain ⟨ep,hat⟩:=d.dictAt
  have hl:kvs.length=vs.length:=rv.length
  refine PySem.W.kdl_call (PySem.W.kdl_dict (knd:=jN X.prog X.w) (kvs:=vs) (ep:=ep) hs) (I.ok.hd hc) hat (by rw [← hl];exact hz) fun h' tk acc' c' kp e it=>?_
  obtain ⟨i1,i2⟩:=it
  have hv:Vals (kvs.map fun kv=>kV kv.1) acc'.toList:=by
   refine qaX (by rw [List.length_map,hl,← i1];simp) fun j y u h1 h2=>?_
   obtain ⟨k,x,h3,h4⟩:=i2 j u (by simpa using h2)
   rw [List.getElem?_map] at h1
   cases q1:kvs[j]? with
   | none=>rw [q1] at h1;cases h1
   | some kv =>
    rw [q1] at h1
    cases h1
    obtain ⟨q2,h5,h6,h7⟩:=qbG rv q1
    rw [h3] at h5
    cases h5
    have e1:kv.1=k:=h6
    show RelV (kV kv.1) u
    rw [e1]
    rcases q9 (show qcI k u=true from h4) with ⟨i,t,rfl,rfl⟩ | ⟨z,t,rfl,rfl⟩
    ·exact ⟨t,rfl⟩
    ·exact ⟨t,rfl⟩
  refine ⟨.ref s.heap.objs.size,_,I.laid (t':=tk) kp (Nat.le_refl _) (show ObjOk X.prog X.w _ h' _ (.lst (kvs.map fun kv=>kV kv.1)) from ⟨by rw [List.length_map];exact hz,acc'.toList,c',hv,by simpa using e⟩),rfl,q _ (I.hok.fresh (Nat.le_refl _))⟩
 ·obtain ⟨u,rfl,t,rfl⟩:=qbc r
  have hsz:x.cps.size≤sizeLine:=Nat.le_of_lt (qh hx)
  refine call_list_str (I.ok.hd hc) x t (fun h' tk acc' c' kp e it=>?_) hsz
  obtain ⟨i1,i2⟩:=it
  have hv:Vals (x.cps.toList.map fun c=>V.str ⟨#[c]⟩) acc'.toList:=by
   refine qaX (by rw [List.length_map];simp [i1]) fun j y u h1 h2=>?_
   obtain ⟨c,t',h3,rfl⟩:=i2 j u (by simpa using h2)
   rw [List.getElem?_map] at h1
   have h3':x.cps.toList[j]?=some c:=by simpa using h3
   rw [h3'] at h1
   cases h1
   exact ⟨t',rfl⟩
  refine ⟨.ref s.heap.objs.size,_,I.laid (t':=tk) kp (Nat.le_refl _) (show ObjOk X.prog X.w _ h' _ (.lst (x.cps.toList.map fun c=>V.str ⟨#[c]⟩)) from ⟨by rw [List.length_map];simpa using hsz,acc'.toList,c',hv,by simpa using e⟩),rfl,q _ (I.hok.fresh (Nat.le_refl _))⟩
end
structure CMethOk (P:Program) (w:World) (K:PySem.W.Frag) (mg:Str→Option Value) (base:Heap) (CX:CXT) (k:Nat) (C:Addr) (x m:Str) (ps:List Str) (sp:Sp):Prop where
 ex:∃ f fd,FnOk P w K mg base CX k f fd ps sp∧CMeth K C m f∧Binds K fd ps []
 mg_:mg x=some (.ref C)
section
variable {X:Cx} {k:Nat} {C:Addr} {ps:List Str} {sp:Sp} {x m:Str} {p pos apos:Pos} {e:Expr} {es:List Expr} {t:TA}
theorem qdh (D:MakeOk X.prog X.w X.K X.mg X.base CX0 k C x ps sp) (hr:Room (k + 1) X.A) (ha:PA X (e::es) t) (hg:Gl X x:=by rfl) (hdb:(x==("__debug__":Str))=false:=by decide)
  (he:starEach (e::es) X.env=(false,eval e X.env)::starEach es X.env:=by rfl) (hpl:(backTo pos (starEach es X.env)).any (·.1)=false:=by rfl):PE X (.Call (.Name x p) (e::es) [] pos) (qfv C sp [] E0 t):=by
 obtain ⟨f,fd,F,M,hb⟩:=D.ex
 exact pe_make M F hr hg D.mg_ hb .nil qx ha hdb he hpl
theorem qaJ {pl:Sem Bool} (D:CMethOk X.prog X.w X.K X.mg X.base CX0 k C x m ps sp) (hr:Room k X.A) (ha:PA X (e::es) t) (hg:Gl X x:=by rfl) (hdb:(x==("__debug__":Str))=false:=by decide)
  (hst:starEach (e::es) X.env=(false,eval e X.env)::starEach es X.env:=by rfl) (hpl:(backTo pos (starEach es X.env)).any (·.1)=false:=by rfl)
  (ht:eval (.Call (.Attribute (.Name x p) m apos) (e::es) [] pos) X.env=(do
   let ov ← eval (.Name x p) X.env
   standAt apos.atName
   let (f,first) ← holding [ov] (getMethod ov m pl)
   callWith pos f first (backTo pos (starEach (e::es) X.env)) (backToKw pos (keywordEach [] X.env))):=by rfl) :
  PE X (.Call (.Attribute (.Name x p) m apos) (e::es) [] pos) (qdW sp [] E0 t):=by
 obtain ⟨f,fd,F,M,hb⟩:=D.ex
 exact pe_clsm (pl:=pl) M F hr hg D.mg_ hb qx ha hdb hst hpl ht
end
end L2
namespace L2
open PySem PySem.Spec PyProof.Rows
theorem own_eq_same {prog:Program} {w:World} {A:Around} {E:Value→Shared→Prop} {s:Shared} {K:PySem.W.Frag} {x C:Addr} {ox:Obj} {od:Option Obj} {Q:Value→Shared→Prop} (hu:A.units < cLine) (X:K.In s.heap) (I:PySem.W.InstAt s.heap x ox C od)
  (hs:PySem.W.findIn K (.ref C) "__eq__"=some (some (.builtin "object.__eq__"))) (ho:PySem.W.mroIn K C (.type "object")=some true) (h:Q (.bool true) s):wpAny (model prog w) A (richCompare .Eq (.ref x) (.ref x)) Q E s:=by
 have call1:∀ {A':Around} {Q':Value→Shared→Prop},Q' (.bool true) s→wpAny (model prog w) A' (call (.builtin "object.__eq__") [.ref x,.ref x]) Q' E s:=fun {A' Q'} q=>by
  refine wpAny_call (codeAny_call_builtin PySem.F.slot_object_eq.plain PySem.F.entry_object_eq (@PySem.W.check_slot (model prog w) _ _ s "object.__eq__" "object" "__eq__" (.ref x) [.ref x] [] _ (by decide +kernel) (by decide +kernel) (I.type.andThen (PySem.W.looks_mroIn X ho)) (PySem.F.args_object_eq_2 _ _) ?_))
  refine wpAny_bind (wpAny_pure (wpAny_bind (wpAny_isSame_ref_self ?_)))
  exact wpAny_pure q
 have one:wpAny (model prog w) A (tryCompare (.ref x) "__eq__" (.ref x)) (fun r s'=>∃ v,r=some v∧Q v s') E s:=by
  unfold tryCompare
  refine wpAny_bind ?_
  simp only [callSpecialIfBound?,bindSpecialIfBound?]
  refine wpAny_holding (wpAny_bind (wpAny_bind (wpAny_bind (I.type.here ((PySem.W.looks_findIn X hs).here ?_)))))
  refine wpAny_bind (wpAny_askSetting (wpAny_ite ?_))
  have b:=PySem.F.slot_object_eq.bind (.ref x)
  have fin:wpAny (model prog w) A (call (.builtin "object.__eq__") ([.ref x]++[.ref x])>>=fun v=>pure (some v)) (fun r s'=>wpAny (model prog w) A (match r with | some .notImplemented | none=>pure none | some v=>pure (some v)) (fun r s'=>∃ v,r=some v∧Q v s') E s') E s:=
   wpAny_bind (call1 (wpAny_pure (wpAny_pure ⟨_,rfl,h⟩)))
  split
  ·exact wpAny_bind (wpAny_of_eq b (wpAny_pure fin))
  ·exact wpAny_tryCatch (wpAny_bind (wpAny_of_eq b (wpAny_pure fin)))
 unfold richCompare
 simp only [oneThing_ref]
 refine wpAny_holding (wpAny_bind (wpAny_cRoomFor hu ?_))
 refine wpAny_bind (I.type.here (wpAny_bind (I.type.here ?_)))
 rw [if_neg (by simp)]
 refine wpAny_bind (wpAny_pure ?_)
 simp only [Bool.false_eq_true,if_false]
 refine wpAny_bind (wpAny_mono one (fun r s' z=>?_) fun _ _ e=>e)
 obtain ⟨v,rfl,hq⟩:=z
 exact wpAny_pure hq
structure OEq (K:PySem.W.Frag) (C:Addr):Prop where
 eq:PySem.W.findIn K (.ref C) "__eq__"=some (some (.builtin "object.__eq__"))
 ob:PySem.W.mroIn K C (.type "object")=some true
def qgY (K:PySem.W.Frag):R2:=fun x y H Q=>qf1 K false x y H Q∨∃ a C dx fs,x=.ref a∧y=.ref a∧H a=some (.ins C dx fs)∧OEq K C∧Q (.bl true) H
theorem k_eqW {X:Cx} {K:PySem.W.Frag} (hK:X.K=K) (hu:X.A.units + 100 < cLine):OpR X (compareOp .Eq) (qgY K):=by
 subst hK
 intro pins s σ H x y u v Q I rx ry h
 rcases h with h | ⟨a,C,dx,fs,rfl,rfl,ea,oe,q⟩
 ·exact k_eqU rfl hu pins s σ H x y u v Q I rx ry h
 ·cases rx;cases ry
  obtain ⟨mA,O,_⟩:=qaU I.hok ea
  obtain ⟨od,J,_⟩:=O.look
  exact own_eq_same (by omega) I.kIn J oe.eq oe.ob ⟨.bl true,H,I,rfl,q⟩
end L2
namespace L2
open PySem PySem.Spec PyProof.Rows
theorem zx {X:Cx}:MtR X "list.append" qd2:=mt_append
theorem qbH {X:Cx}:MtR X "list.extend" qd3:=mt_extend
theorem mtR_popAt {X:Cx}:MtR X "list.pop" qe2:=mt_popAt
theorem boot_ValueError:bootBuiltins "ValueError"=some (.type "ValueError"):=by decide +kernel
section
variable {D:Ends} {σ:St} {H:Hp} {Q:VK} {t u:TS} {te ta tb tc:TE} {tas:TA} {K:PySem.W.Frag} {sp:Sp} {E:XK} {EK:St→XK} {C:Addr} {f m:Str}
theorem vFldU (h:ta σ H fun x H1=>(∃ a C dx fs v,x=.ref a∧H1 a=some (.ins C dx fs)∧Cls K C∧NoAttr K C f∧fs.lookup f=some v∧Q v H1) ∨
 (∃ a C dx fs v,x=.ref a∧IsX H1 a C (some dx)∧XAt K C∧NoAttr K C f∧H1 dx=some (.xd fs)∧fs.lookup f=some v∧Q v H1)):qfY K ta f σ H Q:=h
theorem vSFldU (h:te σ H fun y H1=>ta σ H1 fun x H2=>(∃ a C dx fs,x=.ref a∧H2 a=some (.ins C dx fs)∧Cls K C∧NoAttr K C f∧fs.length < 1000∧D.nx σ (upd H2 a (.ins C dx (jZ f y fs)))) ∨
 (∃ a C,x=.ref a∧H2 a=some (XN a C none)∧XAt K C∧NoAttr K C f∧∀ dx,H2 dx=none→D.nx σ (upd (upd H2 dx (.xd [(f,y)])) a (XN a C (some dx))))):qfZ K ta te f D σ H:=h
theorem vXMake (h:tas σ H fun vs H1=>vs.length≤1000∧∀ x,H1 x=none→sp (.ref x::vs) (upd H1 x (XN x C none)) (fun v H2=>v=.non∧Q (.ref x) H2) E):qeb C sp E tas σ H Q:=h
theorem vMake (h:tas σ H fun vs H1=>∀ x dx,H1 x=none→H1 dx=none→dx≠x→sp (.ref x::(vs++[])) (upd (upd H1 dx (.own x)) x (.ins C dx [])) (fun v H2=>v=.non∧Q (.ref x) H2) E):qfv C sp [] E tas σ H Q:=h
theorem vMeth (h:ta σ H fun x H1=>∃ a dx fs,x=.ref a∧H1 a=some (.ins C dx fs)∧fs.lookup m=none∧tas σ H1 fun vs H2=>sp (x::(vs++[])) H2 Q E):qdX C m sp [] E ta tas σ H Q:=h
theorem vVinit (h:tas σ H fun vs H1=>∃ a C y,vs=[.ref a,y]∧H1 a=some (XN a C none)∧XAt K C∧Q .non H1):qe5 K tas σ H Q:=h
theorem vCallS (h:tas σ H fun vs H1=>sp vs H1 Q (EK σ)):qe9 sp EK tas σ H Q:=h
theorem vMethS (h:ta σ H fun x H1=>∃ a dx fs,x=.ref a∧H1 a=some (.ins C dx fs)∧fs.lookup m=none∧tas σ H1 fun vs H2=>sp (x::vs) H2 Q (EK σ)):qfa C m sp EK ta tas σ H Q:=h
theorem vMakeS (h:tas σ H fun vs H1=>∀ x dx,H1 x=none→H1 dx=none→dx≠x→sp (.ref x::vs) (upd (upd H1 dx (.own x)) x (.ins C dx [])) (fun v H2=>v=.non∧Q (.ref x) H2) (EK σ)):qfb C sp EK tas σ H Q:=h
theorem vRaise (h:te σ H fun x H1=>∃ a C dx,x=.ref a∧H1 a=some (XN a C dx)∧XAt K C∧EK σ (.ref C) dx (upd H1 a (XO a C dx))):qe8 K EK te D σ H:=h
theorem zy {x y:V} {t cv:Value} {b:Bool} (ty:TyX K H x t) (hy:qck y=some cv) (hb:PySem.W.kitOne K t cv=some b) (h:Q (.bl b) H):qf0 K [x,y] H Q:=⟨x,y,t,cv,b,rfl,ty,hy,hb,h⟩
end
end L2
namespace L2
open PySem PySem.Spec PyProof.Rows
section
variable {prog:Program} {w:World} {A:Around} {E:Value→Shared→Prop} {s:Shared}
theorem none_dict {a:Addr} {Q:Value→Shared→Prop} (hT:s.TypeIs (.ref a) "dict") (hu:A.units < cLine) (h:Q (.bool false) s):wpAny (model prog w) A (richCompare .Eq .none (.ref a)) Q E s:=by
 refine SeqAt.rc_eq_decline_or (k:=false) rfl hT (by decide) PySem.F.sub_dict_NoneType PySem.F.slot_NoneType_eq PySem.F.slot_dict_eq_refl
  (fun _ hq=>call_gives PySem.F.slot_NoneType_eq rfl PySem.F.entry_NoneType_eq (PySem.F.args_NoneType_eq_2 _ _) (SeqAt.NoneType___eq___none_ref_0 a) hq) (fun Q' hq=>?_) (fun _ hq=>wpAny_of_eq (rfl:isSame .none (.ref a)=pure false) hq) (.inr hu) h
 refine wpAny_call_entry PySem.F.slot_dict_eq_refl hT PySem.F.entry_dict_eq ?_ (PySem.F.args_dict_eq_2 _ _)
 show wpAny _ _ (Builtin.Dict.dictSlotArgs "__eq__" ⟨[.ref a,.none],[]⟩>>=_) _ _ s
 refine wpAny_bind ?_
 unfold Builtin.Dict.dictSlotArgs
 refine wpAny_bind (wpAny_notOrdered_dict hT ?_)
 show wpAny _ _ (pure (Value.ref a,Value.none)) _ _ s
 refine wpAny_pure ?_
 refine wpAny_bind (wpAny_isInstance (T:="NoneType") (b:=false) rfl PySem.F.sub_NoneType_dict ?_)
 simp only [Bool.not_false,if_true]
 exact wpAny_bind (wpAny_rule (wpAny_pure ⟨_,rfl,hq⟩))
theorem none_own {K:PySem.W.Frag} {x C:Addr} {ox:Obj} {od:Option Obj} {Q:Value→Shared→Prop} (hu:A.units < cLine) (X:K.In s.heap) (I:PySem.W.InstAt s.heap x ox C od) (oe:OEq K C) (hn:PySem.W.mroIn K C (.type "NoneType")=some false)
  (h:Q (.bool false) s):wpAny (model prog w) A (richCompare .Eq .none (.ref x)) Q E s:=by
 have t1:wpAny (model prog w) A (tryCompare .none "__eq__" (.ref x)) (fun r s'=>r=none∧s'=s) E s:=by
  unfold tryCompare
  refine wpAny_bind ?_
  simp only [callSpecialIfBound?,bindSpecialIfBound?]
  refine wpAny_holding (wpAny_bind (wpAny_bind ?_))
  refine wpAny_bind (wpAny_of_eq (rfl:typeOf .none=pure (.type "NoneType")) ?_)
  refine wpAny_of_eq PySem.F.slot_NoneType_eq.lookup ?_
  refine wpAny_bind (wpAny_askSetting (wpAny_ite ?_))
  have fin:wpAny (model prog w) A (call (.builtin "NoneType.__eq__") ([.none]++[.ref x])>>=fun v=>pure (some v)) (fun r s'=>wpAny (model prog w) A (match r with | some .notImplemented | none=>pure none | some v=>pure (some v)) (fun r s'=>r=none∧s'=s) E s') E s:=
   wpAny_bind (call_gives PySem.F.slot_NoneType_eq rfl PySem.F.entry_NoneType_eq (PySem.F.args_NoneType_eq_2 _ _) (SeqAt.NoneType___eq___none_ref_0 x) (wpAny_pure (wpAny_pure ⟨rfl,rfl⟩)))
  split
  ·exact wpAny_bind (wpAny_of_eq (PySem.F.slot_NoneType_eq.bind .none) (wpAny_pure fin))
  ·exact wpAny_tryCatch (wpAny_bind (wpAny_of_eq (PySem.F.slot_NoneType_eq.bind .none) (wpAny_pure fin)))
 have t2:wpAny (model prog w) A (tryCompare (.ref x) "__eq__" .none) (fun r s'=>r=none∧s'=s) E s:=by
  unfold tryCompare
  refine wpAny_bind ?_
  simp only [callSpecialIfBound?,bindSpecialIfBound?]
  refine wpAny_holding (wpAny_bind (wpAny_bind (wpAny_bind (I.type.here ((PySem.W.looks_findIn X oe.eq).here ?_)))))
  refine wpAny_bind (wpAny_askSetting (wpAny_ite ?_))
  have b:=PySem.F.slot_object_eq.bind (.ref x)
  have c:∀ {Q':Value→Shared→Prop},Q' .notImplemented s→wpAny (model prog w) A (call (.builtin "object.__eq__") [.ref x,.none]) Q' E s:=fun {Q'} q=>by
   refine wpAny_call (codeAny_call_builtin PySem.F.slot_object_eq.plain PySem.F.entry_object_eq (@PySem.W.check_slot (model prog w) _ _ s "object.__eq__" "object" "__eq__" (.ref x) [.none] [] _ (by decide +kernel) (by decide +kernel) (I.type.andThen (PySem.W.looks_mroIn X oe.ob)) (PySem.F.args_object_eq_2 _ _) ?_))
   refine wpAny_bind (wpAny_pure (wpAny_bind (wpAny_of_eq (rfl:isSame (.ref x) .none=pure false) ?_)))
   exact wpAny_pure q
  have fin:wpAny (model prog w) A (call (.builtin "object.__eq__") ([.ref x]++[.none])>>=fun v=>pure (some v)) (fun r s'=>wpAny (model prog w) A (match r with | some .notImplemented | none=>pure none | some v=>pure (some v)) (fun r s'=>r=none∧s'=s) E s') E s:=
   wpAny_bind (c (wpAny_pure (wpAny_pure ⟨rfl,rfl⟩)))
  split
  ·exact wpAny_bind (wpAny_of_eq b (wpAny_pure fin))
  ·exact wpAny_tryCatch (wpAny_bind (wpAny_of_eq b (wpAny_pure fin)))
 unfold richCompare
 refine wpAny_holding (wpAny_bind (wpAny_cRoomFor hu ?_))
 show wpAny _ _ (typeOf .none>>=_) _ _ _
 refine wpAny_bind (wpAny_of_eq (rfl:typeOf .none=pure (.type "NoneType")) (wpAny_bind (I.type.here ?_)))
 rw [if_pos (by rfl)]
 refine wpAny_bind ((PySem.W.looks_mroIn X hn).here ?_)
 simp only [Bool.false_eq_true,if_false]
 refine wpAny_bind (wpAny_mono t1 (fun r s' z=>?_) fun _ _ e=>e)
 obtain ⟨rfl,rfl⟩:=z
 simp only [Bool.not_false,if_true]
 refine wpAny_bind (wpAny_mono t2 (fun r s' z=>?_) fun _ _ e=>e)
 obtain ⟨rfl,rfl⟩:=z
 refine wpAny_bind (wpAny_rule (wpAny_bind (wpAny_of_eq (rfl:isSame .none (.ref x)=pure false) (wpAny_pure h))))
end
def rNoneRef (K:PySem.W.Frag):R2:=fun x y H Q=>∃ a,x=.non∧y=.ref a∧((∃ xs,SqL K H a xs∨SqT K H a xs)∨(∃ kvs,H a=some (.dK kvs))∨∃ C dx fs,H a=some (.ins C dx fs)∧OEq K C∧PySem.W.mroIn K C (.type "NoneType")=some false)∧Q (.bl false) H
def rEqZ (K:PySem.W.Frag):R2:=fun x y H Q=>qgY K x y H Q∨rNoneRef K x y H Q
theorem zn {X:Cx} {K:PySem.W.Frag} (hK:X.K=K) (hu:X.A.units + 100 < cLine):OpR X (compareOp .Eq) (rEqZ K):=by
 intro pins s σ H x y u v Q I rx ry h
 rcases h with h | ⟨a,rfl,rfl,h,q⟩
 ·exact k_eqW hK hu pins s σ H x y u v Q I rx ry h
 ·subst hK
  cases rx;cases ry
  have fin:EP X pins σ Q (.bool false) s:=⟨.bl false,H,I,rfl,q⟩
  rcases h with ⟨xs,hl | hl⟩ | ⟨kvs,ea⟩ | ⟨C,dx,fs,ea,oe,hn⟩
  ·obtain ⟨its,r,pl,_⟩:=I.list hl
   exact SeqAt.RcAt.none_list pl.isList (by omega) _ _ _ _ fin
  ·obtain ⟨its,r,pl,_⟩:=I.tuple hl
   exact SeqAt.RcAt.none_tuple pl (by omega) _ _ _ _ fin
  ·obtain ⟨_,_,vs,_,d⟩:=(show ObjOk X.prog X.w H s.heap a (.dK kvs) from I.hok a _ ea)
   exact none_dict d.typeIs (by omega) fin
  ·obtain ⟨mA,O,_⟩:=qaU I.hok ea
   obtain ⟨od,J,_⟩:=O.look
   exact none_own (by omega) I.kIn J oe hn fin
end L2
namespace L2
open PySem PySem.Spec PyProof.Rows
def XL (K:PySem.W.Frag) (C:Addr) (bm:List Value):Prop:=∃ nm qn N bs hdct sn sub ab col dd k0 k1 k2 k3 k5,K.lookup C=some (excClassObj nm qn C N bs bm hdct sn sub ab col dd k0 k1 k2 k3 k5 "ValueError.__new__")
section
variable {K:PySem.W.Frag} {C D:Addr} {bm bn:List Value}
theorem XL.xat (x:XL K C bm) (hb:qb4 bm=true)
  (ga:PySem.W.findIn K (.ref C) "__getattribute__"=some (some (.builtin "BaseException.__getattribute__"))) (gn:PySem.W.findIn K (.ref C) "__getattr__"=some none)
  (bx:PySem.W.mroIn K C (.type "BaseException")=some true) (ob:PySem.W.mroIn K C (.type "object")=some true) (hd:PySem.W.hasDictIn K C=true) (cl:PySem.W.findIn K (.ref C) "__class__"=some (some (.builtin "object.__class__")))
  (cg:PySem.W.specialIn K (.builtin "object.__class__") "__get__"=some (some (.builtin "getset_descriptor.__get__"))) (ct:PySem.W.takesIn K (.builtin "object.__class__")=some true)
  (sa:PySem.W.findIn K (.ref C) "__setattr__"=some (some (.builtin "object.__setattr__"))):XAt K C:=by
 obtain ⟨nm,qn,N,bs,hdct,sn,sub,ab,col,dd,k0,k1,k2,k3,k5,e⟩:=x
 refine ⟨ga,gn,bx,ob,hd,cl,cg,ct,sa,?_,?_⟩
 ·unfold PySem.W.clsIn
  rw [e]
  exact hb
 ·unfold qgm
  rw [e]
  simp [hb]
theorem XL.kit (x:XL K C bm) (y:XL K D bn):PySem.W.kitOne K (.ref C) (.ref D)=some ((Value.ref C::bm).contains (.ref D)):=by
 obtain ⟨nm,qn,N,bs,hdct,sn,sub,ab,col,dd,k0,k1,k2,k3,k5,e⟩:=x
 obtain ⟨nm',qn',N',bs',hdct',sn',sub',ab',col',dd',k0',k1',k2',k3',k5',e'⟩:=y
 unfold PySem.W.kitOne PySem.W.kitCls
 split
 ·rename_i z
  have z:C=D:=Value.ref.inj (beq_iff_eq.mp z)
  subst z
  simp
 ·dsimp only
  have q1:(PySem.W.clsIn K D).isSome=true:=by unfold PySem.W.clsIn;rw [e'];rfl
  have q2:(PySem.W.typeIn K (.ref D)==some (.type "type"))=true:=by show ((K.lookup D).map (·.cls)==_)=true;rw [e'];rfl
  rw [if_pos (by rw [q1,q2];rfl)]
  unfold PySem.W.subIn PySem.W.mroIn PySem.W.clsIn
  dsimp only
  rw [e]
  rfl
theorem XL.kitT (x:XL K C bm) {T:String} (h:PySem.W.kitMeta T=true):PySem.W.kitOne K (.ref C) (.type T)=some (bm.contains (.type T)):=by
 obtain ⟨nm,qn,N,bs,hdct,sn,sub,ab,col,dd,k0,k1,k2,k3,k5,e⟩:=x
 unfold PySem.W.kitOne PySem.W.kitCls
 split
 ·rename_i z
  exact absurd (beq_iff_eq.mp z) nofun
 ·dsimp only
  rw [if_pos h]
  unfold PySem.W.subIn PySem.W.mroIn PySem.W.clsIn
  dsimp only
  rw [e]
  show some ((Value.ref C::bm).contains _)=_
  rw [List.contains_cons]
  rfl
abbrev qbi:List Value:=[.type "ValueError",.type "Exception",.type "BaseException",.type "object"]
theorem qef:qb4 qbi=true:=by decide
theorem qbj {c:Addr}:qb4 (.ref c::qbi)=true:=qef
theorem kits {K:PySem.W.Frag} {cs:List Addr} {c:Addr} (hn:(cs++[c]).Nodup) (h:∀ i,i < cs.length→XL K (cs.getD i c) (.ref c::qbi)) (hc:XL K c qbi) :
  (∀ i j,i < cs.length→j < cs.length→PySem.W.kitOne K (.ref (cs.getD i c)) (.ref (cs.getD j c))=some (decide (i=j)))∧(∀ i,i < cs.length + 1→PySem.W.kitOne K (.ref (cs.getD i c)) (.ref c)=some true) ∧
  (∀ i,i < cs.length + 1→PySem.W.kitOne K (.ref (cs.getD i c)) (.type "ValueError")=some true)∧∀ j,j < cs.length→PySem.W.kitOne K (.ref c) (.ref (cs.getD j c))=some false:=by
 have gd:∀ (j:Nat) (hj:j < cs.length),cs.getD j c=cs[j]:=fun j hj=>by simp [List.getD,hj]
 have hl:cs.getD cs.length c=c:=by simp
 have hne:∀ j,j < cs.length→c≠cs.getD j c:=fun j hj e=>by
  have h2:=(List.nodup_append.mp hn).2.2 (cs.getD j c) (by rw [gd j hj];exact List.getElem_mem hj) c (by simp)
  exact h2 e.symm
 refine ⟨fun i j hi hj=>?_,fun i hi=>?_,fun i hi=>?_,fun j hj=>?_⟩
 ·rw [(h i hi).kit (h j hj)]
  congr 1
  rw [List.contains_cons,List.contains_cons]
  have e1:((Value.ref (cs.getD j c))==Value.ref c)=false:=beq_eq_false_iff_ne.mpr fun e=>hne j hj (Value.ref.inj e).symm
  have e2:List.contains qbi (Value.ref (cs.getD j c))=false:=rfl
  rw [e1,e2]
  by_cases hij:i=j
  ·subst hij;simp
  ·have e3:((Value.ref (cs.getD j c))==Value.ref (cs.getD i c))=false:=beq_eq_false_iff_ne.mpr fun e=>by
    have e:=Value.ref.inj e
    rw [gd i hi,gd j hj] at e
    have hp:=List.pairwise_iff_getElem.mp (List.nodup_append.mp hn).1
    rcases Nat.lt_or_gt_of_ne hij with q | q
    ·exact hp i j hi hj q e.symm
    ·exact hp j i hj hi q e
   rw [e3];simp [hij]
 ·rcases Nat.lt_or_ge i cs.length with hi' | hi'
  ·rw [(h i hi').kit hc,List.contains_cons,List.contains_cons];simp
  ·have:i=cs.length:=by omega
   subst this
   rw [hl,hc.kit hc];simp
 ·rcases Nat.lt_or_ge i cs.length with hi' | hi'
  ·rw [(h i hi').kitT (by decide +kernel)];rfl
  ·have:i=cs.length:=by omega
   subst this
   rw [hl,hc.kitT (by decide +kernel)];rfl
 ·rw [hc.kit (h j hj),List.contains_cons]
  have e1:((Value.ref (cs.getD j c))==Value.ref c)=false:=beq_eq_false_iff_ne.mpr fun e=>hne j hj (Value.ref.inj e).symm
  rw [e1];rfl
end
end L2
namespace HT
open PySem PySem.Spec PyProof.Rows
section
variable {prog:Program} {w:World} {A:Around} {E:Value→Shared→Prop} {s:Shared}
theorem sliceApplied_rev {sl:Addr} {vs:Value} {Q:Int×Int×Nat→Shared→Prop} (hs:s.heap.IsSliceOf sl .none .none vs) (ps:IsPart vs (some (-1)))
  (h:Q (1,-1,2) s):wpAny (model prog w) A (Builtin.Slice.sliceApplied (.ref sl) (pure ((2:Nat):Int))) Q E s:=by
 obtain ⟨os,hos,hcs,hds⟩:=id hs
 unfold Builtin.Slice.sliceApplied Builtin.Slice.sliceFields
 refine wpAny_bind (wpAny_bind (wpAny_field hos hds (x:=.none) rfl (wpAny_bind (wpAny_field hos hds (x:=.none) rfl (wpAny_bind (wpAny_field hos hds (x:=vs) rfl (wpAny_pure ?_)))))))
 refine wpAny_bind (qac ps ?_)
 show wpAny _ _ (if ((-1:Int)==0)=true then _ else _) _ _ s
 rw [if_neg (by decide)]
 refine wpAny_bind (slicePart_none (wpAny_bind (slicePart_none (wpAny_bind (wpAny_pure ?_)))))
 exact wpAny_pure h
theorem getItem_pair_rev {t sl:Addr} {x y:Value} {vs:Value} {Q:Value→Shared→Prop} (ht:IsTup s.heap t #[x,y]) (hs:s.heap.IsSliceOf sl .none .none vs) (ps:IsPart vs (some (-1)))
  (h:Q (.ref s.heap.objs.size) { s with heap:=s.heap.push { cls:=.type "tuple",data:=.seq #[y,x] } }):wpAny (model prog w) A (getItem (.ref t) (.ref sl)) Q E s:=by
 have htake:sizeOk (.seq #[y,x]):=by
  show 2≤sizeLine
  decide
 obtain ⟨os,hos,hcs,hds⟩:=id hs
 have hTs:s.TypeIs (.ref sl) "slice":=⟨os,hos,hcs⟩
 unfold getItem
 try with_reducible refine wpAny_holding ?_
 first | refine wpAny_bind (wpAny_pure ?_) | skip
 refine wpAny_bind (wpAny_sequenceKey ht.typeIs (by decide) ?_)
 refine wpAny_bind (wpAny_callSpecial?_slot (name:=Str.ofString "__getitem__") ht.typeIs PyProof.Rows.slot_tuple_getitem
  (wpAny_call_entry PyProof.Rows.slot_tuple_getitem ht.typeIs entry_tuple_getitem ?_ (args_tuple_getitem _ _)))
 show wpAny _ _ (Builtin.Tuple.tupleItemsOf (.ref t)>>=_) _ _ s
 refine wpAny_bind (tupleItemsOf_ ht ?_)
 refine wpAny_bind (wpAny_typeOf hTs ?_)
 rw [if_pos (by decide)]
 refine wpAny_bind (sliceApplied_rev hs ps ?_)
 show wpAny _ _ (if ((1:Int)==0&&(-1:Int)==1&&2==2)=true then _ else _) _ _ s
 rw [if_neg (by decide)]
 first
  | exact wpAny_bind (m:=Builtin.Tuple.tupleExact _) (wpAny_newObj_type (wpAny_pure ⟨_,rfl,wpAny_pure h⟩) htake)
  | exact wpAny_bind (m:=Builtin.Tuple.tupleExact _) (wpAny_newObj_type (wpAny_bind (wpAny_pure (wpAny_pure ⟨_,rfl,wpAny_pure h⟩))) htake)
  | exact wpAny_bind (wpAny_bind (m:=Builtin.Tuple.tupleExact _) (wpAny_newObj_type (wpAny_pure (wpAny_pure ⟨_,rfl,wpAny_pure h⟩)) htake))
  | exact wpAny_bind (wpAny_bind (m:=Builtin.Tuple.tupleExact _) (wpAny_newObj_type (wpAny_pure ⟨_,rfl,wpAny_pure h⟩) htake))
end
end HT
namespace L2
open PySem PySem.Spec PyProof.Rows
def qgZ (K:PySem.W.Frag) (te:TE) (ts:TO):TE:=fun σ H Q=>te σ H fun x H1=>ts σ H1 fun o H2=>o=some (-1)∧∃ a y z,x=.ref a∧SqT K H2 a [y,z]∧∀ p,H2 p=none→Q (.ref p) (upd H2 p (.tup [z,y]))
theorem vRev {K:PySem.W.Frag} {te:TE} {ts:TO} {σ:St} {H:Hp} {Q:VK} (h:te σ H fun x H1=>ts σ H1 fun o H2=>o=some (-1)∧∃ a y z,x=.ref a∧SqT K H2 a [y,z]∧∀ p,H2 p=none→Q (.ref p) (upd H2 p (.tup [z,y]))):qgZ K te ts σ H Q:=h
section
variable {X:Cx} {K:PySem.W.Frag} {e st:Expr} {te:TE} {ts:TO} {p2 pos:Pos}
theorem qdi (hK:X.K=K) (he:PE X e te) (hs:PO X (some st) ts):PE X (.Subscript e (.Slice none none (some st) p2) pos) (qgZ K te ts):=by
 subst hK
 intro pins s σ H Q I h
 refine Subscript_ (thn (he pins s σ H _ I h) fun v s1 ⟨x,H1,I1,r1,q1⟩=>?_)
 refine wpAny_Slice ?_
 rw [evalPart_none]
 refine wpAny_pure ?_
 refine wpAny_pure ?_
 refine thn (hs pins s1 σ H1 _ I1 q1) fun vt s2 ⟨o,H2,I2,pt,eo,a,y,z,ex,hx,q⟩=>?_
 subst eo ex
 cases r1
 have I4:Inv X pins σ H2 { s2 with heap:=s2.heap.push { cls:=.type "slice",data:=.fields #[.none,.none,vt] } }:=I2.kept (t':=s2.toks) fun b ob q=>Heap.get?_push_of_some _ q
 obtain ⟨its,r,ht,hz⟩:=I4.tuple hx
 obtain ⟨u1,u2,rfl,ru1,ru2⟩:=qcK r
 show wpAny (model X.prog X.w) X.A (subscriptTail e (.Slice none none (some st) p2) (.ref a) (.ref s2.heap.objs.size)) (EP X pins σ Q) X.xe { s2 with heap:=s2.heap.push { cls:=.type "slice",data:=.fields #[.none,.none,vt] } }
 refine tail_any (ops:=[.ref a,.ref s2.heap.objs.size]) ht.typeIs PyProof.Rows.slot_tuple_getitem.lookup (HT.getItem_pair_rev ht (Heap.IsSliceOf.new ..) pt ?_) (by with_unfolding_all rfl)
 refine ⟨.ref _,_,I4.laid (t':=s2.toks) (o:=.tup [z,y]) (fun b ob q=>Heap.get?_push_of_some _ q) (Nat.le_refl _) ?_,rfl,q _ (I4.hok.fresh (Nat.le_refl _))⟩
 exact ⟨by show 2≤sizeLine;decide,_,.cons ru2 (.cons ru1 .nil),IsTup.new _ _⟩
def rTupleU (K:PySem.W.Frag):List V→Hp→VK→Prop:=fun xs H Q=>∃ p ys,xs=[.ref p]∧((SqL K H p ys∧∀ l,H l=none→Q (.ref l) (upd H l (.tup ys)))∨(SqT K H p ys∧Q (.ref p) H))
theorem jy (hK:X.K=K):zH X (.type "tuple") (rTupleU K):=by subst hK;exact call_tuple_of
end
end L2
namespace L2
open PySem PySem.Spec PyProof.Rows
theorem Inv.turnedL {X:Cx} {pins:List (Addr×Obj)} {σ:St} {H:Hp} {s:Shared} {h':Heap} {t':Nat} {fp:List Addr} (I:Inv X pins σ H s) (k:∀ b o,b∉fp→s.heap.get? b=some o→h'.get? b=some o) (hf:∀ b∈fp,qcZ X pins H b):Inv X pins σ H { s with heap:=h',toks:=t' }:=by
 have nit:∀ b u,H b=some u→b∉fp:=fun b u e z=>by rw [(hf b z).1] at e;cases e
 have hL:X.env.locals∉fp:=fun z=>(hf _ z).2.1 rfl
 refine I.step (g':=s.gens) (d':=s.drawn) (ch:=fp) (fun b hb=>?_) (fun b o _ _ hc e _=>k b o hc e) (fun b o _ _ hc e _=>⟨o.slots,k b o hc e⟩) (fun _ _ _ _ n=>n)
  (fun b o hc e=>⟨o,k b o hc e⟩) (fun _ _ e=>e) (fun _ _ _ e=>e) (fun b ps e=>⟨#[],by rw [e];simp⟩) (fun m hm=>?_) (fun b u e=>?_) I.bare
 ·obtain ⟨f0,f1,f2,f3,f4,f5⟩:=hf b hb
  exact ⟨f3,f1,f4,f5⟩
 ·obtain ⟨o,es,ep,ho,r⟩:=hm
  exact ⟨o,es,ep,k _ o hL ho,r⟩
 ·refine (I.hok b u e).stay (fun c v hc q=>k c v ?_ q) (fun _ q=>q) fun _ _ q=>q
  rcases hc with z | z
  ·rw [z];exact nit b u e
  ·exact nit c _ z
def Ite (K:PySem.W.Frag) (a:Addr):It:=
 ⟨fun i H=>∃ xs x,SqL K H a xs∧xs[i]?=some x,fun i H x H'=>∃ t y,x=.ref t∧H t=none∧H'=upd H t (.tup [.int i,y])∧∀ xs,SqL K H a xs→xs[i]?=some y,fun i H=>∃ xs,SqL K H a xs∧xs.length≤i⟩
theorem push_some {h:Heap} {o v:Obj} {b:Addr} (e:(h.push o).get? b=some v) (ne:b≠h.objs.size):h.get? b=some v:=(Heap.get?_push_cases e).elim (fun z=>absurd z.1 ne) fun z=>z
theorem turn_enum {P:Program} {w:World} {K:PySem.W.Frag} {es:List Expr} {x1} {pos:Pos} (a e it:Addr) (hei:e≠it):Turn P w K (.Tuple es x1 pos) (Ite K a) [e,it] e (fun i h=>(∃ old,IsEnum h e it i old)∧h.IsListIter it a i) where
 mem:=by simp
 obj:=fun i h st b hb=>by
  obtain ⟨⟨old,he⟩,o,e1,c,d⟩:=st
  simp only [List.mem_cons,List.not_mem_nil,or_false] at hb
  rcases hb with rfl | rfl
  ·exact ⟨_,he,fun v z=>by
    have z':Data.fields _=Data.cell v:=z
    cases z'⟩
  ·exact ⟨o,e1,fun v z=>by rw [d] at z;cases z⟩
 keep:=fun i h h' st k=>by
  obtain ⟨⟨old,he⟩,hit⟩:=st
  exact ⟨⟨old,k e (by simp) _ he⟩,hit.at fun o x=>k it (by simp) o x⟩
 item:=by
  intro X hP hw hK hc i pins s σ H E I hf st hg
  subst hP hw hK
  obtain ⟨⟨old,he⟩,hit⟩:=st
  obtain ⟨xs,x,hq,hx⟩:=hg
  obtain ⟨its,rv,p,hz⟩:=I.list hq
  obtain ⟨u,hu,ru⟩:=rv.get hx
  refine wpAny_pyNext_enum_item he hit p.isList (x:=u) (by simpa using hu) hei fun h' ho hit' hT hsz hk=>?_
  refine ⟨_,rfl,wpAny_letOwnedTupleGo_enum ho fun h2 he2 hs2=>?_⟩
  have fre:H s.heap.objs.size=none:=I.hok.fresh (Nat.le_refl _)
  have ne1:s.heap.objs.size≠e:=Nat.ne_of_gt (Heap.lt_size he)
  have ne2:s.heap.objs.size≠it:=by obtain ⟨o,e1,_⟩:=hit;exact Nat.ne_of_gt (Heap.lt_size e1)
  have I1:Inv X pins σ (upd H s.heap.objs.size (.tup [.int i,x])) { s with heap:=s.heap.push { cls:=.type "tuple",data:=.seq #[.int i s.toks,u] },toks:=s.toks + 1 }:=
   I.laid (fun b u e=>Heap.get?_push_of_some _ e) (Nat.le_refl _) ⟨by show 2≤sizeLine;decide,[.int i s.toks,u],.cons ⟨_,rfl⟩ (.cons ru .nil),⟨_,Heap.get?_push_size _ rfl,rfl,_,rfl⟩⟩
  have hf1:∀ b∈[e,it],qcZ X pins (upd H s.heap.objs.size (.tup [.int i,x])) b:=fun b hb=>by
   obtain ⟨f0,f⟩:=hf b hb
   refine ⟨?_,f⟩
   rw [qr]
   ·exact f0
   ·simp only [List.mem_cons,List.not_mem_nil,or_false] at hb
    rcases hb with rfl | rfl
    ·exact ne1.symm
    ·exact ne2.symm
  have kk:∀ b o,b∉[e,it]→(s.heap.push { cls:=.type "tuple",data:=.seq #[.int i s.toks,u] }).get? b=some o→h2.get? b=some o:=fun b o hb z=>by
   simp only [List.mem_cons,List.not_mem_nil,or_false,not_or] at hb
   by_cases hz:b=s.heap.objs.size
   ·subst hz
    rw [Heap.get?_push_size _ rfl] at z
    cases z
    exact (hs2.2 _ ne1).trans hT
   ·exact (hs2.2 b hb.1).trans (hk b o hb.1 hb.2 (push_some z hz))
  have I2:=I1.turnedL (h':=h2) (t':=s.toks + 1) (fp:=[e,it]) kk hf1
  exact ⟨.ref s.heap.objs.size,_,I2,rfl,⟨_,x,rfl,fre,rfl,fun ys hy=>by rw [I.list_inj hy hq];exact hx⟩,⟨⟨_,by simpa using he2⟩,hit'.at fun o y=>(hs2.2 it hei.symm).trans y⟩,fun b hb=>(hf1 b hb).1⟩
 done:=by
  intro X hP hw hK hc i pins s σ H E I hf st hg
  subst hP hw hK
  obtain ⟨⟨old,he⟩,hit⟩:=st
  obtain ⟨xs,hq,hx⟩:=hg
  obtain ⟨its,rv,p,hz⟩:=I.list hq
  have hl:=rv.length
  exact wpAny_pyNext_enum_end (I.ok.hd hc) he hit p.isList (Array.getElem?_eq_none (by simp;omega)) fun h' eb=>⟨rfl,I.turnedL (t':=s.toks) (fp:=[e,it]) (fun b o hb z=>eb b o (fun z'=>hb (by simp [z'])) z) hf⟩
 self:=fun _ _ _ _ _ st h=>by
  obtain ⟨⟨old,he⟩,_⟩:=st
  exact wpAny_pyIter_enum he h
theorem boot_enumerate:bootBuiltins "enumerate"=some (.type "enumerate"):=by decide +kernel
def qf2 (K:PySem.W.Frag) (ta:TA):TI:=fun σ H R=>ta σ H fun vs H1=>∃ a xs,vs=[.ref a]∧SqL K H1 a xs∧R (Ite K a) H1
theorem pi_enum {X:Cx} {K:PySem.W.Frag} {a:Expr} {ta:TA} {es:List Expr} {x1} {tp p pos:Pos} (hK:X.K=K) (hg:Gl X "enumerate") (hm:X.mg "enumerate"=none) (ha:PA X [a] ta) (hs:starEach [a] X.env=[(false,eval a X.env)]:=by rfl):PI X (.Tuple es x1 tp) (.Call (.Name "enumerate" p) [a] [] pos) (qf2 K ta):=by
 subst hK
 intro pins s σ H R I h
 refine Call_ (qa9 I hg hm boot_enumerate (PyProof.Rows.callWith_type1 (thn (ha pos pins s σ H _ I h) fun us s1 ⟨vs,H1,I1,r1,q1⟩=>?_) hs rfl))
 obtain ⟨a,xs,e,hq,q⟩:=q1
 subst e
 cases r1 with
 | cons r rr =>
  cases rr
  cases r
  obtain ⟨its,rv,pl,hz⟩:=I1.list hq
  refine call_enumerate_list pl.isList fun h' he hi hsz hk=>wpAny_pyIter_enum he ?_
  refine ⟨_,[s1.heap.objs.size + 1,s1.heap.objs.size],_,_,H1,rfl,I1.kept (t':=s1.toks) hk,turn_enum a _ _ (Nat.succ_ne_self _),⟨⟨_,he⟩,hi⟩,fun b hb=>?_,q⟩
  simp only [List.mem_cons,List.not_mem_nil,or_false] at hb
  rcases hb with rfl | rfl
  ·exact I1.fpOk (Nat.le_succ _) (I1.hok.fresh (Nat.le_succ _))
  ·exact I1.fpOk (Nat.le_refl _) (I1.hok.fresh (Nat.le_refl _))
theorem for_enum {K:PySem.W.Frag} {a:Addr} {xs:List V} {g:TG} {tb:TS} {D:Ends} {σ:St} {H:Hp} (Pv:Nat→St→Hp→Prop) (h0:Pv 0 σ H) (hl:∀ i σ H,i≤xs.length→Pv i σ H→SqL K H a xs)
  (hs:∀ i x t σ H,xs[i]?=some x→H t=none→Pv i σ H→g (.ref t) σ (upd H t (.tup [.int i,x])) fun σ2 H2=>tb { D with nx:=Pv (i + 1),ct:=Pv (i + 1),bk:=D.nx } σ2 H2) (hd:∀ σ H,Pv xs.length σ H→D.nx σ H) :
  ∃ W:Nat→Nat→St→Hp→Prop,(∃ m,W 0 m σ H)∧∀ i m σ H,W i m σ H →
   ((Ite K a).stop i H∧D.nx σ H)∨((Ite K a).go i H∧∃ N:St→Hp→Prop,(∀ σ' H',N σ' H'→∃ m',m' < m∧W (i + 1) m' σ' H')∧∀ x H',(Ite K a).yld i H x H'→g x σ H' fun σ2 H2=>tb { D with nx:=N,ct:=N,bk:=D.nx } σ2 H2):=by
 refine ⟨fun i m σ H=>m=xs.length - i∧i≤xs.length∧Pv i σ H,⟨xs.length,by simp,Nat.zero_le _,h0⟩,?_⟩
 rintro i m σ H ⟨rfl,hi,p⟩
 have q:=hl i σ H hi p
 by_cases hlt:i < xs.length
 ·refine .inr ⟨⟨xs,xs[i],q,by simp [hlt]⟩,Pv (i + 1),fun σ' H' p'=>⟨xs.length - (i + 1),by omega,rfl,hlt,p'⟩,fun x H' y=>?_⟩
  obtain ⟨t,v,rfl,ht,rfl,y⟩:=y
  exact hs i v t σ _ (y xs q) ht p
 ·have e:i=xs.length:=by omega
  subst e
  exact .inl ⟨⟨xs,q,Nat.le_refl _⟩,hd σ H p⟩
theorem vEnum {K:PySem.W.Frag} {tas:TA} {σ:St} {H:Hp} {R:It→Hp→Prop} (h:tas σ H fun vs H1=>∃ a xs,vs=[.ref a]∧SqL K H1 a xs∧R (Ite K a) H1):qf2 K tas σ H R:=h
end L2
namespace L2
open PySem PySem.Spec PyProof.Rows
section
variable {X:Cx}
end
end L2
namespace L2
open PySem PySem.Spec PyProof.Rows PySem.Builtin PySem.Builtin.Str
theorem vDGet2 {td ty tx:TE} {σ:St} {H:Hp} {Q:VK} (h:td σ H fun x H1=>∃ a,x=.ref a∧IsD H1 a∧ty σ H1 fun y H2=>tx σ H2 fun z H3=>∃ o,DGet H3 a y o∧Q (o.getD z) H3):tDGet2 td ty tx σ H Q:=h
end L2
namespace L2
open PySem PySem.Spec PyProof.Rows
theorem qbT (a b:Str):eqV (.str a) (.str b)=decide (a=b):=by
 have e:eqV (.str a) (.str b)=(a==b):=by simp [eqV]
 rw [e,Bool.eq_iff_iff,beq_iff_eq,decide_eq_true_iff]
theorem qco:∀ (ys:List Str) (y:Str) (m:Nat) (hm:m < ys.length),m < ys.idxOf y→ys[m]≠y
 | [],_,_,hm,_=>by simp at hm
 | a::r,y,m,hm,h=>by
  rw [List.idxOf_cons] at h
  by_cases e:a=y
  ·subst e;simp at h
  ·have hb:(a==y)=false:=beq_eq_false_iff_ne.mpr e
   rw [hb] at h
   cases m with
   | zero=>exact e
   | succ k =>
    have hk:k < r.idxOf y:=by
     have h:k + 1 < r.idxOf y + 1:=h
     omega
    exact qco r y k (by simpa using hm) hk
section
variable {X:Cx} {K:PySem.W.Frag}
def rIndex (K:PySem.W.Frag):V→List V→Hp→VK→Prop:=fun x vs H Q=>∃ (p:Addr) (ys:List Str) (y:Str),x=.ref p∧vs=[.str y]∧SqL K H p (ys.map V.str)∧y∈ys∧Q (.int (ys.idxOf y:Nat)) H
theorem qcR (hK:X.K=K):MtR X "list.index" (rIndex K):=by
 subst hK
 intro pins s σ H x vs v us Q I rx rv h
 obtain ⟨p,ys,y,rfl,rfl,hq,hy,q⟩:=h
 cases rx
 obtain ⟨u,rfl,ru⟩:=rv.one
 obtain ⟨its,r,pl,hz⟩:=I.list hq
 obtain ⟨⟨cls,dd,data,sl⟩,ho,hc,n,hd⟩:=id pl.isList
 simp only at hc hd
 subst hc hd
 have fs:(ys.map V.str).all zt=true:=by rw [List.all_map];exact List.all_eq_true.mpr fun _ _=>rfl
 have hlen:(ys.map V.str).length=its.length:=r.length
 rw [List.length_map] at hlen
 have hj:ys.idxOf y < ys.length:=List.idxOf_lt_length_iff.mpr hy
 have at_:∀ (m:Nat) (hm:m < ys.length) (hm':m < its.toArray.size),eqU (.str y) its.toArray[m]=decide (ys[m]=y):=fun m hm hm'=>by
  have g:(ys.map V.str)[m]?=some (.str ys[m]):=by rw [List.getElem?_map,List.getElem?_eq_getElem hm];rfl
  obtain ⟨w,hw,rw'⟩:=r.get g
  have e:its.toArray[m]=w:=by
   have:its.toArray[m]?=some w:=by simpa using hw
   rw [Array.getElem?_eq_getElem hm'] at this
   exact Option.some.inj this
  rw [e,qd1 rw' rfl,qbT]
 have hi:ys.length≤sizeLine:=by rw [List.length_map] at hz;exact hz
 have hsl:sizeLine < 2 ^ 63 - 1:=by decide
 refine call_meets PySem.F.slot_list_index ⟨_,ho,rfl⟩ PySem.F.entry_list_index (PySem.F.args_list_index_2 _ _)
  (SeqAt.list_indexAt p its.toArray n dd sl u (eqU (.str y)) (ys.idxOf y) (by simpa [← hlen] using hj) (by omega) ?_ ?_) ⟨ho,fun w hw=>qad ru rfl r fs w (by simpa using hw),.int _,H,I.tok _,⟨_,rfl⟩,q⟩
 ·rw [at_ _ hj]
  exact decide_eq_true (List.getElem_idxOf hj)
 ·intro m hm hlt
  rw [at_ m (by omega)]
  exact decide_eq_false fun e=>qco ys y m (by omega) hlt e
end
theorem qcp (xs:List V) (k:Nat):qb3 xs none (some (k:Int))=xs.take k:=by
 unfold qb3
 rw [HT.sIx_none,HT.sIx_nat,List.drop_zero,Nat.sub_zero]
 by_cases h:k≤xs.length
 ·rw [Nat.min_eq_left h]
 ·rw [Nat.min_eq_right (by omega),List.take_of_length_le (Nat.le_refl _),List.take_of_length_le (by omega)]
theorem cutV_drop (xs:List V) (k:Nat):qb3 xs (some (k:Int)) none=xs.drop k:=by
 unfold qb3
 rw [HT.sIx_none,HT.sIx_nat]
 by_cases h:k≤xs.length
 ·rw [Nat.min_eq_left h,List.take_of_length_le (by rw [List.length_drop];omega)]
 ·rw [Nat.min_eq_right (by omega),List.drop_length,List.drop_of_length_le (by omega)]
  simp
end L2
namespace L2
open PySem PySem.Spec PyProof.Rows
section
variable {X:Cx} {K:PySem.W.Frag}
def rNotT (K:PySem.W.Frag):R2:=fun x y H Q=>∃ p xs e n,y=.ref p∧SqT K H p xs∧n≤60∧(∀ z∈xs,EqD K H n z x (e z))∧Q (.bl (!xs.any e)) H
theorem k_notinT (hK:X.K=K) (hu:X.A.units + 100 < cLine):OpR X (compareOp .NotIn) (rNotT K):=by
 subst hK
 intro pins s σ H x y u v Q I rx ry h
 obtain ⟨p,xs,e,n,rfl,hl,hn,he,q⟩:=h
 cases ry
 obtain ⟨its,r,pl,hz⟩:=I.tuple hl
 obtain ⟨e',h1,h2⟩:=qee (A:=X.A.in1) I r rx (by show X.A.units + 1 + n < cLine;omega) he
 exact SeqAt.notIn_tupleAt e' pl h1 (by rw [h2];exact ⟨.bl _,H,I,rfl,q⟩)
theorem mt_isalpha:MtR X "str.isalpha" (fun x vs H Q=>∃ z,x=.str z∧vs=[]∧Q (.bl (Txt.isalpha z)) H):=by
 intro pins s σ H x vs v us Q I rx rv h
 obtain ⟨z,rfl,rfl,q⟩:=h
 obtain ⟨t,rfl⟩:=rx
 cases rv
 exact call_gives F.slot_str_isalpha (typeIs_str _ _ _) F.entry_str_isalpha (F.args_str_isalpha_1 _) (gives_str_isalpha z t) ⟨.bl _,H,I,rfl,q⟩
theorem mt_islower:MtR X "str.islower" (fun x vs H Q=>∃ z,x=.str z∧vs=[]∧Q (.bl (Txt.islower z)) H):=by
 intro pins s σ H x vs v us Q I rx rv h
 obtain ⟨z,rfl,rfl,q⟩:=h
 obtain ⟨t,rfl⟩:=rx
 cases rv
 exact call_gives F.slot_str_islower (typeIs_str _ _ _) F.entry_str_islower (F.args_str_islower_1 _) (gives_str_islower z t) ⟨.bl _,H,I,rfl,q⟩
theorem qdj:∀ {ns:List Int} {us:List Value},Vals (ns.map V.int) us→IntsAre us ns
 | [],_,.nil=>.nil
 | n::ns,_,.cons r t=>by
  obtain ⟨tk,rfl⟩:=r
  exact .cons n tk (qdj t)
def rSum (K:PySem.W.Frag):List V→Hp→VK→Prop:=fun xs H Q=>∃ (p:Addr) (ns:List Int),xs=[.ref p]∧SqL K H p (ns.map V.int)∧Q (.int ns.sum) H
theorem qf3 (hK:X.K=K) (hc:X.calm=true):zH X (.builtin "sum") (rSum K):=by
 subst hK
 intro pins s σ H xs us Q I r h
 obtain ⟨p,ns,rfl,hq,q⟩:=h
 obtain ⟨u,rfl,ru⟩:=qbc r
 cases ru
 obtain ⟨its,rv,pl,hz⟩:=I.list hq
 have hi:=qdj rv
 obtain ⟨xs,hx⟩:=hi.allInts.items
 have hl':s.heap.IsList p (intItems xs):=hx ▸ pl.isList
 refine sum_intListG (I.ok.hd hc) hl' fun h' tk t' hk=>?_
 have e1:ns=xs.toList.map (·.1):=by
  rw [← nums_intItems,← hx]
  exact (show numsOf its.toArray.toList=ns from hi.numsOf).symm
 have e2:preSum (numAt xs) xs.size=ns.sum:=by
  rw [preSum_eq,List.take_of_length_le (by simp),e1]
 rw [e2]
 exact ⟨.int _,H,I.kept hk,⟨_,rfl⟩,q⟩
theorem boot_sum:bootBuiltins "sum"=some (.builtin "sum"):=by decide +kernel
end
end L2
namespace HT
open PySem PySem.Spec PyProof.Rows
section
variable {prog:Program} {w:World} {A:Around} {E:Value→Shared→Prop} {s:Shared}
theorem sliceApplied_one {sl:Addr} {vs:Value} {Q:Int×Int×Nat→Shared→Prop} (hs:s.heap.IsSliceOf sl .none .none vs) (ps:IsPart vs (some 1))
  (h:Q (0,1,2) s):wpAny (model prog w) A (Builtin.Slice.sliceApplied (.ref sl) (pure ((2:Nat):Int))) Q E s:=by
 obtain ⟨os,hos,hcs,hds⟩:=id hs
 unfold Builtin.Slice.sliceApplied Builtin.Slice.sliceFields
 refine wpAny_bind (wpAny_bind (wpAny_field hos hds (x:=.none) rfl (wpAny_bind (wpAny_field hos hds (x:=.none) rfl (wpAny_bind (wpAny_field hos hds (x:=vs) rfl (wpAny_pure ?_)))))))
 refine wpAny_bind (qac ps ?_)
 show wpAny _ _ (if ((1:Int)==0)=true then _ else _) _ _ s
 rw [if_neg (by decide)]
 refine wpAny_bind (slicePart_none (wpAny_bind (slicePart_none (wpAny_bind (wpAny_pure ?_)))))
 exact wpAny_pure h
theorem getItem_pair_one {t sl:Addr} {x y:Value} {vs:Value} {Q:Value→Shared→Prop} (ht:IsTup s.heap t #[x,y]) (hs:s.heap.IsSliceOf sl .none .none vs) (ps:IsPart vs (some 1))
  (h:Q (.ref t) s):wpAny (model prog w) A (getItem (.ref t) (.ref sl)) Q E s:=by
 obtain ⟨os,hos,hcs,hds⟩:=id hs
 have hTs:s.TypeIs (.ref sl) "slice":=⟨os,hos,hcs⟩
 unfold getItem
 try with_reducible refine wpAny_holding ?_
 first | refine wpAny_bind (wpAny_pure ?_) | skip
 refine wpAny_bind (wpAny_sequenceKey ht.typeIs (by decide) ?_)
 refine wpAny_bind (wpAny_callSpecial?_slot (name:=Str.ofString "__getitem__") ht.typeIs PyProof.Rows.slot_tuple_getitem
  (wpAny_call_entry PyProof.Rows.slot_tuple_getitem ht.typeIs entry_tuple_getitem ?_ (args_tuple_getitem _ _)))
 show wpAny _ _ (Builtin.Tuple.tupleItemsOf (.ref t)>>=_) _ _ s
 refine wpAny_bind (tupleItemsOf_ ht ?_)
 refine wpAny_bind (wpAny_typeOf hTs ?_)
 rw [if_pos (by decide)]
 refine wpAny_bind (sliceApplied_one hs ps ?_)
 show wpAny _ _ (if ((0:Int)==0&&(1:Int)==1&&2==2)=true then _ else _) _ _ s
 rw [if_pos (by decide)]
 unfold Builtin.Tuple.tupleIsExact
 refine wpAny_bind (wpAny_bind (wpAny_typeOf ht.typeIs (wpAny_pure ?_)))
 rw [if_pos (by decide)]
 refine wpAny_bind (wpAny_rule ?_)
 exact wpAny_pure ⟨_,rfl,wpAny_pure h⟩
end
end HT
namespace L2
open PySem PySem.Spec PyProof.Rows
def qf4 (K:PySem.W.Frag) (te:TE) (ts:TO):TE:=fun σ H Q=>te σ H fun x H1=>ts σ H1 fun o H2=>∃ a y z,x=.ref a∧SqT K H2 a [y,z]∧((o=some (-1)∧∀ p,H2 p=none→Q (.ref p) (upd H2 p (.tup [z,y])))∨(o=some 1∧Q (.ref a) H2))
theorem vStep {K:PySem.W.Frag} {te:TE} {ts:TO} {σ:St} {H:Hp} {Q:VK} (h:te σ H fun x H1=>ts σ H1 fun o H2=>∃ a y z,x=.ref a∧SqT K H2 a [y,z]∧((o=some (-1)∧∀ p,H2 p=none→Q (.ref p) (upd H2 p (.tup [z,y])))∨(o=some 1∧Q (.ref a) H2))):qf4 K te ts σ H Q:=h
section
variable {X:Cx} {K:PySem.W.Frag} {e st:Expr} {te:TE} {ts:TO} {p2 pos:Pos}
theorem pe_step (hK:X.K=K) (he:PE X e te) (hs:PO X (some st) ts):PE X (.Subscript e (.Slice none none (some st) p2) pos) (qf4 K te ts):=by
 subst hK
 intro pins s σ H Q I h
 refine Subscript_ (thn (he pins s σ H _ I h) fun v s1 ⟨x,H1,I1,r1,q1⟩=>?_)
 refine wpAny_Slice ?_
 rw [evalPart_none]
 refine wpAny_pure ?_
 refine wpAny_pure ?_
 refine thn (hs pins s1 σ H1 _ I1 q1) fun vt s2 ⟨o,H2,I2,pt,a,y,z,ex,hx,q⟩=>?_
 subst ex
 cases r1
 have I4:Inv X pins σ H2 { s2 with heap:=s2.heap.push { cls:=.type "slice",data:=.fields #[.none,.none,vt] } }:=I2.kept (t':=s2.toks) fun b ob q=>Heap.get?_push_of_some _ q
 obtain ⟨its,r,ht,hz⟩:=I4.tuple hx
 obtain ⟨u1,u2,rfl,ru1,ru2⟩:=qcK r
 show wpAny (model X.prog X.w) X.A (subscriptTail e (.Slice none none (some st) p2) (.ref a) (.ref s2.heap.objs.size)) (EP X pins σ Q) X.xe { s2 with heap:=s2.heap.push { cls:=.type "slice",data:=.fields #[.none,.none,vt] } }
 rcases q with ⟨eo,q⟩ | ⟨eo,q⟩
 ·subst eo
  refine tail_any (ops:=[.ref a,.ref s2.heap.objs.size]) ht.typeIs PyProof.Rows.slot_tuple_getitem.lookup (HT.getItem_pair_rev ht (Heap.IsSliceOf.new ..) pt ?_) (by with_unfolding_all rfl)
  refine ⟨.ref _,_,I4.laid (t':=s2.toks) (o:=.tup [z,y]) (fun b ob q=>Heap.get?_push_of_some _ q) (Nat.le_refl _) ?_,rfl,q _ (I4.hok.fresh (Nat.le_refl _))⟩
  exact ⟨by show 2≤sizeLine;decide,_,.cons ru2 (.cons ru1 .nil),IsTup.new _ _⟩
 ·subst eo
  refine tail_any (ops:=[.ref a,.ref s2.heap.objs.size]) ht.typeIs PyProof.Rows.slot_tuple_getitem.lookup (HT.getItem_pair_one ht (Heap.IsSliceOf.new ..) pt ?_) (by with_unfolding_all rfl)
  exact ⟨.ref _,H2,I4,rfl,q⟩
end
end L2
namespace L2
open PySem PySem.Spec PyProof.Rows
def FG (K:PySem.W.Frag) (nm:Str) (st:Stmt):Prop:=∃ f fd,PySem.W.nsIn K mainGlobals nm=some (some (.ref f))∧Fun K nm nm st f fd
def FM (K:PySem.W.Frag) (C:Addr) (m ql:Str) (st:Stmt):Prop:=∃ f fd,PySem.W.findIn K (.ref C) m=some (some (.ref f))∧PySem.W.isFn K (.ref f)=true∧Fun K m ql st f fd
def FC (K:PySem.W.Frag) (C:Addr) (m ql:Str) (st:Stmt):Prop:=∃ f fd,PySem.W.findCls K (.ref C) (.type "type") m=some (.val (.ref f))∧Fun K m ql st f fd
structure XQ (K:PySem.W.Frag) (C:Addr):Prop where
 xa:PySem.W.findIn K (.ref C) "__getattribute__"=some (some (.builtin "BaseException.__getattribute__"))
 xb:PySem.W.findIn K (.ref C) "__getattr__"=some none
 xd:PySem.W.mroIn K C (.type "BaseException")=some true
 xe:PySem.W.mroIn K C (.type "object")=some true
 xf:PySem.W.hasDictIn K C=true
 xg:PySem.W.findIn K (.ref C) "__class__"=some (some (.builtin "object.__class__"))
 xh:PySem.W.findIn K (.ref C) "__setattr__"=some (some (.builtin "object.__setattr__"))
 p:PySem.W.keepIn K (.ref C)=true
section
variable {P:Program} {w:World} {K:PySem.W.Frag} {mg:Str→Option Value} {base h:Heap} {CX:CXT} {k:Nat} {sp:Sp} {st:Stmt} {f:Addr} {fd:FuncData} {ps:List Str} {nm m ql x:Str} {C:Addr}
abbrev BA (x ql:Str) (st:Stmt) (ps:List Str):Prop:=∀ (kV doc pm:Value) (an:Option Addr) (cdv ct:Value) (us:List Value),us.length=ps.length→bindArgs (PySem.W.fnOf x ql (qq st) (qj st) (qe st) .none kV doc pm an cdv ct) ⟨us,[]⟩=pure (ps.zip us)
theorem fg_mk (X:K.In h) (G:h.Ns mainGlobals mg) (a:PySem.W.nsIn K mainGlobals nm=some (some (.ref f))) (F:Fun K nm nm st f fd) (o:FnOk P w K mg base CX k f fd ps sp)
  (hb:BA nm nm st ps:=by first | (exact fun _ _ _ _ _ _ us hl=>(match us,hl with | [_],_=>rfl)) | (exact fun _ _ _ _ _ _ us hl=>(match us,hl with | [_,_],_=>rfl)) | (exact fun _ _ _ _ _ _ us hl=>(match us,hl with | [_,_,_],_=>rfl)) | (exact fun _ _ _ _ _ _ us hl=>(match us,hl with | [_,_,_,_],_=>rfl))) :
  DefOk P w K mg base CX k nm ps sp:=⟨_,_,o,PySem.W.mg_of X G a,F.kp,F.binds hb⟩
theorem fm_mk (wcl:Cls K C) (a:PySem.W.findIn K (.ref C) m=some (some (.ref f))) (n:PySem.W.isFn K (.ref f)=true) (F:Fun K m ql st f fd) (o:FnOk P w K mg base CX k f fd ps sp)
  (hb:BA m ql st ps:=by first | (exact fun _ _ _ _ _ _ us hl=>(match us,hl with | [_],_=>rfl)) | (exact fun _ _ _ _ _ _ us hl=>(match us,hl with | [_,_],_=>rfl)) | (exact fun _ _ _ _ _ _ us hl=>(match us,hl with | [_,_,_],_=>rfl)) | (exact fun _ _ _ _ _ _ us hl=>(match us,hl with | [_,_,_,_],_=>rfl))) :
  MethOk P w K mg base CX k C m ps sp:=⟨⟨_,_,o,⟨a,n,F.kp⟩,F.binds hb⟩,wcl⟩
theorem fw_mk (X:K.In h) (G:h.Ns mainGlobals mg) (c:PySem.W.nsIn K mainGlobals x=some (some (.ref C))) (w5:PySem.W.makesIn K C=true) (w6:PySem.W.keepIn K (.ref C)=true) (a:PySem.W.findIn K (.ref C) "__init__"=some (some (.ref f))) (n:PySem.W.isFn K (.ref f)=true) (F:Fun K "__init__" ql st f fd) (o:FnOk P w K mg base CX k f fd ps sp)
  (hb:BA "__init__" ql st ps:=by first | (exact fun _ _ _ _ _ _ us hl=>(match us,hl with | [_],_=>rfl)) | (exact fun _ _ _ _ _ _ us hl=>(match us,hl with | [_,_],_=>rfl)) | (exact fun _ _ _ _ _ _ us hl=>(match us,hl with | [_,_,_],_=>rfl))) :
  MakeOk P w K mg base CX k C x ps sp:=⟨⟨_,_,o,⟨w5,a,n,w6⟩,F.binds hb⟩,PySem.W.mg_of X G c⟩
theorem qeg (X:K.In h) (G:h.Ns mainGlobals mg) (c:PySem.W.nsIn K mainGlobals x=some (some (.ref C))) (Y:XAt K C) (q:XQ K C) (a:PySem.W.findIn K (.ref C) "__init__"=some (some (.ref f))) (n:PySem.W.isFn K (.ref f)=true) (F:Fun K "__init__" ql st f fd) (o:FnOk P w K mg base CX0 k f fd ps sp)
  (hb:BA "__init__" ql st ps:=by first | (exact fun _ _ _ _ _ _ us hl=>(match us,hl with | [_],_=>rfl)) | (exact fun _ _ _ _ _ _ us hl=>(match us,hl with | [_,_],_=>rfl))) :
  XMakeOk P w K mg base k C x ps sp:=⟨⟨_,_,o,⟨Y,a,n,q.p⟩,F.binds hb⟩,PySem.W.mg_of X G c⟩
theorem fc_mk (X:K.In h) (G:h.Ns mainGlobals mg) (c:PySem.W.nsIn K mainGlobals x=some (some (.ref C))) (r1:PySem.W.readsIn K C (.type "type")=true) (r2:PySem.W.findCls K (.ref C) (.type "type") m=some (.val (.ref f))) (r3:PySem.W.specialIn K (.ref C) "__getattribute__"=some (some (.builtin "type.__getattribute__"))) (F:Fun K m ql st f fd) (o:FnOk P w K mg base CX k f fd ps sp)
  (hb:BA m ql st ps:=by (exact fun _ _ _ _ _ _ us hl=>(match us,hl with | [_,_],_=>rfl))) :
  CMethOk P w K mg base CX k C x m ps sp:=⟨⟨_,_,o,⟨r1,r2,r3,F.kp⟩,F.binds hb⟩,PySem.W.mg_of X G c⟩
theorem qdK {bm:List Value} (x:XL K C bm) (hb:qb4 bm=true) (q:XQ K C) (w16:PySem.W.specialIn K (.builtin "object.__class__") "__get__"=some (some (.builtin "getset_descriptor.__get__"))) (w17:PySem.W.takesIn K (.builtin "object.__class__")=some true):XAt K C:=x.xat hb q.xa q.xb q.xd q.xe q.xf q.xg w16 w17 q.xh
end
end L2
namespace K04
open PySem L2 PyProof.Rows
theorem zR {k:Nat} {A:Around} (hr:Room k A):A.units + 100 < cLine:=by have:=hr.un;omega
theorem hm {k j:Nat} {A:Around} (hr:Room k A) (h:j≤k:=by decide):Room j A:=hr.mono h
def top (i:Nat):Stmt:=PySem.Challenge.pw_onceroad_k04_webs_made_of_one.main.body.getD i (.Pass ⟨0,0,0,0⟩)
abbrev qU:Stmt:=qT (top 2) 0
theorem sc_OnceError_init:FnScope ["self", "text"] ["self", "text"] (qe qU):=⟨rfl,rfl,rfl,by decide +kernel,rfl,by decide +kernel,by decide +kernel⟩
abbrev jz:Stmt:=qT (top 3) 0
theorem sc_NoName_init:FnScope ["self", "found"] ["self", "found"] (qe jz):=⟨rfl,rfl,rfl,by decide +kernel,rfl,by decide +kernel,by decide +kernel⟩
abbrev jH:Stmt:=qT (top 4) 0
theorem sc_Twice_init:FnScope ["self", "name"] ["self", "name"] (qe jH):=⟨rfl,rfl,rfl,by decide +kernel,rfl,by decide +kernel,by decide +kernel⟩
abbrev jm:Stmt:=qT (top 5) 0
theorem sc_NoPlace_init:FnScope ["self", "found"] ["self", "found"] (qe jm):=⟨rfl,rfl,rfl,by decide +kernel,rfl,by decide +kernel,by decide +kernel⟩
abbrev jI:Stmt:=qT (top 6) 0
theorem sc_NoTie_init:FnScope ["self", "found"] ["self", "found"] (qe jI):=⟨rfl,rfl,rfl,by decide +kernel,rfl,by decide +kernel,by decide +kernel⟩
abbrev jn:Stmt:=qT (top 7) 0
theorem sc_TooMany_init:FnScope ["self", "many"] ["self", "many"] (qe jn):=⟨rfl,rfl,rfl,by decide +kernel,rfl,by decide +kernel,by decide +kernel⟩
local macro_rules | `(tactic| walk_at "vc1")=>`(tactic| first
 | with_reducible refine vSeq ?_ | with_reducible refine vAsg ?_ | with_reducible refine vAsgS ?_ | with_reducible refine vIfS ?_ | with_reducible refine vRet ?_ | with_reducible refine vNext ?_ | with_reducible refine vC ?_
 | ((with_reducible refine' vVar ?hv ?_);(case hv=>rfl)) | with_reducible refine vOp ?_ | with_reducible refine vChain ?_ | with_reducible refine vNil ?_ | with_reducible refine vCons ?_ | with_reducible refine vCB ?_ | with_reducible refine vCall ?_
 | with_reducible refine vLst ?_ | with_reducible refine vTup ?_ | with_reducible refine vTest ?_ | with_reducible refine vB ?_ | with_reducible refine vNot ?_ | with_reducible refine vAnd ?_ | with_reducible refine vOr ?_
 | with_reducible refine vAndV ?_ | with_reducible refine vOrV ?_ | with_reducible refine vNotV ?_ | with_reducible refine vYes ?_ | with_reducible refine vLeI ?_ | with_reducible refine vLeS ?_ | with_reducible refine vIsB ?_ | with_reducible refine vAddI ?_ | with_reducible refine vSl ?_ | with_reducible refine vNoPart ?_ | with_reducible refine vPart ?_ | with_reducible refine vExI ?_ | with_reducible refine vBM ?_ | with_reducible refine vBM0 ?_ | with_reducible refine vComp ?_ | with_reducible refine vFor ?_ | with_reducible refine vRng1 ?_ | with_reducible refine vAny ?_ | with_reducible refine vGN ?_ | with_reducible refine vI0 ?_ | with_reducible refine vEqI ?_ | with_reducible refine vEqB ?_ | with_reducible refine vEx ?_ | with_reducible refine vDrop ?_ | with_reducible refine vRetN ?_ | with_reducible refine vFldU ?_ | with_reducible refine vSFldU ?_ | with_reducible refine vXMake ?_ | with_reducible refine vMake ?_ | with_reducible refine vMeth ?_ | with_reducible refine vVinit ?_ | with_reducible refine vCallS ?_ | with_reducible refine vRaise ?_ | with_reducible refine vMethS ?_ | with_reducible refine vMakeS ?_ | with_reducible refine vUn ?_ | with_reducible refine vIf ?_ | with_reducible refine vRev ?_ | with_reducible refine vEnum ?_ | with_reducible refine vDGet2 ?_ | with_reducible refine vStep ?_)
local macro_rules | `(tactic| walk_at "vc")=>`(tactic| repeat walk_at "vc1")
def qay (i:Nat):Str:=if i=1 then "name" else if i=4 then "many" else if i=5 then "at" else "found"
structure Txt (K:W.Frag) (mg:Str→Option Value) (cc:Nat→Addr) (cw:Addr):Prop where
 b_len:mg "len"=none
 b_int:mg "int"=none
 b_enumerate:mg "enumerate"=none
 b_all:mg "all"=none
 b_max:mg "max"=none
 b_min:mg "min"=none
 b_isinstance:mg "isinstance"=none
 b_bool:mg "bool"=none
 b_str:mg "str"=none
 b_range:mg "range"=none
 b_list:mg "list"=none
 b_tuple:mg "tuple"=none
 b_ValueError:mg "ValueError"=none
 g_LONGEST_NAME:∃ tk,mg "LONGEST_NAME"=some (.int 6 tk)
 g_MOST_PLACES:∃ tk,mg "MOST_PLACES"=some (.int 14 tk)
 g_MOST_TIES:∃ tk,mg "MOST_TIES"=some (.int 30 tk)
 m_NoName:mg "NoName"=some (.ref (cc 0))
 m_Twice:mg "Twice"=some (.ref (cc 1))
 m_NoPlace:mg "NoPlace"=some (.ref (cc 2))
 m_NoTie:mg "NoTie"=some (.ref (cc 3))
 m_TooMany:mg "TooMany"=some (.ref (cc 4))
 m_OnceError:mg "OnceError"=some (.ref (cc 5))
 vinit:VInit K
 xat:∀ i,i < 5 + 1→XAt K (cc i)
 na:∀ i,i < 5→NoAttr K (cc i) (qay i)
 kit:∀ i j,i < 5→j < 5→W.kitOne K (.ref (cc i)) (.ref (cc j))=some (decide (i=j))
 kitV:∀ i,i < 5 + 1→W.kitOne K (.ref (cc i)) (.type "ValueError")=some true
 mroO:∀ i,i < 5→W.mroIn K (cc i) (.ref (cc 5))=some true
 wcl:Cls K cw
 wn:NoAttr K cw "numbers"
 wo:NoAttr K cw "order"
 wr:NoAttr K cw "near"
 m_Web:mg "Web"=some (.ref cw)
 tyW:∀ (H:Hp) (a dx:Addr) (fs:List (Str×V)),H a=some (.ins cw dx fs)→TyOf K H (.ref a) (.ref cw)
 kitW:W.kitOne K (.ref cw) (.ref cw)=some true
 b_sum:mg "sum"=none
 kitWX:∀ i,i < 5→W.kitOne K (.ref cw) (.ref (cc i))=some false
 kitXW:∀ i,i < 5→W.kitOne K (.ref (cc i)) (.ref cw)=some false
def qbk (K:W.Frag):Sp:=fun vs H Q _=>∃ (e C:Addr) (y:V),vs=[.ref e,y]∧H e=some (XN e C none)∧XAt K C∧Q .non H
def spX (C:Addr) (fl:Str):Sp:=fun vs H Q _=>∃ (e:Addr) (v:V),vs=[.ref e,v]∧H e=some (XN e C none)∧∀ dx,H dx=none→Q .non (upd (upd H dx (.xd [(fl,v)])) e (XN e C (some dx)))
section
variable {P:Program} {w:World} {K:W.Frag} {mg:Str→Option Value} {base:Heap} {cc:Nat→Addr} {cw:Addr}
theorem ok_once {f:Addr} {fd:FuncData} (F:Fun K "__init__" "OnceError.__init__" qU f fd) (T:Txt K mg cc cw):FnOk P w K mg base CX0 1 f fd ["self", "text"] (qbk K):=by
 refine F.ok sc_OnceError_init (fun vs H Q E h=>?_) fun cdv A outer s H vs Q E hr h=>?_
 ·obtain ⟨e,C,y,rfl,_⟩:=h;rfl
 ·obtain ⟨e,C,y,rfl,he,c,q⟩:=h
  refine ⟨_,(qf (jU (k_vinit (K:=K) rfl T.vinit rfl T.b_ValueError boot_ValueError (qa (pv 0) (qa (pv 1) qb))))),?_⟩
  walk_at "vc"
  exact ⟨e,C,y,rfl,he,c,q⟩
theorem ok_NoName {f:Addr} {fd:FuncData} (F:Fun K "__init__" "NoName.__init__" jz f fd) (T:Txt K mg cc cw) (D_OnceError_init:CMethOk P w K mg base CX0 1 (cc 5) "OnceError" "__init__" ["self", "text"] (qbk K)) :
  FnOk P w K mg base CX0 2 f fd ["self", "found"] (spX (cc 0) (qay 0)):=by
 refine F.ok sc_NoName_init (fun vs H Q E h=>?_) fun cdv A outer s H vs Q E hr h=>?_
 ·obtain ⟨e,v,rfl,_⟩:=h;rfl
 ·obtain ⟨e,v,rfl,he,q⟩:=h
  refine ⟨_,(qd (jU (qaJ D_OnceError_init (hm hr) (qa (pv 0) (qa jj qb))))
 (qf (zY (K:=K) rfl (pv 0) (pv 1) rfl))),?_⟩
  walk_at "vc"
  refine ⟨e,_,_,rfl,he,T.xat 0 (by decide),?_⟩
  walk_at "vc"
  exact .inr ⟨e,_,rfl,he,T.xat 0 (by decide),T.na 0 (by decide),q⟩
theorem ok_Twice {f:Addr} {fd:FuncData} (F:Fun K "__init__" "Twice.__init__" jH f fd) (T:Txt K mg cc cw) (D_OnceError_init:CMethOk P w K mg base CX0 1 (cc 5) "OnceError" "__init__" ["self", "text"] (qbk K)) :
  FnOk P w K mg base CX0 2 f fd ["self", "name"] (spX (cc 1) (qay 1)):=by
 refine F.ok sc_Twice_init (fun vs H Q E h=>?_) fun cdv A outer s H vs Q E hr h=>?_
 ·obtain ⟨e,v,rfl,_⟩:=h;rfl
 ·obtain ⟨e,v,rfl,he,q⟩:=h
  refine ⟨_,(qd (jU (qaJ D_OnceError_init (hm hr) (qa (pv 0) (qa jj qb))))
 (qf (zY (K:=K) rfl (pv 0) (pv 1) rfl))),?_⟩
  walk_at "vc"
  refine ⟨e,_,_,rfl,he,T.xat 1 (by decide),?_⟩
  walk_at "vc"
  exact .inr ⟨e,_,rfl,he,T.xat 1 (by decide),T.na 1 (by decide),q⟩
theorem ok_NoPlace {f:Addr} {fd:FuncData} (F:Fun K "__init__" "NoPlace.__init__" jm f fd) (T:Txt K mg cc cw) (D_OnceError_init:CMethOk P w K mg base CX0 1 (cc 5) "OnceError" "__init__" ["self", "text"] (qbk K)) :
  FnOk P w K mg base CX0 2 f fd ["self", "found"] (spX (cc 2) (qay 2)):=by
 refine F.ok sc_NoPlace_init (fun vs H Q E h=>?_) fun cdv A outer s H vs Q E hr h=>?_
 ·obtain ⟨e,v,rfl,_⟩:=h;rfl
 ·obtain ⟨e,v,rfl,he,q⟩:=h
  refine ⟨_,(qd (jU (qaJ D_OnceError_init (hm hr) (qa (pv 0) (qa jj qb))))
 (qf (zY (K:=K) rfl (pv 0) (pv 1) rfl))),?_⟩
  walk_at "vc"
  refine ⟨e,_,_,rfl,he,T.xat 2 (by decide),?_⟩
  walk_at "vc"
  exact .inr ⟨e,_,rfl,he,T.xat 2 (by decide),T.na 2 (by decide),q⟩
theorem ok_NoTie {f:Addr} {fd:FuncData} (F:Fun K "__init__" "NoTie.__init__" jI f fd) (T:Txt K mg cc cw) (D_OnceError_init:CMethOk P w K mg base CX0 1 (cc 5) "OnceError" "__init__" ["self", "text"] (qbk K)) :
  FnOk P w K mg base CX0 2 f fd ["self", "found"] (spX (cc 3) (qay 3)):=by
 refine F.ok sc_NoTie_init (fun vs H Q E h=>?_) fun cdv A outer s H vs Q E hr h=>?_
 ·obtain ⟨e,v,rfl,_⟩:=h;rfl
 ·obtain ⟨e,v,rfl,he,q⟩:=h
  refine ⟨_,(qd (jU (qaJ D_OnceError_init (hm hr) (qa (pv 0) (qa jj qb))))
 (qf (zY (K:=K) rfl (pv 0) (pv 1) rfl))),?_⟩
  walk_at "vc"
  refine ⟨e,_,_,rfl,he,T.xat 3 (by decide),?_⟩
  walk_at "vc"
  exact .inr ⟨e,_,rfl,he,T.xat 3 (by decide),T.na 3 (by decide),q⟩
theorem ok_TooMany {f:Addr} {fd:FuncData} (F:Fun K "__init__" "TooMany.__init__" jn f fd) (T:Txt K mg cc cw) (D_OnceError_init:CMethOk P w K mg base CX0 1 (cc 5) "OnceError" "__init__" ["self", "text"] (qbk K)) :
  FnOk P w K mg base CX0 2 f fd ["self", "many"] (spX (cc 4) (qay 4)):=by
 refine F.ok sc_TooMany_init (fun vs H Q E h=>?_) fun cdv A outer s H vs Q E hr h=>?_
 ·obtain ⟨e,v,rfl,_⟩:=h;rfl
 ·obtain ⟨e,v,rfl,he,q⟩:=h
  refine ⟨_,(qd (jU (qaJ D_OnceError_init (hm hr) (qa (pv 0) (qa jj qb))))
 (qf (zY (K:=K) rfl (pv 0) (pv 1) rfl))),?_⟩
  walk_at "vc"
  refine ⟨e,_,_,rfl,he,T.xat 4 (by decide),?_⟩
  walk_at "vc"
  exact .inr ⟨e,_,rfl,he,T.xat 4 (by decide),T.na 4 (by decide),q⟩
end
abbrev zo:Stmt:=top 10
theorem sc_is_name:FnScope ["thing"] ["thing"] (qe zo):=⟨rfl,rfl,rfl,by decide +kernel,rfl,by decide +kernel,by decide +kernel⟩
abbrev zA:Stmt:=top 15
theorem sc_has_bit:FnScope ["bits", "number"] ["bits", "number"] (qe zA):=⟨rfl,rfl,rfl,by decide +kernel,rfl,by decide +kernel,by decide +kernel⟩
abbrev zg:Stmt:=top 16
theorem sc_is_place:FnScope ["numbers", "thing"] ["numbers", "thing"] (qe zg):=⟨rfl,rfl,rfl,by decide +kernel,rfl,by decide +kernel,by decide +kernel⟩
abbrev qV:Stmt:=top 17
theorem sc_are_two_places:FnScope ["numbers", "thing", "both"] ["numbers", "thing"] (qe qV):=⟨rfl,rfl,rfl,by decide +kernel,rfl,by decide +kernel,by decide +kernel⟩
theorem qE {l:Addr} {H H1:Hp} {o:HO} (a:L2.Same H H1) (hl:H1 l=none):L2.Same H (upd H1 l o):=fun c u e=>by
 have q:=a c u e
 rw [qr (qw q hl)]
 exact q
theorem qfe {l:Addr} {H H1:Hp} {o:HO} (a:L2.Same H H1) (hl:H l=none):L2.Same H (upd H1 l o):=fun c u e=>by
 rw [qr (qw e hl)]
 exact a c u e
def sg (c:Nat):Bool:=if (!decide (([c]:List Nat) < ("a":Str).cps.toList))=true then !decide (("z":Str).cps.toList < [c]) else false
def jC (x:Str):Bool:=if 1≤x.length∧x.length≤6 then x.cps.toList.all sg else false
def j8:V→Bool
 | .str x=>jC x
 | _=>false
def qC:V→Str
 | .str x=>x
 | _=>""
theorem qJ {x:V} (h:j8 x=true):x=.str (qC x)∧jC (qC x)=true∧(qC x).length≤6:=by
 cases x with
 | str y =>
  refine ⟨rfl,h,?_⟩
  have h':jC y=true:=h
  unfold jC at h'
  split at h'
  ·rename_i z;exact z.2
  ·cases h'
 | _=>cases h
inductive Th (p:Addr) (H:Hp):Nat→V→Prop
 | flat {n:Nat} {v:V} (f:zt v=true) (l:∀ s,v=.str s→s.length≤100000):Th p H n v
 | lst {n:Nat} {a:Addr} {xs:List V} (e:H a=some (.lst xs)) (ne:a≠p) (h:∀ x∈xs,Th p H n x) (l:xs.length≤1000):Th p H (n + 1) (.ref a)
 | tup {n:Nat} {a:Addr} {xs:List V} (e:H a=some (.tup xs)) (ne:a≠p) (h:∀ x∈xs,Th p H n x) (l:xs.length≤1000):Th p H (n + 1) (.ref a)
 | dct {n:Nat} {a:Addr} {kvs:List (Key×V)} (e:H a=some (.dK kvs)) (ne:a≠p):Th p H n (.ref a)
theorem Th.mono {p:Addr} {H:Hp}:∀ {n:Nat} {v:V},Th p H n v→Th p H (n + 1) v
 | _,_,.flat f l=>.flat f l
 | _,_,.lst e ne h l=>.lst e ne (fun x hx=>(h x hx).mono) l
 | _,_,.tup e ne h l=>.tup e ne (fun x hx=>(h x hx).mono) l
 | _,_,.dct e ne=>.dct e ne
theorem Th.keep {p:Addr} {H H':Hp} (k:∀ b o,b≠p→H b=some o→H' b=some o):∀ {n:Nat} {v:V},Th p H n v→Th p H' n v
 | _,_,.flat f l=>.flat f l
 | _,_,.lst e ne h l=>.lst (k _ _ ne e) ne (fun x hx=>(h x hx).keep k) l
 | _,_,.tup e ne h l=>.tup (k _ _ ne e) ne (fun x hx=>(h x hx).keep k) l
 | _,_,.dct e ne=>.dct (k _ _ ne e) ne
theorem Th.same {p:Addr} {H H':Hp} {n:Nat} {v:V} (h:Th p H n v) (s:L2.Same H H'):Th p H' n v:=h.keep fun b o _ e=>s b o e
inductive Arg (p:Addr) (H:Hp):V→Option (List V)→Prop
 | lst {a:Addr} {xs:List V} (e:H a=some (.lst xs)) (ne:a≠p) (h:∀ x∈xs,Th p H 2 x) (l:xs.length≤1000):Arg p H (.ref a) (some xs)
 | tup {a:Addr} {xs:List V} (e:H a=some (.tup xs)) (ne:a≠p) (h:∀ x∈xs,Th p H 2 x) (l:xs.length≤1000):Arg p H (.ref a) (some xs)
 | flat {v:V} (f:zt v=true) (l:∀ s,v=.str s→s.length≤100000):Arg p H v none
 | dct {a:Addr} {kvs:List (Key×V)} (e:H a=some (.dK kvs)) (ne:a≠p):Arg p H (.ref a) none
theorem Arg.keep {p:Addr} {H H':Hp} (k:∀ b o,b≠p→H b=some o→H' b=some o) {v:V} {o:Option (List V)} (h:Arg p H v o):Arg p H' v o:=by
 cases h with
 | lst e ne h l=>exact .lst (k _ _ ne e) ne (fun x hx=>(h x hx).keep k) l
 | tup e ne h l=>exact .tup (k _ _ ne e) ne (fun x hx=>(h x hx).keep k) l
 | flat f l=>exact .flat f l
 | dct e ne=>exact .dct (k _ _ ne e) ne
theorem Arg.same {p:Addr} {H H':Hp} {v:V} {o:Option (List V)} (h:Arg p H v o) (s:L2.Same H H'):Arg p H' v o:=h.keep fun b o _ e=>s b o e
def isB:V→Bool
 | .bl _=>true
 | _=>false
theorem Th.ty {K:W.Frag} {p:Addr} {H:Hp} {n:Nat} {v:V} (h:Th p H n v):∃ t∈["NoneType", "bool", "int", "str", "list", "tuple", "dict"],TyOf K H v (.type t)∧(qcl t "str"=true→∃ x,v=.str x∧x.length≤100000)∧(qcl t "str"=false→j8 v=false) ∧
  (qcl t "tuple"=true→∃ a xs,v=.ref a∧H a=some (.tup xs)∧xs.length≤1000∧∀ x∈xs,Th p H n x)∧(qcl t "tuple"=false→∀ a xs,v=.ref a→H a≠some (.tup xs))∧qcl t "bool"=isB v:=by
 have no:∀ {P:Prop} {a b:String},qcl a b=false→qcl a b=true→P:=fun h1 h2=>by rw [h1] at h2;cases h2
 have yes:∀ {P:Prop} {a b:String},qcl a b=true→qcl a b=false→P:=fun h1 h2=>by rw [h1] at h2;cases h2
 cases h with
 | flat f l =>
  cases v with
  | non=>exact ⟨_,by simp,.non,no (by decide),fun _=>rfl,no (by decide),fun _ _ _ e=>by (cases e),rfl⟩
  | bl x=>exact ⟨_,by simp,.bl x,no (by decide),fun _=>rfl,no (by decide),fun _ _ _ e=>by (cases e),rfl⟩
  | int x=>exact ⟨_,by simp,.int x,no (by decide),fun _=>rfl,no (by decide),fun _ _ _ e=>by (cases e),rfl⟩
  | str x=>exact ⟨_,by simp,.str x,fun _=>⟨x,rfl,l x rfl⟩,yes (by decide),no (by decide),fun _ _ _ e=>by (cases e),rfl⟩
  | _=>cases f
 | lst e ne h l=>exact ⟨_,by simp,.lst e,no (by decide),fun _=>rfl,no (by decide),fun _ _ _ z=>by (cases z;rw [e];intro y;cases y),rfl⟩
 | tup e ne h l=>exact ⟨_,by simp,.tup e,no (by decide),fun _=>rfl,fun _=>⟨_,_,rfl,e,l,fun x hx=>(h x hx).mono⟩,yes (by decide),rfl⟩
 | dct e ne=>exact ⟨_,by simp,.dK e,no (by decide),fun _=>rfl,no (by decide),fun _ _ _ z=>by (cases z;rw [e];intro y;cases y),rfl⟩
section
variable {P:Program} {w:World} {K:W.Frag} {mg:Str→Option Value} {base:Heap} {cc:Nat→Addr} {cw:Addr}
def qdk:Sp:=fun vs H Q _=>∃ (p:Addr) (n:Nat) (v:V),vs=[v]∧Th p H n v∧∀ H',L2.Same H H'→Q (.bl (j8 v)) H'
theorem ok_name {f:Addr} {fd:FuncData} (F:Fun K "is_name" "is_name" zo f fd) (T:Txt K mg cc cw):FnOk P w K mg base CX0 1 f fd ["thing"] qdk:=by
 refine F.ok sc_is_name (fun vs H Q E h=>?_) fun cdv A outer s H vs Q E hr h=>?_
 ·obtain ⟨p,n,v,rfl,_⟩:=h;rfl
 ·obtain ⟨p,n,v,rfl,hv,q⟩:=h
  refine ⟨_,(qd (qF (PW.pt (qbv (jr (qP (qm (zP (K:=K) rfl) rfl T.b_isinstance boot_isinstance (qa (pv 0) (qa (jO (v:=.ty "str") rfl T.b_str boot_str rfl) qb))))) (qaB (jr (pt_chain qgl qgl qg (qm (j7 (K:=K) rfl) rfl T.b_len boot_len (qa (pv 0) qb)) (qbP rfl T.g_LONGEST_NAME)))))) (qf (qk zS)) qi)
 (qf (qk (qm (k_all (K:=K) rfl rfl) rfl T.b_all boot_all (qa (jW (sc:=qe zo) (XN:=["thing"]) ["sign"] 1 [] rfl rfl rfl (by decide +kernel) rfl (by decide +kernel)
  (jh (K:=K) rfl (pv 0)) (fun _ _ _ _=>(qv (i:=0) (show (["sign"]:List Str).Nodup by decide +kernel) rfl (Or.inl rfl))) je
  (fun _ _ _ _=>zK)
  (fun _ _ _ _=>(qc2 qgl qgl jj (pv 0) jj))) qb))))),?_⟩
  obtain ⟨t,ht,ty,hs,hn,_,_,_⟩:=hv.ty (K:=K)
  walk_at "vc"
  refine zy (.inl ty) rfl (qaW K t ht "str" (by simp)) ?_
  walk_at "vc"
  refine qD (fun h=>?_) fun h=>?_
  ·walk_at "vc"
   have z:=q H (L2.Same.refl H)
   rw [hn (by simpa using h)] at z
   exact z
  ·obtain ⟨x,rfl,hx⟩:=hs (by simpa using h)
   walk_at "vc"
   refine qfz (Nat.le_trans hx (by decide)) ?_
   walk_at "vc"
   have q1:=q
   simp only [j8,jC] at q1
   have hneg:¬ (1≤x.length∧x.length≤6)→∀ H',L2.Same H H'→Q (.bl false) H':=fun hc H' hs=>by
    have z:=q1 H' hs
    rw [if_neg hc] at z
    exact z
   refine qD (fun h1=>?_) fun h1=>?_
   ·walk_at "vc"
    refine qD (fun h2=>?_) fun h2=>?_
    ·walk_at "vc"
     refine hneg (fun h=>?_) H (L2.Same.refl H)
     simp only [Bool.not_eq_true',decide_eq_false_iff_not] at h2
     omega
    ·walk_at "vc"
     have hin:1≤x.length∧x.length≤6:=by
      have a1:=of_decide_eq_true h1
      simp only [Bool.not_eq_true',decide_eq_false_iff_not,Classical.not_not] at h2
      omega
     rw [if_pos hin] at q1
     refine qdb (fun i ys H'=>H'=H∧ys=((x.cps.toList.take i).map sg).map V.bl) ⟨rfl,by simp⟩ (fun i c ys H' hc hp=>?_) fun ys H' hp=>?_
     ·obtain ⟨rfl,rfl⟩:=hp
      walk_at "vc"
      refine qbC ?_
      walk_at "vc"
      have hl:(List.map V.bl (List.map sg (List.take i x.cps.toList))).length < sizeLine:=by
       rw [List.length_map,List.length_map,List.length_take]
       exact qh (Nat.le_trans (Nat.min_le_right _ _) (by simpa [Str.length] using (show x.length≤1000 by omega)))
      have key:∀ b,b=sg c→(List.map V.bl (List.map sg (List.take i x.cps.toList)))++[V.bl b]=List.map V.bl (List.map sg (List.take (i + 1) x.cps.toList)):=by
       intro b hb
       have e':x.cps.toList[i]?=some c:=by simpa using hc
       rw [hb,List.take_add_one,e']
       simp
      refine qD (fun h3=>?_) fun h3=>?_
      ·walk_at "vc"
       exact ⟨hl,rfl,key _ (by unfold sg;rw [if_pos h3])⟩
      ·exact ⟨hl,rfl,key _ (by unfold sg;rw [if_neg h3])⟩
     ·obtain ⟨rfl,rfl⟩:=hp
      have ht:x.cps.toList.take x.cps.size=x.cps.toList:=by rw [← Array.length_toList,List.take_length]
      rw [ht]
      refine ⟨?_,fun l hl=>?_⟩
      ·rw [List.length_map,List.length_map]
       exact Nat.le_of_lt (qh (by simpa [Str.length] using (show x.length≤1000 by omega)))
      ·walk_at "vc"
       refine ⟨l,x.cps.toList.map sg,rfl,SqL.of qc,?_⟩
       have z:=q1 _ (qE (L2.Same.refl H') (o:=.lst ((x.cps.toList.map sg).map V.bl)) hl)
       rw [List.all_map]
       exact z
   ·walk_at "vc"
    exact hneg (fun h=>h1 (decide_eq_true (by omega))) H (L2.Same.refl H)
def qdL:Sp:=fun vs H Q _=>∃ b n:Int,vs=[.int b,.int n]∧0≤n∧Q (.bl (decide (Builtin.bitAnd (b / 2 ^ n.toNat) 1=1))) H
theorem ok_bit {f:Addr} {fd:FuncData} (F:Fun K "has_bit" "has_bit" zA f fd):FnOk P w K mg base CX0 1 f fd ["bits", "number"] qdL:=by
 refine F.ok sc_has_bit (fun vs H Q E h=>?_) fun cdv A outer s H vs Q E hr h=>?_
 ·obtain ⟨b,n,rfl,_⟩:=h;rfl
 ·obtain ⟨b,n,rfl,hn,q⟩:=h
  have hu:=zR hr
  refine ⟨_,(qf (qk (jV (zn (K:=K) rfl hu) (qL op_and (qL op_shr (pv 0) (pv 1)) qg) qg (qy _)))),?_⟩
  walk_at "vc"
  refine vI hn ?_
  walk_at "vc"
  refine .inl (.inl (.inl ⟨rfl,rfl,?_⟩))
  exact q
def qaK:List Str→Nat→List (Key×V)
 | [],_=>[]
 | s::r,i=>(.inr s,.int i)::qaK r (i + 1)
theorem qcq (y:Str):∀ (ss:List Str) (i:Nat),qaK (ss++[y]) i=qaK ss i++[(.inr y,.int (i + ss.length:Nat))]
 | [],i=>rfl
 | s::r,i=>by
  show (_::qaK (r++[y]) (i + 1))=_::(qaK r (i + 1)++_)
  rw [qcq y r (i + 1)]
  have:i + 1 + r.length=i + (s::r).length:=by simp;omega
  rw [this]
theorem zL:∀ (ss:List Str) (i:Nat),(qaK ss i).length=ss.length
 | [],_=>rfl
 | _::r,i=>congrArg (· + 1) (zL r (i + 1))
theorem qbl {y:Str}:∀ {ss:List Str} {i:Nat},y∉ss→qaC (qaK ss i) (.inr y:Key)=none
 | [],_,_=>rfl
 | s::r,i,h=>by
  have h1:¬ s=y:=fun e=>h (by rw [e];exact List.mem_cons_self)
  show qaC ((.inr s,V.int i)::qaK r (i + 1)) _=none
  rw [jw (p:=((.inr s:Key),V.int i)) (fun e=>h1 (Sum.inr.inj e))]
  exact qbl fun m=>h (List.mem_cons_of_mem _ m)
theorem j9 {y:Str}:∀ {ss:List Str} {i:Nat},y∈ss→∃ j,j < ss.length∧ss[j]?=some y∧qaC (qaK ss i) (.inr y:Key)=some (.int (i + j:Nat))
 | [],_,h=>by cases h
 | s::r,i,h=>by
  by_cases e:s=y
  ·subst e
   exact ⟨0,by simp,rfl,jE (p:=((.inr s:Key),V.int i)) rfl⟩
  ·rcases List.mem_cons.mp h with z | z
   ·exact absurd z.symm e
   ·obtain ⟨j,h1,h2,h3⟩:=j9 (i:=i + 1) z
    refine ⟨j + 1,by simp;omega,by simpa using h2,?_⟩
    show qaC ((.inr s,V.int i)::qaK r (i + 1)) _=_
    rw [jw (p:=((.inr s:Key),V.int i)) (fun e'=>e (Sum.inr.inj e')),h3]
    have:i + 1 + j=i + (j + 1):=by omega
    rw [this]
theorem qbm (y:Str) (ss:List Str) (i:Nat):(qaC (qaK ss i) (.inr y:Key)).isSome=decide (y∈ss):=by
 by_cases h:y∈ss
 ·obtain ⟨j,_,_,e⟩:=j9 (i:=i) h
  rw [e,decide_eq_true h];rfl
 ·rw [qbl h,decide_eq_false h];rfl
def qt (ss:List Str) (v:V):Bool:=if j8 v=true then decide (qC v∈ss) else false
def qcS:Sp:=fun vs H Q _=>∃ (p:Addr) (n:Nat) (d:Addr) (ss:List Str) (v:V),vs=[.ref d,v]∧H d=some (.dK (qaK ss 0))∧Th p H n v∧∀ H',L2.Same H H'→Q (.bl (qt ss v)) H'
theorem ok_place {f:Addr} {fd:FuncData} (F:Fun K "is_place" "is_place" zg f fd) (D_is_name:DefOk P w K mg base CX0 1 "is_name" ["thing"] qdk):FnOk P w K mg base CX0 2 f fd ["numbers", "thing"] qcS:=by
 refine F.ok sc_is_place (fun vs H Q E h=>?_) fun cdv A outer s H vs Q E hr h=>?_
 ·obtain ⟨p,n,d,ss,v,rfl,_⟩:=h;rfl
 ·obtain ⟨p,n,d,ss,v,rfl,hd,hv,q⟩:=h
  have hu:=zR hr
  refine ⟨_,(qf (qk (qa2 (qp D_is_name (hm hr) qx (qa (pv 1) qb)) (qba (jV (qax (K:=K) rfl hu) (pv 1) (pv 0) (by with_unfolding_all rfl)))))),?_⟩
  walk_at "vc"
  refine ⟨p,n,v,rfl,hv,fun H1 s1=>?_⟩
  walk_at "vc"
  have q1:=q H1 s1
  unfold qt at q1
  refine qD (fun hc=>?_) fun hc=>?_
  ·walk_at "vc"
   rw [if_pos hc] at q1
   obtain ⟨e,_,_⟩:=qJ hc
   generalize qC v=x at q1 e
   subst e
   refine .inr (.inl ⟨d,_,rfl,DGet.k (k:=Sum.inr x) (s1 d _ hd),?_⟩)
   rw [qbm]
   exact q1
  ·rw [if_neg hc] at q1
   exact q1
def qdM (ss:List Str) (y z:V):Bool:=qt ss y&&qt ss z&&!decide (qC y=qC z)
def zM (H:Hp) (ss:List Str) (x:V):Option (Str×Str):=match x with
 | .ref a=>(match H a with
  | some (.tup [y,z])=>if qdM ss y z=true then some (qC y,qC z) else none
  | _=>none)
 | _=>none
theorem qdl {H:Hp} {ss:List Str} {a:Addr} {y z:V} (e:H a=some (.tup [y,z])):zM H ss (.ref a)=if qdM ss y z=true then some (qC y,qC z) else none:=by
 unfold zM
 dsimp only
 rw [e]
theorem j3 {H:Hp} {ss:List Str} {x:V} (h:∀ a xs,x=.ref a→H a=some (.tup xs)→xs.length≠2):zM H ss x=none:=by
 unfold zM
 cases x with
 | ref a =>
  dsimp only
  split
  ·rename_i y z e;exact absurd rfl (h a _ rfl e)
  ·rfl
 | _=>rfl
theorem qcr {p:Addr} {n:Nat} {H H':Hp} {ss:List Str} {x:V} (h:Th p H n x) (k:∀ b o,b≠p→H b=some o→H' b=some o):zM H' ss x=zM H ss x:=by
 cases h with
 | flat f l=>cases x<;>first | rfl | cases f
 | lst e ne h l=>rw [j3 (H:=H') (fun a xs z y=>by (cases z;rw [k _ _ ne e] at y;cases y)),j3 (H:=H) fun a xs z y=>by (cases z;rw [e] at y;cases y)]
 | tup e ne h l=>unfold zM;dsimp only;rw [k _ _ ne e,e]
 | dct e ne=>rw [j3 (H:=H') (fun a xs z y=>by (cases z;rw [k _ _ ne e] at y;cases y)),j3 (H:=H) fun a xs z y=>by (cases z;rw [e] at y;cases y)]
theorem tieV_same {p:Addr} {n:Nat} {H H':Hp} {ss:List Str} {x:V} (h:Th p H n x) (s:L2.Same H H'):zM H' ss x=zM H ss x:=qcr h fun b o _ e=>s b o e
theorem qK {ss:List Str} {v:V} (h:qt ss v=true):j8 v=true∧qC v∈ss:=by
 unfold qt at h
 split at h
 ·rename_i z;exact ⟨z,of_decide_eq_true h⟩
 ·cases h
def qf5:Sp:=fun vs H Q _=>∃ (p:Addr) (n:Nat) (d:Addr) (ss:List Str) (v:V),vs=[.ref d,v]∧H d=some (.dK (qaK ss 0))∧Th p H n v∧∀ H',L2.Same H H'→Q (.bl (zM H ss v).isSome) H'
theorem ok_two {f:Addr} {fd:FuncData} (F:Fun K "are_two_places" "are_two_places" qV f fd) (T:Txt K mg cc cw) (D_is_place:DefOk P w K mg base CX0 2 "is_place" ["numbers", "thing"] qcS):FnOk P w K mg base CX0 3 f fd ["numbers", "thing"] qf5:=by
 refine F.ok sc_are_two_places (fun vs H Q E h=>?_) fun cdv A outer s H vs Q E hr h=>?_
 ·obtain ⟨p,n,d,ss,v,rfl,_⟩:=h;rfl
 ·obtain ⟨p,n,d,ss,v,rfl,hd,hv,q⟩:=h
  have hu:=zR hr
  refine ⟨_,(qd (qF (PW.pt (qbv (jr (qP (qm (zP (K:=K) rfl) rfl T.b_isinstance boot_isinstance (qa (pv 1) (qa (jO (v:=.ty "tuple") rfl T.b_tuple boot_tuple rfl) qb))))) (qaB (qo (zZ (K:=K) rfl hu) (qm (j7 (K:=K) rfl) rfl T.b_len boot_len (qa (pv 1) qb)) qg (qy _))))) (qf (qk zS)) qi)
 (qd (qu (i:=2) sc_are_two_places.nd rfl (Or.inl rfl) (qa2 (qp D_is_place (hm hr) qx (qa (pv 0) (qa (qA (qB (K:=K) rfl hu) (pv 1) qg (fun _ _=>rfl)) qb))) (qba (qp D_is_place (hm hr) qx (qa (pv 0) (qa (qA (qB (K:=K) rfl hu) (pv 1) qg (fun _ _=>rfl)) qb))))))
 (qf (qk (qa2 (pv 2) (qba (jV (zZ (K:=K) rfl hu) (qA (qB (K:=K) rfl hu) (pv 1) qg (fun _ _=>rfl)) (qA (qB (K:=K) rfl hu) (pv 1) qg (fun _ _=>rfl)) (qy _)))))))),?_⟩
  obtain ⟨t,ht,ty,_,_,h1,h2,_⟩:=hv.ty (K:=K)
  walk_at "vc"
  refine zy (.inl ty) rfl (qaW K t ht "tuple" (by simp)) ?_
  walk_at "vc"
  refine qD (fun h=>?_) fun h=>?_
  ·walk_at "vc"
   have z:=q H (L2.Same.refl H)
   rw [j3 (fun a xs e y=>absurd y (h2 (by simpa using h) a xs e))] at z
   exact z
  ·obtain ⟨a,xs,rfl,ea,_,hx⟩:=h1 (by simpa using h)
   walk_at "vc"
   refine qfW ea ?_
   walk_at "vc"
   refine .inl ⟨rfl,rfl,?_⟩
   walk_at "vc"
   refine qD (fun h=>?_) fun h=>?_
   ·walk_at "vc"
    have z:=q H (L2.Same.refl H)
    rw [j3 (fun a' xs' e y=>by
     cases e
     rw [ea] at y
     cases y
     intro e2
     rw [e2] at h
     simp [eqV] at h)] at z
    exact z
   ·have hl:xs.length=2:=by
     simp only [if_true,eqV,Bool.not_eq_true',Bool.not_eq_false'] at h
     have h':((xs.length:Int)==2)=true:=by simpa using h
     have:=eq_of_beq h'
     omega
    match xs,hl,ea,hx with
    | [y,z],_,ea,hx =>
     have hy:=hx y (by simp)
     have hz:=hx z (by simp)
     rw [qdl ea] at q
     walk_at "vc"
     refine .inl (qaR ea rfl ?_)
     walk_at "vc"
     refine ⟨p,n,d,ss,y,rfl,hd,hy,fun H1 s1=>?_⟩
     walk_at "vc"
     have fin:∀ H2,L2.Same H H2→¬ (qt ss y=true∧qt ss z=true)→Q (.bl false) H2:=fun H2 s2 hn=>by
      have:=q H2 s2
      rw [if_neg (fun e=>hn (by unfold qdM at e;simp only [Bool.and_eq_true] at e;exact ⟨e.1.1,e.1.2⟩))] at this
      exact this
     refine qD (fun h3=>?_) fun h3=>?_
     ·walk_at "vc"
      refine .inl (qaR (s1 _ _ ea) rfl ?_)
      walk_at "vc"
      refine ⟨p,n,d,ss,z,rfl,s1 _ _ hd,hz.same s1,fun H2 s2=>?_⟩
      walk_at "vc"
      refine qD (fun h4=>?_) fun h4=>?_
      ·walk_at "vc"
       refine .inl (qaR (s2 _ _ (s1 _ _ ea)) rfl ?_)
       walk_at "vc"
       refine .inl (qaR (s2 _ _ (s1 _ _ ea)) rfl ?_)
       obtain ⟨ny,_⟩:=qK h3
       obtain ⟨nz,_⟩:=qK h4
       obtain ⟨ey,_,_⟩:=qJ ny
       obtain ⟨ez,_,_⟩:=qJ nz
       have fq:=q H2 (s1.trans s2)
       unfold qdM at fq
       rw [h3,h4] at fq
       generalize qC y=sy at ey fq
       generalize qC z=sz at ez fq
       subst ey ez
       refine .inl ⟨rfl,rfl,?_⟩
       have e:(if true=true then !eqV (V.str sy) (V.str sz) else eqV (V.str sy) (V.str sz))=(if (true&&true&&!decide (sy=sz))=true then some (sy,sz) else none).isSome:=by
        by_cases hs:sy=sz
        ·subst hs;simp [eqV]
        ·simp [eqV,hs]
       rw [e]
       exact fq
      ·exact fin H2 (s1.trans s2) fun e=>h4 e.2
     ·walk_at "vc"
      refine qD (fun h=>by cases h) fun _=>?_
      exact fin H1 s1 fun e=>h3 e.1
end
abbrev jJ:Stmt:=top 18
theorem sc_numbers_of:FnScope ["names", "numbers", "name"] ["names"] (qe jJ):=⟨rfl,rfl,rfl,by decide +kernel,rfl,by decide +kernel,by decide +kernel⟩
theorem qbn (m j:Nat):decide (Builtin.bitAnd ((m:Int) / 2 ^ (j:Int).toNat) 1=1)=m.testBit j:=by
 rw [PyProof.Rows.bitAnd_m1,Nat.testBit_eq_decide_div_mod_eq]
 rw [Int.toNat_natCast]
 have e:(m:Int) / 2 ^ j=((m / 2 ^ j:Nat):Int):=by rw [Int.natCast_ediv,Int.natCast_pow];rfl
 rw [e]
 congr 1
 apply propext
 omega
theorem qff (m j:Nat):Builtin.bitOr (m:Int) (1 * 2 ^ (j:Int).toNat)=((m ||| 2 ^ j:Nat):Int):=by
 have e:(1 * 2 ^ (j:Int).toNat:Int)=((2 ^ j:Nat):Int):=by rw [Int.toNat_natCast,Int.one_mul,Int.natCast_pow];rfl
 rw [e]
 generalize 2 ^ j=k
 have n1:Builtin.bitNot (m:Int)=-(m:Int) - 1:=rfl
 have n2:Builtin.bitNot (k:Int)=-(k:Int) - 1:=rfl
 unfold Builtin.bitOr Builtin.bitAnd
 rw [n1,n2,decide_eq_false (by omega),decide_eq_false (by omega)]
 dsimp only
 unfold Builtin.bitNot
 have e1:(-(-(m:Int) - 1) - 1).toNat=m:=by omega
 have e2:(-(-(k:Int) - 1) - 1).toNat=k:=by omega
 rw [e1,e2]
 omega
def But (x:Addr) (H H':Hp):Prop:=∀ b o,b≠x→H b=some o→H' b=some o
theorem But.refl (x:Addr) (H:Hp):But x H H:=fun _ _ _ e=>e
theorem But.same {x:Addr} {H H1 H2:Hp} (a:But x H H1) (b:L2.Same H1 H2):But x H H2:=fun c o n e=>b c o (a c o n e)
theorem But.put {x:Addr} {H H1:Hp} {o:HO} (a:But x H H1):But x H (upd H1 x o):=fun c u n e=>by rw [qr n];exact a c u n e
theorem But.new {x l:Addr} {H H1:Hp} {o:HO} (a:But x H H1) (hl:H1 l=none):But x H (upd H1 l o):=a.same (qE (L2.Same.refl H1) hl)
theorem qM {K:W.Frag} {H1:Hp} {C:Addr} {fl:Str} {y:V} {E:XK} (c:XAt K C) (q:∀ dx H',L2.Same H1 H'→H' dx=some (.xd [(fl,y)])→E (.ref C) (some dx) H') :
  [y].length≤1000∧∀ x,H1 x=none→spX C fl (.ref x::[y]) (upd H1 x (XN x C none)) (fun v H2=>v=.non∧∃ a C' dx,(V.ref x)=.ref a∧H2 a=some (XN a C' dx)∧XAt K C'∧E (.ref C') dx (upd H2 a (XO a C' dx))) E0:=by
 refine ⟨by show 1≤1000;decide,fun x hx=>⟨x,y,rfl,qc,fun dx hdx=>⟨rfl,x,C,some dx,rfl,qc,c,q dx _ (fun b o e=>?_) ?_⟩⟩⟩
 ·have nx:b≠x:=fun z=>by rw [z,hx] at e;cases e
  have nd:b≠dx:=fun z=>by rw [← z,qr nx,e] at hdx;cases hdx
  rw [qr nx,qr nx,qr nd,qr nx]
  exact e
 ·have nd:dx≠x:=fun z=>by rw [z,qc] at hdx;cases hdx
  rw [qr nd,qr nd,qc]
def qgB (g:TG) (t:TS) (D:Ends) (σ:L2.St) (J:It) (H1:Hp):Prop:=∃ W:Nat→Nat→L2.St→Hp→Prop,(∃ m,W 0 m σ H1)∧∀ i m σ H,W i m σ H →
 (J.stop i H∧D.nx σ H)∨(J.go i H∧∃ N:L2.St→Hp→Prop,(∀ σ' H',N σ' H'→∃ m',m' < m∧W (i + 1) m' σ' H')∧∀ x H',J.yld i H x H'→g x σ H' fun σ2 H2=>t { D with nx:=N,ct:=N,bk:=D.nx } σ2 H2)
theorem qbU {K:W.Frag} {p:Addr} {H H1:Hp} {v:V} {xs:List V} {g:TG} {tb:TS} {D:Ends} {σ:L2.St} (h:Arg p H v (some xs)) (s1:L2.Same H H1) (Pv:Nat→L2.St→Hp→Prop) (h0:Pv 0 σ H1) (hl:∀ i σ H',Pv i σ H'→L2.Same H H')
  (hs:∀ i x σ H,xs[i]?=some x→Pv i σ H→g x σ H fun σ2 H2=>tb { D with nx:=Pv (i + 1),ct:=Pv (i + 1),bk:=D.nx } σ2 H2) (hd:∀ σ H,Pv xs.length σ H→D.nx σ H) :
  (match v with
   | .str x=>qgB g tb D σ (Its x) H1
   | .ref a=>((∃ xs,SqL K H1 a xs)∧qgB g tb D σ (Itl K a) H1)∨((∃ xs,SqT K H1 a xs)∧qgB g tb D σ (Itt K a) H1)
   | _=>False):=by
 cases h with
 | lst e ne h l=>exact .inl ⟨⟨_,SqL.of (s1 _ _ e)⟩,qab (K:=K) Pv h0 (fun i σ H' _ hp=>SqL.of (hl i σ H' hp _ _ e)) hs hd⟩
 | tup e ne h l=>exact .inr ⟨⟨_,SqT.of (s1 _ _ e)⟩,qdT (K:=K) Pv h0 (fun i σ H' _ hp=>SqT.of (hl i σ H' hp _ _ e)) hs hd⟩
theorem Arg.ty {K:W.Frag} {p:Addr} {H:Hp} {v:V} {o:Option (List V)} (h:Arg p H v o):∃ t,TyX K H v t∧W.kitAny K t [.type "list",.type "tuple"]=some o.isSome:=by
 cases h with
 | lst e ne h l=>exact ⟨_,.inl (.lst e),rfl⟩
 | tup e ne h l=>exact ⟨_,.inl (.tup e),rfl⟩
 | flat f l =>
  cases v with
  | non=>exact ⟨_,.inl .non,rfl⟩
  | bl x=>exact ⟨_,.inl (.bl x),rfl⟩
  | int x=>exact ⟨_,.inl (.int x),rfl⟩
  | str x=>exact ⟨_,.inl (.str x),rfl⟩
  | _=>cases f
 | dct e ne=>exact ⟨_,.inl (.dK e),rfl⟩
theorem Arg.len {K:W.Frag} {p:Addr} {H:Hp} {v:V} {xs:List V} {Q:VK} (h:Arg p H v (some xs)) (q:Q (.int xs.length) H):qcO K [v] H Q:=by
 cases h with
 | lst e ne h l=>exact qar e q
 | tup e ne h l=>exact qfW e q
theorem Arg.few {p:Addr} {H:Hp} {v:V} {xs:List V} (h:Arg p H v (some xs)):xs.length≤1000∧∀ x∈xs,Th p H 2 x:=by
 cases h with
 | lst e ne h l=>exact ⟨l,h⟩
 | tup e ne h l=>exact ⟨l,h⟩
theorem Arg.isi {K:W.Frag} {p q:Addr} {H:Hp} {v:V} {o:Option (List V)} {Q:VK} (h:Arg p H v o) (hq:H q=some (.tup [.ty "list",.ty "tuple"])) (k:Q (.bl o.isSome) H):qfc K [v,.ref q] H Q:=by
 obtain ⟨t,ty,e⟩:=h.ty (K:=K)
 exact ⟨v,q,_,t,_,_,rfl,ty,hq,rfl,e,k⟩
def qdm:List V→List Str→Option (Nat×V)
 | [],_=>none
 | x::r,ss=>if j8 x=true then (if qC x∈ss then some (1,x) else qdm r (ss++[qC x])) else some (0,x)
theorem qcs (x:V) (r:List V) (ss:List Str):qdm (x::r) ss=if j8 x=true then (if qC x∈ss then some (1,x) else qdm r (ss++[qC x])) else some (0,x):=rfl
theorem qct:∀ {xs:List V} {ss:List Str},qdm xs ss=none→xs=(xs.map qC).map V.str∧(∀ x∈xs,j8 x=true)∧(∀ s∈xs.map qC,s∉ss)∧(xs.map qC).Nodup
 | [],ss,_=>⟨rfl,by simp,by simp,by simp⟩
 | x::r,ss,h=>by
  unfold qdm at h
  split at h
  ·rename_i hn
   split at h
   ·cases h
   ·rename_i hm
    obtain ⟨i1,i2,i3,i4⟩:=qct h
    obtain ⟨e,_,_⟩:=qJ hn
    refine ⟨?_,?_,?_,?_⟩
    ·rw [List.map_cons,List.map_cons,← e,← i1]
    ·intro y hy
     rcases List.mem_cons.mp hy with rfl | hy
     ·exact hn
     ·exact i2 y hy
    ·intro s hs
     rcases List.mem_cons.mp hs with rfl | hs
     ·exact hm
     ·exact fun z=>i3 s hs (List.mem_append_left _ z)
    ·rw [List.map_cons,List.nodup_cons]
     exact ⟨fun z=>i3 _ z (List.mem_append_right _ (by simp)),i4⟩
  ·cases h
def qfg (v:V):Option (List V)→Option (Nat×V)
 | none=>some (0,v)
 | some xs=>if 14 < xs.length then some (4,.int xs.length) else qdm xs []
def Rz (cc:Nat→Addr) (H:Hp) (E:XK) (r:Nat×V):Prop:=∀ dx H',L2.Same H H'→H' dx=some (.xd [(qay r.1,r.2)])→E (.ref (cc r.1)) (some dx) H'
theorem Rz.later {cc:Nat→Addr} {H H1:Hp} {E:XK} {r:Nat×V} (h:Rz cc H E r) (s:L2.Same H H1):Rz cc H1 E r:=fun dx H' t e=>h dx H' (s.trans t) e
def qfh (cc:Nat→Addr):Sp:=fun vs H Q E=>∃ (p:Addr) (v:V) (o:Option (List V)),vs=[v]∧Arg p H v o∧(∀ r,qfg v o=some r→Rz cc H E r)∧(qfg v o=none→∀ d H',L2.Same H H'→H d=none→H' d=some (.dK (qaK ((o.getD []).map qC) 0))→Q (.ref d) H')
section
variable {P:Program} {w:World} {K:W.Frag} {mg:Str→Option Value} {base:Heap} {cc:Nat→Addr} {cw:Addr}
theorem ok_nums {f:Addr} {fd:FuncData} (F:Fun K "numbers_of" "numbers_of" jJ f fd) (T:Txt K mg cc cw) (D_is_name:DefOk P w K mg base CX0 1 "is_name" ["thing"] qdk)
  (D_NoName:XMakeOk P w K mg base 2 (cc 0) "NoName" ["self", "found"] (spX (cc 0) (qay 0))) (D_Twice:XMakeOk P w K mg base 2 (cc 1) "Twice" ["self", "name"] (spX (cc 1) (qay 1))) (D_TooMany:XMakeOk P w K mg base 2 (cc 4) "TooMany" ["self", "many"] (spX (cc 4) (qay 4))) :
  FnOk P w K mg base (CX1 P w) 4 f fd ["names"] (qfh cc):=by
 refine F.ok1 sc_numbers_of (fun vs H Q E h=>?_) fun cdv A outer s H vs Q E hr h=>?_
 ·obtain ⟨p,v,o,rfl,_⟩:=h;rfl
 ·obtain ⟨p,v,o,rfl,ha,hz,q⟩:=h
  have hu:=zR hr
  refine ⟨_,(qd (qF (jr (qP (qm (qbS (K:=K) rfl) rfl T.b_isinstance boot_isinstance (qa (pv 0) (qa (qG (qa (jO (v:=.ty "list") rfl T.b_list boot_list rfl) (qa (jO (v:=.ty "tuple") rfl T.b_tuple boot_tuple rfl) qb))) qb))))) (qf (jR (K:=K) rfl qR (qaI D_NoName (hm hr) (qa (pv 0) qb)))) qi)
 (qd (qF (qo qeN (qm (j7 (K:=K) rfl) rfl T.b_len boot_len (qa (pv 0) qb)) (qbP rfl T.g_MOST_PLACES) (qy _)) (qf (jR (K:=K) rfl qR (qaI D_TooMany (hm hr) (qa (qm (j7 (K:=K) rfl) rfl T.b_len boot_len (qa (pv 0) qb)) qb)))) qi)
 (qd (qu (i:=1) sc_numbers_of.nd rfl (Or.inl rfl) qbN)
 (qd (jP PassesOwn.leaving rfl (jh (K:=K) rfl (pv 0)) (qv (i:=2) sc_numbers_of.nd rfl (Or.inl rfl))
 (qd (qF (jr (qP (qp D_is_name (hm hr) qx (qa (pv 2) qb)))) (qf (jR (K:=K) rfl qR (qaI D_NoName (hm hr) (qa (pv 2) qb)))) qi)
 (qd (qF (qo (qax (K:=K) rfl hu) (pv 2) (pv 1) (by with_unfolding_all rfl)) (qf (jR (K:=K) rfl qR (qaI D_Twice (hm hr) (qa (pv 2) qb)))) qi)
 (qf (qbb (qm (j7 (K:=K) rfl) rfl T.b_len boot_len (qa (pv 1) qb)) (qbz (pv 1) (pv 2) (qbF hu)))))))
 (qf (qk (pv 1))))))),?_⟩
  walk_at "vc"
  refine ⟨by show 2≤sizeLine;decide,fun g hg=>?_⟩
  have s0:=qE (L2.Same.refl H) (o:=.tup [.ty "list",.ty "tuple"]) hg
  walk_at "vc"
  refine (ha.same s0).isi qc ?_
  walk_at "vc"
  cases o with
  | none =>
   refine qD (fun _=>?_) (fun h=>absurd rfl h)
   walk_at "vc"
   exact qM (T.xat 0 (by decide)) ((hz (0,v) rfl).later s0)
  | some xs =>
   refine qD (fun h=>by cases h) fun _=>?_
   obtain ⟨few,hth⟩:=ha.few
   walk_at "vc"
   refine (ha.same s0).len ?_
   walk_at "vc"
   refine qD (fun h=>?_) fun h=>?_
   ·walk_at "vc"
    refine (ha.same s0).len ?_
    walk_at "vc"
    have h':14 < xs.length:=by have:=of_decide_eq_true h;omega
    exact qM (T.xat 4 (by decide)) ((hz (4,.int xs.length) (by show (if 14 < xs.length then _ else _)=_;rw [if_pos h'])).later s0)
   ·have h':¬ 14 < xs.length:=fun z=>h (decide_eq_true (by omega))
    have ho:qfg v (some xs)=qdm xs []:=by show (if 14 < xs.length then _ else _)=_;rw [if_neg h']
    rw [ho] at hz q
    walk_at "vc"
    intro d hd
    have s1:=qE s0 (o:=.dK []) hd
    have hd0:H d=none:=s0.free hd
    walk_at "vc"
    refine qbU ha s1 (fun i σ H'=>∃ v2,σ=[some v,some (.ref d),v2]∧L2.Same H H'∧H' d=some (.dK (qaK ((xs.take i).map qC) 0))∧qdm xs []=qdm (xs.drop i) ((xs.take i).map qC)) ⟨none,rfl,s1,qc,rfl⟩ (fun i σ H' hp=>by obtain ⟨_,_,z,_⟩:=hp;exact z) (fun i x σ H' hx hp=>?_) fun σ H' hp=>?_
    ·obtain ⟨v2,rfl,s2,hk,hdue⟩:=hp
     have hil:i < xs.length:=(List.getElem?_eq_some_iff.mp hx).1
     have hdr:xs.drop i=x::xs.drop (i + 1):=by
      rw [List.drop_eq_getElem_cons hil]
      have:=(List.getElem?_eq_some_iff.mp hx).2
      rw [this]
     have htk:xs.take (i + 1)=xs.take i++[x]:=by rw [List.take_add_one,hx];rfl
     rw [hdr,qcs] at hdue
     walk_at "vc"
     refine ⟨p,2,x,rfl,(hth x (List.mem_of_getElem? hx)).same s2,fun H1 t1=>?_⟩
     have s3:=s2.trans t1
     walk_at "vc"
     refine qD (fun hn=>?_) fun hn=>?_
     ·walk_at "vc"
      have hn':¬ j8 x=true:=by simpa using hn
      rw [if_neg hn'] at hdue
      exact qM (T.xat 0 (by decide)) ((hz (0,x) hdue).later s3)
     ·have hn':j8 x=true:=by simpa using hn
      rw [if_pos hn'] at hdue
      obtain ⟨ex,_,hx6⟩:=qJ hn'
      have key:∀ y,y=qC x→x=.str y:=fun y hy=>by rw [hy];exact ex
      generalize hy:qC x=y at hdue hx6 ex
      subst ex
      walk_at "vc"
      refine .inr (.inl ⟨d,_,rfl,DGet.k (k:=Sum.inr y) (t1 _ _ hk),?_⟩)
      rw [qbm]
      walk_at "vc"
      refine qD (fun hm=>?_) fun hm=>?_
      ·walk_at "vc"
       have hm':y∈(xs.take i).map qC:=of_decide_eq_true hm
       rw [if_pos hm'] at hdue
       exact qM (T.xat 1 (by decide)) ((hz (1,.str y) hdue).later s3)
      ·have hm':y∉(xs.take i).map qC:=fun z=>hm (decide_eq_true z)
       rw [if_neg hm'] at hdue
       walk_at "vc"
       refine .inr ⟨_,t1 _ _ hk,?_⟩
       walk_at "vc"
       refine .inr ⟨d,_,rfl,DPut.k (k:=Sum.inr y) (t1 _ _ hk) (qh (by rw [zL,List.length_map,List.length_take];omega)),?_⟩
       refine ⟨_,rfl,qfe s3 hd0,?_,?_⟩
       ·rw [qc,putK_new _ (qbl hm'),htk,List.map_append,List.map_cons,List.map_nil,qcq,zL]
        simp only [Nat.zero_add]
        rfl
       ·rw [hdue,htk,List.map_append]
        rfl
    ·obtain ⟨v2,rfl,s2,hk,hdue⟩:=hp
     rw [List.drop_length] at hdue
     walk_at "vc"
     rw [List.take_length] at hk
     exact q hdue d H' s2 hd0 hk
end
abbrev zh:Stmt:=qT (top 14) 0
theorem sc_Web_init:FnScope ["self", "names", "ties"] ["self", "names", "ties"] (qe zh):=⟨rfl,rfl,rfl,by decide +kernel,rfl,by decide +kernel,by decide +kernel⟩
abbrev zB:Stmt:=top 19
theorem sc_near_of:FnScope ["numbers", "ties", "near", "tie", "one", "other"] ["numbers", "ties"] (qe zB):=⟨rfl,rfl,rfl,by decide +kernel,rfl,by decide +kernel,by decide +kernel⟩
def goT (H:Hp) (ss:List Str):List V→List (Str×Str)→Option V
 | [],_=>none
 | x::r,seen=>match zM H ss x with
  | none=>some x
  | some t=>if t∈seen∨(t.2,t.1)∈seen then some x else goT H ss r (seen++[t])
theorem qeh {H:Hp} {ss:List Str} {x:V} {r:List V} {seen:List (Str×Str)} (h:zM H ss x=none):goT H ss (x::r) seen=some x:=by
 show (match zM H ss x with | none=>_ | some t=>_)=_
 rw [h]
theorem qdn {H:Hp} {ss:List Str} {x:V} {r:List V} {seen:List (Str×Str)} {t:Str×Str} (h:zM H ss x=some t):goT H ss (x::r) seen=if t∈seen∨(t.2,t.1)∈seen then some x else goT H ss r (seen++[t]):=by
 show (match zM H ss x with | none=>_ | some t=>_)=_
 rw [h]
def qei (H:Hp) (ss:List Str) (v:V):Option (List V)→Option (Nat×V)
 | none=>some (3,v)
 | some xs=>if 30 < xs.length then some (4,.int xs.length) else (goT H ss xs []).map fun y=>(3,y)
theorem tieV_some {H:Hp} {ss:List Str} {x:V} {t:Str×Str} (h:zM H ss x=some t):∃ a,x=.ref a∧H a=some (.tup [.str t.1,.str t.2])∧jC t.1=true∧jC t.2=true∧t.1.length≤6∧t.2.length≤6∧t.1∈ss∧t.2∈ss∧t.1≠t.2:=by
 unfold zM at h
 split at h
 ·rename_i a
  split at h
  ·rename_i y z e
   split at h
   ·rename_i hp
    cases h
    unfold qdM at hp
    simp only [Bool.and_eq_true] at hp
    obtain ⟨⟨h1,h2⟩,h3⟩:=hp
    obtain ⟨n1,m1⟩:=qK h1
    obtain ⟨n2,m2⟩:=qK h2
    obtain ⟨e1,g1,l1⟩:=qJ n1
    obtain ⟨e2,g2,l2⟩:=qJ n2
    refine ⟨a,rfl,?_,g1,g2,l1,l2,m1,m2,?_⟩
    ·show H a=some (.tup [.str (qC y),.str (qC z)])
     rw [← e1,← e2]
     exact e
    ·simpa using h3
   ·cases h
  ·cases h
 ·cases h
def zQ (ss:List Str) (ns:List Nat) (seen:List (Str×Str)):Prop:=ns.length=ss.length∧(∀ a,ns.getD a 0 < 2 ^ ss.length)∧∀ a b s t,ss[a]?=some s→ss[b]?=some t→(ns.getD a 0).testBit b=decide ((s,t)∈seen∨(t,s)∈seen)
theorem qz {ss:List Str} (h:ss.Nodup) {a b:Nat} {s:Str} (ha:ss[a]?=some s) (hb:ss[b]?=some s):a=b:=by
 have hp:=List.pairwise_iff_getElem.mp h
 obtain ⟨la,ea⟩:=List.getElem?_eq_some_iff.mp ha
 obtain ⟨lb,eb⟩:=List.getElem?_eq_some_iff.mp hb
 rcases Nat.lt_trichotomy a b with q | q | q
 ·exact absurd (ea.trans eb.symm) (hp a b la lb q)
 ·exact q
 ·exact absurd (eb.trans ea.symm) (hp b a lb la q)
theorem bits_zero {ss:List Str}:zQ ss (List.replicate ss.length 0) []:=by
 have z:∀ a,(List.replicate ss.length 0).getD a 0=0:=fun a=>by
  simp only [List.getD,List.getElem?_replicate]
  split<;>rfl
 refine ⟨by simp,fun a=>by rw [z a];exact Nat.two_pow_pos _,fun a b s t ha hb=>?_⟩
 rw [z a]
 simp
theorem qaL {ns:List Nat} {i j v:Nat} (h:i < ns.length):(ns.set i v).getD j 0=if i=j then v else ns.getD j 0:=by
 simp only [List.getD,List.getElem?_set]
 by_cases e:i=j
 ·subst e;simp [h]
 ·simp [e]
theorem bits_step {ss:List Str} {ns:List Nat} {seen:List (Str×Str)} (hb:zQ ss ns seen) (hn:ss.Nodup) {i j:Nat} {s t:Str} (hi:ss[i]?=some s) (hj:ss[j]?=some t) (hst:s≠t) :
  zQ ss ((ns.set i (ns.getD i 0 ||| 2 ^ j)).set j (ns.getD j 0 ||| 2 ^ i)) (seen++[(s,t)]):=by
 obtain ⟨hl,hlt,h⟩:=hb
 have li:i < ns.length:=by rw [hl];exact (List.getElem?_eq_some_iff.mp hi).1
 have lj:j < ns.length:=by rw [hl];exact (List.getElem?_eq_some_iff.mp hj).1
 have nij:i≠j:=fun e=>by rw [e,hj] at hi;cases hi;exact hst rfl
 have li':i < ss.length:=(List.getElem?_eq_some_iff.mp hi).1
 have lj':j < ss.length:=(List.getElem?_eq_some_iff.mp hj).1
 refine ⟨by simp [hl],fun a=>?_,fun a b u v ha hb'=>?_⟩
 ·rw [qaL (by simpa using lj),qaL li]
  split
  ·exact Nat.or_lt_two_pow (hlt _) (Nat.pow_lt_pow_right (by decide) li')
  ·split
   ·exact Nat.or_lt_two_pow (hlt _) (Nat.pow_lt_pow_right (by decide) lj')
   ·exact hlt _
 rw [qaL (by simpa using lj),qaL li]
 have h0:=h a b u v ha hb'
 have key:∀ P Q:Prop,(P↔Q)→∀ [Decidable P] [Decidable Q],decide P=decide Q:=fun P Q e=>by intro _ _;exact decide_eq_decide.mpr e
 by_cases ja:j=a
 ·subst ja
  rw [hj] at ha
  cases ha
  rw [if_pos rfl,Nat.testBit_or,h0,Nat.testBit_two_pow]
  by_cases ib:i=b
  ·subst ib
   rw [hi] at hb'
   cases hb'
   simp
  ·have vs:v≠s:=fun e=>by subst e;exact ib (qz hn hi hb')
   simp only [ib,decide_false,Bool.or_false]
   apply decide_eq_decide.mpr
   simp only [List.mem_append,List.mem_singleton,Prod.mk.injEq]
   constructor
   ·rintro (z | z)
    ·exact .inl (.inl z)
    ·exact .inr (.inl z)
   ·rintro ((z | ⟨z,_⟩) | (z | ⟨z,_⟩))
    ·exact .inl z
    ·exact absurd z.symm hst
    ·exact .inr z
    ·exact absurd z vs
 ·rw [if_neg ja]
  by_cases ia:i=a
  ·subst ia
   rw [hi] at ha
   cases ha
   rw [if_pos rfl,Nat.testBit_or,h0,Nat.testBit_two_pow]
   by_cases jb:j=b
   ·subst jb
    rw [hj] at hb'
    cases hb'
    simp
   ·have vt:v≠t:=fun e=>by subst e;exact jb (qz hn hj hb')
    simp only [jb,decide_false,Bool.or_false]
    apply decide_eq_decide.mpr
    simp only [List.mem_append,List.mem_singleton,Prod.mk.injEq]
    constructor
    ·rintro (z | z)
     ·exact .inl (.inl z)
     ·exact .inr (.inl z)
    ·rintro ((z | ⟨_,z⟩) | (z | ⟨_,z⟩))
     ·exact .inl z
     ·exact absurd z vt
     ·exact .inr z
     ·exact absurd z hst
  ·rw [if_neg ia,h0]
   have us:u≠s:=fun e=>by subst e;exact ia (qz hn hi ha)
   have ut:u≠t:=fun e=>by subst e;exact ja (qz hn hj ha)
   apply decide_eq_decide.mpr
   simp only [List.mem_append,List.mem_singleton,Prod.mk.injEq]
   constructor
   ·rintro (z | z)
    ·exact .inl (.inl z)
    ·exact .inr (.inl z)
   ·rintro ((z | ⟨z,_⟩) | (z | ⟨_,z⟩))
    ·exact .inl z
    ·exact absurd z us
    ·exact .inr z
    ·exact absurd z ut
def qb5 (ns:List Nat):List V:=ns.map fun (n:Nat)=>.int (n:Int)
theorem qaM {ns:List Nat} {i:Nat} (h:i < ns.length):(qb5 ns)[i]?=some (.int (ns.getD i 0:Nat)):=by
 unfold qb5
 rw [List.getElem?_map,List.getElem?_eq_getElem h]
 simp [List.getD,h]
theorem qdo (ns:List Nat) (i m:Nat):(qb5 ns).set i (.int m)=qb5 (ns.set i m):=by
 unfold qb5
 rw [List.map_set]
theorem natV_zero (k:Nat):(List.replicate k [V.int 0]).flatten=qb5 (List.replicate k 0):=by
 induction k with
 | zero=>rfl
 | succ k ih=>rw [List.replicate_succ,List.flatten_cons,ih];rfl
theorem qcT {n j:Nat} (h:j < n):ixN n (j:Int)=some j:=by
 unfold ixN
 rw [if_pos (by omega),if_pos (by omega)]
 rfl
def qfi (cc:Nat→Addr):Sp:=fun vs H Q E=>∃ (p d:Addr) (ss:List Str) (v:V) (o:Option (List V)),vs=[.ref d,v]∧H d=some (.dK (qaK ss 0))∧ss.length≤14∧ss.Nodup∧Arg p H v o∧(∀ r,qei H ss v o=some r→Rz cc H E r) ∧
 (qei H ss v o=none→∀ n ns H',L2.Same H H'→H n=none→H' n=some (.lst (qb5 ns))→zQ ss ns ((o.getD []).filterMap (zM H ss))→Q (.ref n) H')
section
variable {P:Program} {w:World} {K:W.Frag} {mg:Str→Option Value} {base:Heap} {cc:Nat→Addr} {cw:Addr}
theorem ok_near {f:Addr} {fd:FuncData} (F:Fun K "near_of" "near_of" zB f fd) (T:Txt K mg cc cw) (D_are_two_places:DefOk P w K mg base CX0 3 "are_two_places" ["numbers", "thing"] qf5) (D_has_bit:DefOk P w K mg base CX0 1 "has_bit" ["bits", "number"] qdL)
  (D_NoTie:XMakeOk P w K mg base 2 (cc 3) "NoTie" ["self", "found"] (spX (cc 3) (qay 3))) (D_TooMany:XMakeOk P w K mg base 2 (cc 4) "TooMany" ["self", "many"] (spX (cc 4) (qay 4))) :
  FnOk P w K mg base (CX1 P w) 4 f fd ["numbers", "ties"] (qfi cc):=by
 refine F.ok1 sc_near_of (fun vs H Q E h=>?_) fun cdv A outer s H vs Q E hr h=>?_
 ·obtain ⟨p,d,ss,v,o,rfl,_⟩:=h;rfl
 ·obtain ⟨p,d,ss,v,o,rfl,hd,hs14,hnd,ha,hz,q⟩:=h
  have hu:=zR hr
  refine ⟨_,(qd (qF (jr (qP (qm (qbS (K:=K) rfl) rfl T.b_isinstance boot_isinstance (qa (pv 1) (qa (qG (qa (jO (v:=.ty "list") rfl T.b_list boot_list rfl) (qa (jO (v:=.ty "tuple") rfl T.b_tuple boot_tuple rfl) qb))) qb))))) (qf (jR (K:=K) rfl qR (qaI D_NoTie (hm hr) (qa (pv 1) qb)))) qi)
 (qd (qF (qo qeN (qm (j7 (K:=K) rfl) rfl T.b_len boot_len (qa (pv 1) qb)) (qbP rfl T.g_MOST_TIES) (qy _)) (qf (jR (K:=K) rfl qR (qaI D_TooMany (hm hr) (qa (qm (j7 (K:=K) rfl) rfl T.b_len boot_len (qa (pv 1) qb)) qb)))) qi)
 (qd (qu (i:=2) sc_near_of.nd rfl (Or.inl rfl) (qL qbw (qQ (qa qg qb)) (qm (j7 (K:=K) rfl) rfl T.b_len boot_len (qa (pv 0) qb))))
 (qd (jP PassesOwn.leaving rfl (jh (K:=K) rfl (pv 1)) (qv (i:=3) sc_near_of.nd rfl (Or.inl rfl))
 (qd (qF (jr (qP (qp D_are_two_places (hm hr) qx (qa (pv 0) (qa (pv 3) qb))))) (qf (jR (K:=K) rfl qR (qaI D_NoTie (hm hr) (qa (pv 3) qb)))) qi)
 (qd (qu (i:=4) sc_near_of.nd rfl (Or.inl rfl) (qA (qB (K:=K) rfl hu) (pv 0) (qA (qB (K:=K) rfl hu) (pv 3) qg (fun _ _=>rfl)) (fun _ _=>rfl)))
 (qd (qu (i:=5) sc_near_of.nd rfl (Or.inl rfl) (qA (qB (K:=K) rfl hu) (pv 0) (qA (qB (K:=K) rfl hu) (pv 3) qg (fun _ _=>rfl)) (fun _ _=>rfl)))
 (qd (qF (qP (qp D_has_bit (hm hr) qx (qa (qA (qB (K:=K) rfl hu) (pv 2) (pv 4) (fun _ _=>rfl)) (qa (pv 5) qb)))) (qf (jR (K:=K) rfl qR (qaI D_NoTie (hm hr) (qa (pv 3) qb)))) qi)
 (qd (qbb (qL qeM (qA (qB (K:=K) rfl hu) (pv 2) (pv 4) (fun _ _=>rfl)) (qL qc1 qg (pv 5))) (qbz (pv 2) (pv 4) (qbF hu)))
 (qf (qbb (qL qeM (qA (qB (K:=K) rfl hu) (pv 2) (pv 5) (fun _ _=>rfl)) (qL qc1 qg (pv 4))) (qbz (pv 2) (pv 5) (qbF hu))))))))))
 (qf (qk (pv 2))))))),?_⟩
  walk_at "vc"
  refine ⟨by show 2≤sizeLine;decide,fun g hg=>?_⟩
  have s0:=qE (L2.Same.refl H) (o:=.tup [.ty "list",.ty "tuple"]) hg
  walk_at "vc"
  refine (ha.same s0).isi qc ?_
  walk_at "vc"
  cases o with
  | none =>
   refine qD (fun _=>?_) (fun h=>absurd rfl h)
   walk_at "vc"
   exact qM (T.xat 3 (by decide)) ((hz (3,v) rfl).later s0)
  | some xs =>
   refine qD (fun h=>by cases h) fun _=>?_
   obtain ⟨few,hth⟩:=ha.few
   walk_at "vc"
   refine (ha.same s0).len ?_
   walk_at "vc"
   refine qD (fun h=>?_) fun h=>?_
   ·walk_at "vc"
    refine (ha.same s0).len ?_
    walk_at "vc"
    have h':30 < xs.length:=by have:=of_decide_eq_true h;omega
    exact qM (T.xat 4 (by decide)) ((hz (4,.int xs.length) (by show (if 30 < xs.length then _ else _)=_;rw [if_pos h'])).later s0)
   ·have h':¬ 30 < xs.length:=fun z=>h (decide_eq_true (by omega))
    have ho:qei H ss v (some xs)=(goT H ss xs []).map fun y=>(3,y):=by show (if 30 < xs.length then _ else _)=_;rw [if_neg h']
    rw [ho] at hz q
    walk_at "vc"
    refine ⟨by show 1≤sizeLine;decide,fun z hzz=>?_⟩
    have s1:=qE s0 (o:=.lst [.int 0]) hzz
    walk_at "vc"
    refine .inr ⟨_,s1 _ _ hd,?_⟩
    walk_at "vc"
    rw [zL]
    refine ⟨z,_,_,rfl,rfl,qc,by omega,by omega,by show 1 * _≤sizeLine;rw [Int.toNat_natCast];exact Nat.le_of_lt (qh (by omega)),fun n hn=>?_⟩
    rw [Int.toNat_natCast,natV_zero]
    have s2:=qE s1 (o:=.lst (qb5 (List.replicate ss.length 0))) hn
    have n0:H n=none:=s1.free hn
    walk_at "vc"
    refine qbU ha s2 (fun i σ H'=>∃ v3 v4 v5 ns,σ=[some (.ref d),some v,some (.ref n),v3,v4,v5]∧L2.Same H H'∧H' n=some (.lst (qb5 ns))∧zQ ss ns ((xs.take i).filterMap (zM H ss))∧goT H ss xs []=goT H ss (xs.drop i) ((xs.take i).filterMap (zM H ss)))
     ⟨none,none,none,_,rfl,s2,qc,bits_zero,rfl⟩ (fun i σ H' hp=>by obtain ⟨_,_,_,_,_,z,_⟩:=hp;exact z) (fun i x σ H' hx hp=>?_) fun σ H' hp=>?_
    ·obtain ⟨v3,v4,v5,ns,rfl,s3,hnn,hbits,hgo⟩:=hp
     have hil:i < xs.length:=(List.getElem?_eq_some_iff.mp hx).1
     have hdr:xs.drop i=x::xs.drop (i + 1):=by
      rw [List.drop_eq_getElem_cons hil]
      have:=(List.getElem?_eq_some_iff.mp hx).2
      rw [this]
     have htk:xs.take (i + 1)=xs.take i++[x]:=by rw [List.take_add_one,hx];rfl
     have hxt:=hth x (List.mem_of_getElem? hx)
     rw [hdr] at hgo
     walk_at "vc"
     refine ⟨p,2,d,ss,x,rfl,s3 _ _ hd,hxt.same s3,fun H1 t1=>?_⟩
     rw [tieV_same hxt s3]
     have s4:=s3.trans t1
     have hn1:=t1 _ _ hnn
     walk_at "vc"
     cases ht:zM H ss x with
     | none =>
      refine qD (fun _=>?_) (fun h=>absurd rfl h)
      walk_at "vc"
      rw [qeh ht] at hgo
      exact qM (T.xat 3 (by decide)) ((hz (3,x) (by rw [hgo];rfl)).later s4)
     | some st =>
      refine qD (fun h=>by cases h) fun _=>?_
      obtain ⟨a,rfl,ea,n1,n2,l1,l2,m1,m2,hne⟩:=tieV_some ht
      rw [qdn ht] at hgo
      obtain ⟨sx,sy⟩:=st
      dsimp only at ea n1 n2 l1 l2 m1 m2 hne hgo
      obtain ⟨ja,hja,gja,vja⟩:=j9 (i:=0) m1
      obtain ⟨jb,hjb,gjb,vjb⟩:=j9 (i:=0) m2
      rw [Nat.zero_add] at vja vjb
      have nab:ja≠jb:=fun e=>by rw [e,gjb] at gja;cases gja;exact hne rfl
      have lna:ja < ns.length:=by rw [hbits.1];exact hja
      have lnb:jb < ns.length:=by rw [hbits.1];exact hjb
      walk_at "vc"
      refine .inl (qaR (s4 _ _ ea) rfl ?_)
      refine .inr ⟨d,.int ja,rfl,?_,?_⟩
      ·have:=DGet.k (k:=Sum.inr sx) (s4 _ _ hd)
       rw [vja] at this
       exact this
      walk_at "vc"
      refine .inl (qaR (s4 _ _ ea) rfl ?_)
      refine .inr ⟨d,.int jb,rfl,?_,?_⟩
      ·have:=DGet.k (k:=Sum.inr sy) (s4 _ _ hd)
       rw [vjb] at this
       exact this
      walk_at "vc"
      refine .inl (zX hn1 (jQ (qaM lna)) ?_)
      walk_at "vc"
      refine ⟨_,_,rfl,by omega,?_⟩
      rw [qbn,hbits.2.2 ja jb sx sy gja gjb]
      walk_at "vc"
      refine qD (fun hm=>?_) fun hm=>?_
      ·walk_at "vc"
       rw [if_pos (of_decide_eq_true hm)] at hgo
       exact qM (T.xat 3 (by decide)) ((hz (3,.ref a) (by rw [hgo];rfl)).later s4)
      ·rw [if_neg (fun e=>hm (decide_eq_true e))] at hgo
       walk_at "vc"
       refine .inl (zX hn1 (jQ (qaM lna)) ?_)
       walk_at "vc"
       refine vI ⟨by omega,by omega,by decide⟩ ?_
       walk_at "vc"
       rw [qff]
       refine .inl (qeT hn1 (qcT (by unfold qb5;rw [List.length_map];exact lna)) ?_)
       rw [qdo]
       walk_at "vc"
       have e2:(ns.set ja (ns.getD ja 0 ||| 2 ^ jb)).getD jb 0=ns.getD jb 0:=by rw [qaL lna,if_neg nab]
       refine .inl (zX qc (jQ (qaM (by simpa using lnb))) ?_)
       walk_at "vc"
       refine vI ⟨by omega,by omega,by decide⟩ ?_
       walk_at "vc"
       rw [qff,e2]
       refine .inl (qeT qc (qcT (by unfold qb5;rw [List.length_map];simpa using lnb)) ?_)
       rw [qdo]
       have hfm:(xs.take (i + 1)).filterMap (zM H ss)=(xs.take i).filterMap (zM H ss)++[(sx,sy)]:=by
        rw [htk,List.filterMap_append]
        simp [ht]
       refine ⟨_,_,_,_,rfl,qfe (qfe s4 n0) n0,qc,?_,?_⟩
       ·rw [hfm]
        exact bits_step hbits hnd gja gjb hne
       ·rw [hfm]
        exact hgo
    ·obtain ⟨v3,v4,v5,ns,rfl,s3,hnn,hbits,hgo⟩:=hp
     rw [List.drop_length] at hgo
     walk_at "vc"
     rw [List.take_length] at hbits
     exact q (by rw [hgo];rfl) n _ H' s3 n0 hnn hbits
def qeI (H:Hp) (v:V) (o:Option (List V)) (v2:V) (o2:Option (List V)):Option (Nat×V):=match qfg v o with
 | some r=>some r
 | none=>qei H ((o.getD []).map qC) v2 o2
theorem outN_good {v:V} {o:Option (List V)} (h:qfg v o=none):∃ xs,o=some xs∧xs.length≤14∧xs=(xs.map qC).map V.str∧(∀ x∈xs,j8 x=true)∧(xs.map qC).Nodup:=by
 cases o with
 | none=>cases h
 | some xs =>
  have h':(if 14 < xs.length then some ((4:Nat),V.int xs.length) else qdm xs [])=none:=h
  split at h'
  ·cases h'
  ·obtain ⟨a,b,c,d⟩:=qct h'
   exact ⟨xs,rfl,by omega,a,b,d⟩
theorem qdp {p x:Addr} {H H':Hp} {ss:List Str} (k:∀ b o,b≠p→H b=some o→H' b=some o):∀ (xs:List V) (seen:List (Str×Str)),(∀ x∈xs,Th p H 2 x)→goT H' ss xs seen=goT H ss xs seen
 | [],_,_=>rfl
 | y::r,seen,h=>by
  have e:=qcr (ss:=ss) (h y List.mem_cons_self) k
  have hr:=fun z hz=>h z (List.mem_cons_of_mem y hz)
  cases ht:zM H ss y with
  | none=>rw [qeh (e.trans ht),qeh ht]
  | some t=>rw [qdn (e.trans ht),qdn ht,qdp (x:=x) k r _ hr]
theorem qcu {p:Addr} {H H':Hp} {ss:List Str} {v:V} {o:Option (List V)} (h:Arg p H v o) (k:∀ b o,b≠p→H b=some o→H' b=some o):qei H' ss v o=qei H ss v o:=by
 cases o with
 | none=>rfl
 | some xs =>
  show (if _ then _ else (goT H' ss xs []).map _)=if _ then _ else (goT H ss xs []).map _
  rw [qdp (x:=p) k xs [] h.few.2]
structure WOk (ss:List Str) (ns:List Nat):Prop where
 len:ns.length=ss.length
 few:ss.length≤14
 nd:ss.Nodup
 lt:∀ a,ns.getD a 0 < 2 ^ ss.length
 nm:∀ s∈ss,jC s=true
def WebAt (cw:Addr) (H:Hp) (x:Addr) (ss:List Str) (ns:List Nat):Prop:=∃ dx d ol n,H x=some (.ins cw dx (jZ "near" (.ref n) (jZ "order" (.ref ol) (jZ "numbers" (.ref d) []))))∧H d=some (.dK (qaK ss 0))∧H ol=some (.lst (ss.map V.str))∧H n=some (.lst (qb5 ns))∧WOk ss ns
theorem WebAt.same {cw x:Addr} {H H':Hp} {ss:List Str} {ns:List Nat} (h:WebAt cw H x ss ns) (s:L2.Same H H'):WebAt cw H' x ss ns:=by
 obtain ⟨dx,d,ol,n,h1,h2,h3,h4,h5⟩:=h
 exact ⟨dx,d,ol,n,s _ _ h1,s _ _ h2,s _ _ h3,s _ _ h4,h5⟩
def WebN (H0:Hp) (cw:Addr) (H:Hp) (x:Addr) (ss:List Str) (ns:List Nat):Prop:=∃ dx d ol n,H x=some (.ins cw dx (jZ "near" (.ref n) (jZ "order" (.ref ol) (jZ "numbers" (.ref d) []))))∧H d=some (.dK (qaK ss 0))∧H ol=some (.lst (ss.map V.str))∧H n=some (.lst (qb5 ns))∧WOk ss ns∧H0 d=none∧H0 ol=none∧H0 n=none
theorem WebN.web {H0:Hp} {cw x:Addr} {H:Hp} {ss:List Str} {ns:List Nat} (h:WebN H0 cw H x ss ns):WebAt cw H x ss ns:=by
 obtain ⟨dx,d,ol,n,h1,h2,h3,h4,h5,_⟩:=h
 exact ⟨dx,d,ol,n,h1,h2,h3,h4,h5⟩
def WebP (A:Addr→Prop) (cw:Addr) (H:Hp) (x:Addr) (ss:List Str) (ns:List Nat):Prop:=∃ dx d ol n,H x=some (.ins cw dx (jZ "near" (.ref n) (jZ "order" (.ref ol) (jZ "numbers" (.ref d) []))))∧H d=some (.dK (qaK ss 0))∧H ol=some (.lst (ss.map V.str))∧H n=some (.lst (qb5 ns))∧WOk ss ns∧¬ A x∧¬ A d∧¬ A ol∧¬ A n
theorem WebP.web {A:Addr→Prop} {cw x:Addr} {H:Hp} {ss:List Str} {ns:List Nat} (h:WebP A cw H x ss ns):WebAt cw H x ss ns:=by
 obtain ⟨dx,d,ol,n,h1,h2,h3,h4,h5,_⟩:=h
 exact ⟨dx,d,ol,n,h1,h2,h3,h4,h5⟩
theorem WebP.keep {A:Addr→Prop} {cw x:Addr} {H H':Hp} {ss:List Str} {ns:List Nat} (h:WebP A cw H x ss ns) (k:∀ b o,¬ A b→H b=some o→H' b=some o):WebP A cw H' x ss ns:=by
 obtain ⟨dx,d,ol,n,h1,h2,h3,h4,h5,a1,a2,a3,a4⟩:=h
 exact ⟨dx,d,ol,n,k _ _ a1 h1,k _ _ a2 h2,k _ _ a3 h3,k _ _ a4 h4,h5,a1,a2,a3,a4⟩
theorem WebN.apart {H0:Hp} {cw x:Addr} {H:Hp} {ss:List Str} {ns:List Nat} {A:Addr→Prop} (h:WebN H0 cw H x ss ns) (hx:¬ A x) (ha:∀ a,A a→H0 a≠none):WebP A cw H x ss ns:=by
 obtain ⟨dx,d,ol,n,h1,h2,h3,h4,h5,a2,a3,a4⟩:=h
 exact ⟨dx,d,ol,n,h1,h2,h3,h4,h5,hx,fun z=>ha _ z a2,fun z=>ha _ z a3,fun z=>ha _ z a4⟩
theorem qcv:∀ (ss:List Str) (i:Nat),(qaK ss i).map (fun kv=>kV kv.1)=ss.map V.str
 | [],_=>rfl
 | s::r,i=>congrArg (V.str s::·) (qcv r (i + 1))
def qbx (cc:Nat→Addr) (cw:Addr):Sp:=fun vs H Q E=>∃ (p x dx:Addr) (v:V) (o:Option (List V)) (v2:V) (o2:Option (List V)),vs=[.ref x,v,v2]∧H x=some (.ins cw dx [])∧Arg p H v o∧Arg p H v2 o2 ∧
 (∀ r,qeI H v o v2 o2=some r→∀ dy H',But x H H'→H' dy=some (.xd [(qay r.1,r.2)])→E (.ref (cc r.1)) (some dy) H')∧(qeI H v o v2 o2=none→∀ ns H',But x H H'→WebN H cw H' x ((o.getD []).map qC) ns→zQ ((o.getD []).map qC) ns ((o2.getD []).filterMap (zM H ((o.getD []).map qC)))→Q .non H')
theorem Arg.but {p x dx C:Addr} {H H':Hp} {v:V} {o:Option (List V)} {fs:List (Str×V)} (h:Arg p H v o) (hx:H x=some (.ins C dx fs)) (b:But x H H'):Arg p H' v o∧∀ ss,qei H' ss v o=qei H ss v o:=by
 have hth:∀ {n:Nat} {v:V},Th p H n v→Th p (fun a=>if a=x then none else H a) n v:=by
  intro n v h
  induction h with
  | flat f l=>exact .flat f l
  | lst e ne h l ih=>exact .lst (by rw [if_neg (qaS e hx (by intro z;cases z))];exact e) ne ih l
  | tup e ne h l ih=>exact .tup (by rw [if_neg (qaS e hx (by intro z;cases z))];exact e) ne ih l
  | dct e ne=>exact .dct (by rw [if_neg (qaS e hx (by intro z;cases z))];exact e) ne
 have h2:Arg p (fun a=>if a=x then none else H a) v o:=by
  cases h with
  | lst e ne h l=>exact .lst (by rw [if_neg (qaS e hx (by intro z;cases z))];exact e) ne (fun x hx=>hth (h x hx)) l
  | tup e ne h l=>exact .tup (by rw [if_neg (qaS e hx (by intro z;cases z))];exact e) ne (fun x hx=>hth (h x hx)) l
  | flat f l=>exact .flat f l
  | dct e ne=>exact .dct (by rw [if_neg (qaS e hx (by intro z;cases z))];exact e) ne
 have k1:L2.Same (fun a=>if a=x then none else H a) H':=fun c u e=>by
  have e:(if c=x then none else H c)=some u:=e
  by_cases hc:c=x
  ·rw [if_pos hc] at e;cases e
  ·rw [if_neg hc] at e;exact b c u hc e
 have k2:L2.Same (fun a=>if a=x then none else H a) H:=fun c u e=>by
  have e:(if c=x then none else H c)=some u:=e
  by_cases hc:c=x
  ·rw [if_pos hc] at e;cases e
  ·rw [if_neg hc] at e;exact e
 exact ⟨h2.same k1,fun ss=>(qcu h2 fun b o _ e=>k1 b o e).trans (qcu h2 fun b o _ e=>k2 b o e).symm⟩
theorem qdq {α β:Type} {f g:α→Option β}:∀ {l:List α},(∀ x∈l,f x=g x)→l.filterMap f=l.filterMap g
 | [],_=>rfl
 | a::r,h=>by
  rw [List.filterMap_cons,List.filterMap_cons,h a List.mem_cons_self,qdq fun x hx=>h x (List.mem_cons_of_mem _ hx)]
theorem Arg.tie_but {p x dx C:Addr} {H H':Hp} {v:V} {o:Option (List V)} {fs:List (Str×V)} (h:Arg p H v o) (hx:H x=some (.ins C dx fs)) (b:But x H H') (y:V) (hy:y∈o.getD []) (ss:List Str):zM H' ss y=zM H ss y:=by
 cases o with
 | none=>cases hy
 | some xs =>
  have hth:=h.few.2 y hy
  cases hth with
  | flat f l=>cases y<;>first | rfl | cases f
  | lst e ne h l=>rw [j3 (H:=H') (fun a zs z y=>by (cases z;rw [b _ _ (qaS e hx (by intro z;cases z)) e] at y;cases y)),j3 (H:=H) fun a zs z y=>by (cases z;rw [e] at y;cases y)]
  | tup e ne h l=>unfold zM;dsimp only;rw [b _ _ (qaS e hx (by intro z;cases z)) e,e]
  | dct e ne=>rw [j3 (H:=H') (fun a zs z y=>by (cases z;rw [b _ _ (qaS e hx (by intro z;cases z)) e] at y;cases y)),j3 (H:=H) fun a zs z y=>by (cases z;rw [e] at y;cases y)]
theorem ok_web {f:Addr} {fd:FuncData} (F:Fun K "__init__" "Web.__init__" zh f fd) (T:Txt K mg cc cw) (D_numbers_of:DefOk P w K mg base (CX1 P w) 4 "numbers_of" ["names"] (qfh cc)) (D_near_of:DefOk P w K mg base (CX1 P w) 4 "near_of" ["numbers", "ties"] (qfi cc)) :
  FnOk P w K mg base (CX1 P w) 5 f fd ["self", "names", "ties"] (qbx cc cw):=by
 refine F.ok1 sc_Web_init (fun vs H Q E h=>?_) fun cdv A outer s H vs Q E hr h=>?_
 ·obtain ⟨p,x,dx,v,o,v2,o2,rfl,_⟩:=h;rfl
 ·obtain ⟨p,x,dx,v,o,v2,o2,rfl,hx,ha,ha2,hz,q⟩:=h
  have hu:=zR hr
  refine ⟨_,(qd (zY (K:=K) rfl (pv 0) (qed D_numbers_of (hm hr) qR (qa (pv 1) qb)) rfl)
 (qd (zY (K:=K) rfl (pv 0) (qI (qbh (K:=K) rfl rfl) rfl T.b_list boot_list (qa (jk (K:=K) rfl (pv 0) rfl) qb)) rfl)
 (qf (zY (K:=K) rfl (pv 0) (qed D_near_of (hm hr) qR (qa (jk (K:=K) rfl (pv 0) rfl) (qa (pv 2) qb))) rfl)))),?_⟩
  walk_at "vc"
  refine ⟨p,v,o,rfl,ha,fun r e=>?_,fun hN d H1 s1 hd0 hd=>?_⟩
  ·intro dy H' s' hy
   exact hz r (by unfold qeI;rw [e]) dy H' ((But.refl x H).same s') hy
  ·have hW:qeI H v o v2 o2=qei H ((o.getD []).map qC) v2 o2:=by unfold qeI;rw [hN]
   obtain ⟨xs,rfl,l14,_,allN,nd⟩:=outN_good hN
   rw [hW] at hz q
   have b1:=(But.refl x H).same s1
   have hx1:=s1 _ _ hx
   have ndx:d≠x:=qaS hd hx1 (by intro z;cases z)
   walk_at "vc"
   refine .inl ⟨x,cw,dx,[],rfl,hx1,T.wcl,T.wn,by decide,?_⟩
   have b2:=b1.put (o:=.ins cw dx (jZ "numbers" (.ref d) []))
   have hd2:upd H1 x (.ins cw dx (jZ "numbers" (.ref d) [])) d=some (.dK (qaK (((some xs).getD []).map qC) 0)):=by rw [qr ndx];exact hd
   walk_at "vc"
   refine .inl ⟨x,cw,dx,_,.ref d,rfl,qc,T.wcl,T.wn,by rw [qH,if_pos rfl],?_⟩
   walk_at "vc"
   refine .inr (.inl ⟨d,_,rfl,hd2,fun ol ho=>?_⟩)
   have no:ol≠x:=fun e=>by subst e;rw [qc] at ho;cases ho
   have b3:=b2.new (o:=.lst ((qaK (((some xs).getD []).map qC) 0).map fun kv=>kV kv.1)) ho
   have nol:ol≠d:=fun e=>by rw [e,hd2] at ho;cases ho
   walk_at "vc"
   refine .inl ⟨x,cw,dx,_,rfl,(by rw [qr no.symm];exact qc),T.wcl,T.wo,Nat.lt_of_le_of_lt (zm _ _ _) (by decide),?_⟩
   have hd3:upd (upd (upd H1 x (.ins cw dx (jZ "numbers" (.ref d) []))) ol (.lst ((qaK (((some xs).getD []).map qC) 0).map fun kv=>kV kv.1))) x (.ins cw dx (jZ "order" (.ref ol) (jZ "numbers" (.ref d) []))) d=some (.dK (qaK (((some xs).getD []).map qC) 0)):=by
    rw [qr ndx,qr (qw hd2 ho)];exact hd2
   have b4:=b3.put (o:=.ins cw dx (jZ "order" (.ref ol) (jZ "numbers" (.ref d) [])))
   walk_at "vc"
   refine .inl ⟨x,cw,dx,_,.ref d,rfl,qc,T.wcl,T.wn,by rw [qH,if_neg (by decide +kernel),qH,if_pos rfl],?_⟩
   walk_at "vc"
   obtain ⟨ha3,ho3⟩:=ha2.but hx b4
   refine ⟨p,d,_,v2,o2,rfl,hd3,by rw [List.length_map];exact l14,nd,ha3,fun r e=>?_,fun e n ns H2 s2 hn0 hn hbits=>?_⟩
   ·intro dy H' s' hy
    rw [ho3] at e
    exact hz r e dy H' (b4.same s') hy
   ·rw [ho3] at e
    have b5:=b4.same s2
    walk_at "vc"
    refine .inl ⟨x,cw,dx,_,rfl,s2 _ _ qc,T.wcl,T.wr,Nat.lt_of_le_of_lt (zm _ _ _) (Nat.lt_of_le_of_lt (Nat.succ_le_succ (zm _ _ _)) (by decide)),?_⟩
    have hx2:=s2 _ _ (qc:upd (upd (upd H1 x (.ins cw dx (jZ "numbers" (.ref d) []))) ol (.lst ((qaK (((some xs).getD []).map qC) 0).map fun kv=>kV kv.1))) x (.ins cw dx (jZ "order" (.ref ol) (jZ "numbers" (.ref d) []))) x=_)
    have nnx:n≠x:=qaS hn hx2 (by intro z;cases z)
    have hd4:=s2 _ _ hd3
    have ho4:H2 ol=some (.lst ((qaK (((some xs).getD []).map qC) 0).map fun kv=>kV kv.1)):=s2 _ _ (by rw [qr no];exact qc)
    have eT:(((some xs).getD []).map qC)=(((some xs).getD []).map qC):=rfl
    have ebt:∀ y∈(o2.getD []),zM H (((some xs).getD []).map qC) y=zM (upd (upd (upd H1 x (.ins cw dx (jZ "numbers" (.ref d) []))) ol (.lst ((qaK (((some xs).getD []).map qC) 0).map fun kv=>kV kv.1))) x (.ins cw dx (jZ "order" (.ref ol) (jZ "numbers" (.ref d) [])))) (((some xs).getD []).map qC) y:=fun y hy=>?tie
    have hol0:H ol=none:=by
     cases q':H ol with
     | none=>rfl
     | some o'=>rw [b2 ol o' no q'] at ho;cases ho
    have hn00:H n=none:=by
     cases q':H n with
     | none=>rfl
     | some o'=>rw [b4 n o' nnx q'] at hn0;cases hn0
    refine q e ns _ b5.put ⟨dx,d,ol,n,qc,by rw [qr ndx];exact hd4,by rw [qr no,ho4,qcv],by rw [qr nnx];exact hn,⟨hbits.1,by show (xs.map qC).length≤14;rw [List.length_map];exact l14,nd,hbits.2.1,fun s hs=>by obtain ⟨y,hy,rfl⟩:=List.mem_map.mp hs;exact (qJ (allN y hy)).2.1⟩,hd0,hol0,hn00⟩ ?_
    ·have:(o2.getD []).filterMap (zM H (((some xs).getD []).map qC))=(o2.getD []).filterMap (zM (upd (upd (upd H1 x (.ins cw dx (jZ "numbers" (.ref d) []))) ol (.lst ((qaK (((some xs).getD []).map qC) 0).map fun kv=>kV kv.1))) x (.ins cw dx (jZ "order" (.ref ol) (jZ "numbers" (.ref d) [])))) (((some xs).getD []).map qC)):=qdq ebt
     rw [this]
     exact hbits
    case tie=>exact (ha2.tie_but hx b4 y hy _).symm
end
abbrev jK:Stmt:=qT (top 14) 1
theorem sc_Web_places:FnScope ["self"] ["self"] (qe jK):=⟨rfl,rfl,rfl,by decide +kernel,rfl,by decide +kernel,by decide +kernel⟩
abbrev jo:Stmt:=qT (top 14) 3
theorem sc_Web_how_many:FnScope ["self"] ["self"] (qe jo):=⟨rfl,rfl,rfl,by decide +kernel,rfl,by decide +kernel,by decide +kernel⟩
abbrev jf:Stmt:=qT (top 14) 4
theorem sc_Web_has_place:FnScope ["self", "thing"] ["self", "thing"] (qe jf):=⟨rfl,rfl,rfl,by decide +kernel,rfl,by decide +kernel,by decide +kernel⟩
abbrev jg:Stmt:=qT (top 14) 6
theorem sc_Web_number_of:FnScope ["self", "place"] ["self", "place"] (qe jg):=⟨rfl,rfl,rfl,by decide +kernel,rfl,by decide +kernel,by decide +kernel⟩
abbrev jL:Stmt:=qT (top 14) 7
theorem sc_Web_beside:FnScope ["self", "place"] ["self", "place"] (qe jL):=⟨rfl,rfl,rfl,by decide +kernel,rfl,by decide +kernel,by decide +kernel⟩
abbrev qS:Stmt:=qT (top 14) 8
theorem sc_Web_bits_beside:FnScope ["self", "place"] ["self", "place"] (qe qS):=⟨rfl,rfl,rfl,by decide +kernel,rfl,by decide +kernel,by decide +kernel⟩
abbrev zi:Stmt:=qT (top 14) 9
theorem sc_Web_tied:FnScope ["self", "one", "other", "bits"] ["self", "one", "other"] (qe zi):=⟨rfl,rfl,rfl,by decide +kernel,rfl,by decide +kernel,by decide +kernel⟩
abbrev jc:Stmt:=qT (top 14) 12
theorem sc_Web_names_in:FnScope ["self", "bits"] ["self", "bits"] (qe jc):=⟨rfl,rfl,rfl,by decide +kernel,rfl,by decide +kernel,by decide +kernel⟩
theorem zj {d ol n:V}:(jZ "near" n (jZ "order" ol (jZ "numbers" d []))).lookup ("numbers":Str)=some d:=by
 rw [qH,if_neg (by decide +kernel),qH,if_neg (by decide +kernel),qH,if_pos rfl]
theorem j4 {d ol n:V}:(jZ "near" n (jZ "order" ol (jZ "numbers" d []))).lookup ("order":Str)=some ol:=by
 rw [qH,if_neg (by decide +kernel),qH,if_pos rfl]
theorem qej {d ol n:V}:(jZ "near" n (jZ "order" ol (jZ "numbers" d []))).lookup ("near":Str)=some n:=by
 rw [qH,if_pos rfl]
theorem js {f:Str} {d ol n:V} (h:(f=="near"||f=="order"||f=="numbers")=false):(jZ "near" n (jZ "order" ol (jZ "numbers" d []))).lookup f=none:=by
 simp only [Bool.or_eq_false_iff,beq_eq_false_iff_ne] at h
 rw [qH,if_neg h.1.1,qH,if_neg h.1.2,qH,if_neg h.2]
 rfl
theorem place_ix {ss:List Str} {v:V} (h:qt ss v=true):v=.str (qC v)∧∃ j,j < ss.length∧ss[j]?=some (qC v)∧qaC (qaK ss 0) (.inr (qC v):Key)=some (.int (j:Nat)):=by
 obtain ⟨n1,m1⟩:=qK h
 obtain ⟨e1,_,_⟩:=qJ n1
 obtain ⟨j,hj,gj,vj⟩:=j9 (i:=0) m1
 rw [Nat.zero_add] at vj
 exact ⟨e1,j,hj,gj,vj⟩
def inB:List Str→Nat→Nat→List Str
 | [],_,_=>[]
 | s::r,i,b=>if b.testBit i=true then s::inB r (i + 1) b else inB r (i + 1) b
theorem qa7 (y:Str) (b:Nat):∀ (l:List Str) (k:Nat),inB (l++[y]) k b=inB l k b++(if b.testBit (k + l.length)=true then [y] else [])
 | [],k=>by simp [inB]
 | s::r,k=>by
  have ih:=qa7 y b r (k + 1)
  have e:k + 1 + r.length=k + (s::r).length:=by simp;omega
  rw [e] at ih
  simp only [List.cons_append,inB,ih]
  split<;>simp
theorem qbV (b:Nat):∀ (l:List Str) (k:Nat),(inB l k b).length≤l.length
 | [],_=>Nat.le_refl _
 | s::r,k=>by
  have ih:=qbV b r (k + 1)
  simp only [inB]
  split
  ·simp;omega
  ·simp;omega
def qfA (cw:Addr):Sp:=fun vs H Q _=>∃ (p:Addr) (k:Nat) (x:Addr) (ss:List Str) (ns:List Nat) (v:V),vs=[.ref x,v]∧WebAt cw H x ss ns∧Th p H k v∧∀ H',L2.Same H H'→Q (.bl (qt ss v)) H'
def qek (cc:Nat→Addr) (cw:Addr):Sp:=fun vs H Q E=>∃ (p:Addr) (k:Nat) (x:Addr) (ss:List Str) (ns:List Nat) (v:V),vs=[.ref x,v]∧WebAt cw H x ss ns∧Th p H k v∧(qt ss v=false→Rz cc H E (2,v)) ∧
 ∀ j,ss[j]?=some (qC v)→qt ss v=true→∀ H',L2.Same H H'→Q (.int (j:Nat)) H'
def qgn (cc:Nat→Addr) (cw:Addr):Sp:=fun vs H Q E=>∃ (p:Addr) (k:Nat) (x:Addr) (ss:List Str) (ns:List Nat) (v:V),vs=[.ref x,v]∧WebAt cw H x ss ns∧Th p H k v∧(qt ss v=false→Rz cc H E (2,v)) ∧
 ∀ j,ss[j]?=some (qC v)→qt ss v=true→∀ H',L2.Same H H'→Q (.int (ns.getD j 0:Nat)) H'
def qfB (cw:Addr):Sp:=fun vs H Q _=>∃ (x:Addr) (ss:List Str) (ns:List Nat) (b:Nat),vs=[.ref x,.int b]∧WebAt cw H x ss ns∧∀ l,H l=none→Q (.ref l) (upd H l (.lst ((inB ss 0 b).map V.str)))
def qgC (cc:Nat→Addr) (cw:Addr):Sp:=fun vs H Q E=>∃ (p:Addr) (k:Nat) (x:Addr) (ss:List Str) (ns:List Nat) (v:V),vs=[.ref x,v]∧WebAt cw H x ss ns∧Th p H k v∧(qt ss v=false→Rz cc H E (2,v)) ∧
 ∀ j,ss[j]?=some (qC v)→qt ss v=true→∀ H',L2.Same H H'→∀ l,H' l=none→Q (.ref l) (upd H' l (.lst ((inB ss 0 (ns.getD j 0)).map V.str)))
def qel (cc:Nat→Addr) (cw:Addr):Sp:=fun vs H Q E=>∃ (p:Addr) (k:Nat) (x:Addr) (ss:List Str) (ns:List Nat) (v u:V),vs=[.ref x,v,u]∧WebAt cw H x ss ns∧Th p H k v∧Th p H k u∧(qt ss v=false→Rz cc H E (2,v))∧(qt ss v=true→qt ss u=false→Rz cc H E (2,u)) ∧
 ∀ j i,ss[j]?=some (qC v)→ss[i]?=some (qC u)→qt ss v=true→qt ss u=true→∀ H',L2.Same H H'→Q (.bl ((ns.getD j 0).testBit i)) H'
def qf6 (cw:Addr):Sp:=fun vs H Q _=>∃ (x:Addr) (ss:List Str) (ns:List Nat),vs=[.ref x]∧WebAt cw H x ss ns∧∀ l,H l=none→Q (.ref l) (upd H l (.lst (ss.map V.str)))
def qf7 (cw:Addr):Sp:=fun vs H Q _=>∃ (x:Addr) (ss:List Str) (ns:List Nat),vs=[.ref x]∧WebAt cw H x ss ns∧Q (.int ss.length) H
section
variable {P:Program} {w:World} {K:W.Frag} {mg:Str→Option Value} {base:Heap} {cc:Nat→Addr} {cw:Addr}
theorem ok_has {f:Addr} {fd:FuncData} (F:Fun K "has_place" "Web.has_place" jf f fd) (T:Txt K mg cc cw) (D_is_place:DefOk P w K mg base CX0 2 "is_place" ["numbers", "thing"] qcS):FnOk P w K mg base CX0 3 f fd ["self", "thing"] (qfA cw):=by
 refine F.ok sc_Web_has_place (fun vs H Q E h=>?_) fun cdv A outer s H vs Q E hr h=>?_
 ·obtain ⟨p,k,x,ss,ns,v,rfl,_⟩:=h;rfl
 ·obtain ⟨p,k,x,ss,ns,v,rfl,⟨dx,d,ol,n,hx,hd,ho,hn,hw⟩,hv,q⟩:=h
  refine ⟨_,(qf (qk (qp D_is_place (hm hr) qx (qa (jk (K:=K) rfl (pv 0) rfl) (qa (pv 1) qb))))),?_⟩
  walk_at "vc"
  refine .inl ⟨x,cw,dx,_,.ref d,rfl,hx,T.wcl,T.wn,zj,?_⟩
  walk_at "vc"
  exact ⟨p,k,d,ss,v,rfl,hd,hv,q⟩
theorem ok_num {f:Addr} {fd:FuncData} (F:Fun K "number_of" "Web.number_of" jg f fd) (T:Txt K mg cc cw) (D_Web_has_place:MethOk P w K mg base CX0 3 cw "has_place" ["self", "thing"] (qfA cw))
  (D_NoPlace:XMakeOk P w K mg base 2 (cc 2) "NoPlace" ["self", "found"] (spX (cc 2) (qay 2))):FnOk P w K mg base (CX1 P w) 4 f fd ["self", "place"] (qek cc cw):=by
 refine F.ok1 sc_Web_number_of (fun vs H Q E h=>?_) fun cdv A outer s H vs Q E hr h=>?_
 ·obtain ⟨p,k,x,ss,ns,v,rfl,_⟩:=h;rfl
 ·obtain ⟨p,k,x,ss,ns,v,rfl,hW,hv,hz,q⟩:=h
  have hu:=zR hr
  obtain ⟨dx,d,ol,n,hx,hd,ho,hn,hw⟩:=id hW
  refine ⟨_,(qd (qF (jr (qP (jT D_Web_has_place (hm hr) (pv 0) (qa (pv 1) qb)))) (qf (jR (K:=K) rfl qR (qaI D_NoPlace (hm hr) (qa (pv 1) qb)))) qi)
 (qf (qk (qA (qB (K:=K) rfl hu) (jk (K:=K) rfl (pv 0) rfl) (pv 1) (fun _ _=>rfl))))),?_⟩
  walk_at "vc"
  refine ⟨x,dx,_,rfl,hx,js (by decide +kernel),?_⟩
  walk_at "vc"
  refine ⟨p,k,x,ss,ns,v,rfl,hW,hv,fun H1 s1=>?_⟩
  walk_at "vc"
  refine qD (fun h=>?_) fun h=>?_
  ·walk_at "vc"
   exact qM (T.xat 2 (by decide)) ((hz (by simpa using h)).later s1)
  ·have hp:qt ss v=true:=by simpa using h
   obtain ⟨ev,j,hj,gj,vj⟩:=place_ix hp
   walk_at "vc"
   refine .inl ⟨x,cw,dx,_,.ref d,rfl,s1 _ _ hx,T.wcl,T.wn,zj,?_⟩
   walk_at "vc"
   refine .inr ⟨d,.int j,rfl,?_,q j gj hp H1 s1⟩
   have:=DGet.k (k:=Sum.inr (qC v)) (s1 _ _ hd)
   rw [vj] at this
   rw [ev]
   exact this
theorem ok_bb {f:Addr} {fd:FuncData} (F:Fun K "bits_beside" "Web.bits_beside" qS f fd) (T:Txt K mg cc cw) (D_Web_number_of:MethOk P w K mg base (CX1 P w) 4 cw "number_of" ["self", "place"] (qek cc cw)):FnOk P w K mg base (CX1 P w) 5 f fd ["self", "place"] (qgn cc cw):=by
 refine F.ok1 sc_Web_bits_beside (fun vs H Q E h=>?_) fun cdv A outer s H vs Q E hr h=>?_
 ·obtain ⟨p,k,x,ss,ns,v,rfl,_⟩:=h;rfl
 ·obtain ⟨p,k,x,ss,ns,v,rfl,hW,hv,hz,q⟩:=h
  have hu:=zR hr
  obtain ⟨dx,d,ol,n,hx,hd,ho,hn,hw⟩:=id hW
  refine ⟨_,(qf (qk (qA (qB (K:=K) rfl hu) (jk (K:=K) rfl (pv 0) rfl) (jS D_Web_number_of (hm hr) qR (pv 0) (qa (pv 1) qb)) (fun _ _=>rfl)))),?_⟩
  walk_at "vc"
  refine .inl ⟨x,cw,dx,_,.ref n,rfl,hx,T.wcl,T.wr,qej,?_⟩
  walk_at "vc"
  refine ⟨x,dx,_,rfl,hx,js (by decide +kernel),?_⟩
  walk_at "vc"
  refine ⟨p,k,x,ss,ns,v,rfl,hW,hv,hz,fun j gj hp H1 s1=>?_⟩
  exact .inl (zX (s1 _ _ hn) (jQ (qaM (by rw [hw.len];exact (List.getElem?_eq_some_iff.mp gj).1))) (q j gj hp H1 s1))
theorem ok_nin {f:Addr} {fd:FuncData} (F:Fun K "names_in" "Web.names_in" jc f fd) (T:Txt K mg cc cw) (D_has_bit:DefOk P w K mg base CX0 1 "has_bit" ["bits", "number"] qdL):FnOk P w K mg base CX0 2 f fd ["self", "bits"] (qfB cw):=by
 refine F.ok sc_Web_names_in (fun vs H Q E h=>?_) fun cdv A outer s H vs Q E hr h=>?_
 ·obtain ⟨x,ss,ns,b,rfl,_⟩:=h;rfl
 ·obtain ⟨x,ss,ns,b,rfl,⟨dx,d,ol,n,hx,hd,ho,hn,hw⟩,q⟩:=h
  have hu:=zR hr
  refine ⟨_,(qf (qk (jW (sc:=qe jc) (XN:=["self", "bits"]) ["name", "bits", "self"] 1 [1,0] rfl rfl rfl (by decide +kernel) rfl (by decide +kernel)
  (jh (K:=K) rfl (jk (K:=K) rfl (pv 0) rfl)) (fun _ _ _ _=>(qv (i:=0) (show (["name", "bits", "self"]:List Str).Nodup by decide +kernel) rfl (Or.inl rfl))) je
  (fun _ _ _ _=>(jx (qP (qp D_has_bit (hm hr) qx (qa (pv 1) (qa (qA (qB (K:=K) rfl hu) (jk (K:=K) rfl (pv 2) rfl) (pv 0) (fun _ _=>rfl)) qb))))))
  (fun _ _ _ _=>(pv 0))))),?_⟩
  walk_at "vc"
  refine .inl ⟨x,cw,dx,_,.ref ol,rfl,hx,T.wcl,T.wo,j4,?_⟩
  refine .inl ⟨⟨_,SqL.of ho⟩,qY (K:=K) (fun i ys H'=>H'=H∧ys=(inB (ss.take i) 0 b).map V.str) ⟨rfl,by simp [inB]⟩ (fun i ys H' _ hp=>by rw [hp.1];exact SqL.of ho) (fun i y ys H' hy hp=>?_) fun ys H' hp=>?_⟩
  ·obtain ⟨rfl,rfl⟩:=hp
   have hi:i < ss.length:=by simpa using (List.getElem?_eq_some_iff.mp hy).1
   have gi:ss[i]?=some ss[i]:=List.getElem?_eq_getElem hi
   generalize ss[i]=sy at gi
   have ey:y=.str sy:=by rw [List.getElem?_map,gi] at hy;cases hy;rfl
   subst ey
   obtain ⟨j,hj,gj,vj⟩:=j9 (i:=0) (List.mem_of_getElem? gi)
   rw [Nat.zero_add] at vj
   have hji:j=i:=qz hw.nd gj gi
   subst hji
   have htk:ss.take (j + 1)=ss.take j++[sy]:=by rw [List.take_add_one,gi];rfl
   have hln:(ss.take j).length=j:=by rw [List.length_take];omega
   walk_at "vc"
   refine .inl ⟨x,cw,dx,_,.ref d,rfl,hx,T.wcl,T.wn,zj,?_⟩
   walk_at "vc"
   refine .inr ⟨d,.int j,rfl,?_,?_⟩
   ·have:=DGet.k (k:=Sum.inr sy) hd
    rw [vj] at this
    exact this
   walk_at "vc"
   refine ⟨_,_,rfl,by omega,?_⟩
   rw [qbn]
   walk_at "vc"
   have few:((inB (ss.take j) 0 b).map V.str).length < sizeLine:=by
    rw [List.length_map]
    exact qh (Nat.le_trans (qbV _ _ _) (by rw [hln];have:=hw.few;omega))
   refine qD (fun hb=>?_) fun hb=>?_
   ·walk_at "vc"
    refine ⟨few,rfl,?_⟩
    rw [htk,qa7,hln,Nat.zero_add,if_pos hb]
    simp
   ·refine ⟨rfl,?_⟩
    rw [htk,qa7,hln,Nat.zero_add,if_neg hb]
    simp
  ·obtain ⟨rfl,rfl⟩:=hp
   have etk:ss.take (ss.map V.str).length=ss:=by rw [List.length_map,List.take_length]
   rw [etk]
   refine ⟨?_,fun l hl=>q l hl⟩
   rw [List.length_map]
   exact Nat.le_of_lt (qh (Nat.le_trans (qbV _ _ _) (by have:=hw.few;omega)))
theorem ok_bs {f:Addr} {fd:FuncData} (F:Fun K "beside" "Web.beside" jL f fd) (T:Txt K mg cc cw) (D_Web_bits_beside:MethOk P w K mg base (CX1 P w) 5 cw "bits_beside" ["self", "place"] (qgn cc cw)) (D_Web_names_in:MethOk P w K mg base CX0 2 cw "names_in" ["self", "bits"] (qfB cw)):FnOk P w K mg base (CX1 P w) 6 f fd ["self", "place"] (qgC cc cw):=by
 refine F.ok1 sc_Web_beside (fun vs H Q E h=>?_) fun cdv A outer s H vs Q E hr h=>?_
 ·obtain ⟨p,k,x,ss,ns,v,rfl,_⟩:=h;rfl
 ·obtain ⟨p,k,x,ss,ns,v,rfl,hW,hv,hz,q⟩:=h
  obtain ⟨dx,d,ol,n,hx,hd,ho,hn,hw⟩:=id hW
  refine ⟨_,(qf (qk (jT D_Web_names_in (hm hr) (pv 0) (qa (jS D_Web_bits_beside (hm hr) qR (pv 0) (qa (pv 1) qb)) qb)))),?_⟩
  walk_at "vc"
  refine ⟨x,dx,_,rfl,hx,js (by decide +kernel),?_⟩
  walk_at "vc"
  refine ⟨x,dx,_,rfl,hx,js (by decide +kernel),?_⟩
  walk_at "vc"
  refine ⟨p,k,x,ss,ns,v,rfl,hW,hv,hz,fun j gj hp H1 s1=>?_⟩
  walk_at "vc"
  exact ⟨x,ss,ns,_,rfl,hW.same s1,q j gj hp H1 s1⟩
theorem ok_tied {f:Addr} {fd:FuncData} (F:Fun K "tied" "Web.tied" zi f fd) (T:Txt K mg cc cw) (D_Web_bits_beside:MethOk P w K mg base (CX1 P w) 5 cw "bits_beside" ["self", "place"] (qgn cc cw)) (D_Web_number_of:MethOk P w K mg base (CX1 P w) 4 cw "number_of" ["self", "place"] (qek cc cw))
  (D_has_bit:DefOk P w K mg base CX0 1 "has_bit" ["bits", "number"] qdL):FnOk P w K mg base (CX1 P w) 6 f fd ["self", "one", "other"] (qel cc cw):=by
 refine F.ok1 sc_Web_tied (fun vs H Q E h=>?_) fun cdv A outer s H vs Q E hr h=>?_
 ·obtain ⟨p,k,x,ss,ns,v,u,rfl,_⟩:=h;rfl
 ·obtain ⟨p,k,x,ss,ns,v,u,rfl,hW,hv,hu',hz,hz2,q⟩:=h
  obtain ⟨dx,d,ol,n,hx,hd,ho,hn,hw⟩:=id hW
  refine ⟨_,(qd (qu (i:=3) sc_Web_tied.nd rfl (Or.inl rfl) (jS D_Web_bits_beside (hm hr) qR (pv 0) (qa (pv 1) qb)))
 (qf (qk (qp D_has_bit (hm hr) qx (qa (pv 3) (qa (jS D_Web_number_of (hm hr) qR (pv 0) (qa (pv 2) qb)) qb)))))),?_⟩
  walk_at "vc"
  refine ⟨x,dx,_,rfl,hx,js (by decide +kernel),?_⟩
  walk_at "vc"
  refine ⟨p,k,x,ss,ns,v,rfl,hW,hv,hz,fun j gj hp H1 s1=>?_⟩
  walk_at "vc"
  refine ⟨x,dx,_,rfl,s1 _ _ hx,js (by decide +kernel),?_⟩
  walk_at "vc"
  refine ⟨p,k,x,ss,ns,u,rfl,hW.same s1,hu'.same s1,fun h=>(hz2 hp h).later s1,fun i gi hp2 H2 s2=>?_⟩
  walk_at "vc"
  refine ⟨_,_,rfl,by omega,?_⟩
  rw [qbn]
  exact q j i gj gi hp hp2 H2 (s1.trans s2)
theorem ok_pls {f:Addr} {fd:FuncData} (F:Fun K "places" "Web.places" jK f fd) (T:Txt K mg cc cw):FnOk P w K mg base CX0 1 f fd ["self"] (qf6 cw):=by
 refine F.ok sc_Web_places (fun vs H Q E h=>?_) fun cdv A outer s H vs Q E hr h=>?_
 ·obtain ⟨x,ss,ns,rfl,_⟩:=h;rfl
 ·obtain ⟨x,ss,ns,rfl,⟨dx,d,ol,n,hx,hd,ho,hn,hw⟩,q⟩:=h
  refine ⟨_,(qf (qk (qI (qbh (K:=K) rfl rfl) rfl T.b_list boot_list (qa (jk (K:=K) rfl (pv 0) rfl) qb)))),?_⟩
  walk_at "vc"
  refine .inl ⟨x,cw,dx,_,.ref ol,rfl,hx,T.wcl,T.wo,j4,?_⟩
  walk_at "vc"
  exact .inl ⟨ol,_,rfl,.inl (SqL.of ho),q⟩
theorem ok_how {f:Addr} {fd:FuncData} (F:Fun K "how_many" "Web.how_many" jo f fd) (T:Txt K mg cc cw):FnOk P w K mg base CX0 1 f fd ["self"] (qf7 cw):=by
 refine F.ok sc_Web_how_many (fun vs H Q E h=>?_) fun cdv A outer s H vs Q E hr h=>?_
 ·obtain ⟨x,ss,ns,rfl,_⟩:=h;rfl
 ·obtain ⟨x,ss,ns,rfl,⟨dx,d,ol,n,hx,hd,ho,hn,hw⟩,q⟩:=h
  refine ⟨_,(qf (qk (qm (j7 (K:=K) rfl) rfl T.b_len boot_len (qa (jk (K:=K) rfl (pv 0) rfl) qb)))),?_⟩
  walk_at "vc"
  refine .inl ⟨x,cw,dx,_,.ref ol,rfl,hx,T.wcl,T.wo,j4,?_⟩
  walk_at "vc"
  refine qar ho ?_
  rw [List.length_map]
  exact q
end
abbrev jM:Stmt:=qT (top 14) 10
theorem sc_Web_pieces:FnScope ["self", "pieces", "seen", "number", "piece"] ["self"] (qe jM):=⟨rfl,rfl,rfl,by decide +kernel,rfl,by decide +kernel,by decide +kernel⟩
abbrev jp:Stmt:=top 20
theorem sc_piece_around:FnScope ["near", "number", "piece", "before", "at", "bits"] ["near", "number"] (qe jp):=⟨rfl,rfl,rfl,by decide +kernel,rfl,by decide +kernel,by decide +kernel⟩
theorem qem (m k:Nat):Builtin.bitOr (m:Int) (k:Int)=((m ||| k:Nat):Int):=by
 have n1:Builtin.bitNot (m:Int)=-(m:Int) - 1:=rfl
 have n2:Builtin.bitNot (k:Int)=-(k:Int) - 1:=rfl
 unfold Builtin.bitOr Builtin.bitAnd
 rw [n1,n2,decide_eq_false (by omega),decide_eq_false (by omega)]
 dsimp only
 unfold Builtin.bitNot
 have e1:(-(-(m:Int) - 1) - 1).toNat=m:=by omega
 have e2:(-(-(k:Int) - 1) - 1).toNat=k:=by omega
 rw [e1,e2]
 omega
theorem qen (j:Nat):(1 * 2 ^ (j:Int).toNat:Int)=((2 ^ j:Nat):Int):=by rw [Int.toNat_natCast,Int.one_mul,Int.natCast_pow];rfl
inductive Rch (ns:List Nat) (i:Nat):Nat→Prop
 | base:Rch ns i i
 | step {a b:Nat} (h:Rch ns i a) (t:(ns.getD a 0).testBit b=true):Rch ns i b
theorem Rch.trans {ns:List Nat} {i a b:Nat} (h:Rch ns i a) (g:Rch ns a b):Rch ns i b:=by
 induction g with
 | base=>exact h
 | step _ t ih=>exact .step ih t
def qg0:Sp:=fun vs H Q _=>∃ (n:Addr) (ns:List Nat) (i:Nat),vs=[.ref n,.int i]∧H n=some (.lst (qb5 ns))∧i < ns.length∧ns.length≤14∧(∀ a,ns.getD a 0 < 2 ^ ns.length) ∧
 ∀ (b:Nat) (H':Hp),L2.Same H H'→(∀ c,b.testBit c=true↔Rch ns i c)→Q (.int b) H'
structure All2 {α β:Type} (R:α→β→Prop) (l:List α) (m:List β):Prop where
 len:l.length=m.length
 at_:∀ (k:Nat) a b,l[k]?=some a→m[k]?=some b→R a b
theorem All2.nil {α β:Type} {R:α→β→Prop}:All2 R [] []:=⟨rfl,fun k a b h=>by simp at h⟩
theorem All2.mono {α β:Type} {R S:α→β→Prop} {l:List α} {m:List β} (h:All2 R l m) (f:∀ a b,R a b→S a b):All2 S l m:=⟨h.len,fun k a b x y=>f a b (h.at_ k a b x y)⟩
theorem All2.snoc {α β:Type} {R:α→β→Prop} {l:List α} {m:List β} {x:α} {y:β} (h:All2 R l m) (r:R x y):All2 R (l++[x]) (m++[y]):=by
 refine ⟨by rw [List.length_append,List.length_append,h.len];rfl,fun k a b ha hb=>?_⟩
 by_cases hk:k < l.length
 ·rw [List.getElem?_append_left hk] at ha
  rw [List.getElem?_append_left (by rw [← h.len];exact hk)] at hb
  exact h.at_ k a b ha hb
 ·rw [List.getElem?_append_right (by omega)] at ha
  rw [List.getElem?_append_right (by rw [← h.len];omega)] at hb
  have h0:k - l.length=0:=by
   have:=(List.getElem?_eq_some_iff.mp ha).1
   simp at this
   omega
  rw [← h.len] at hb
  rw [h0] at ha hb
  cases ha
  cases hb
  exact r
theorem All2.mem {α β:Type} {R:α→β→Prop} {l:List α} {m:List β} (h:All2 R l m) {x:α} (hx:x∈l):∃ y∈m,R x y:=by
 obtain ⟨k,hk,e⟩:=List.getElem_of_mem hx
 have hk':k < m.length:=by rw [← h.len];exact hk
 exact ⟨m[k],List.getElem_mem hk',h.at_ k x m[k] (by rw [List.getElem?_eq_getElem hk,e]) (List.getElem?_eq_getElem hk')⟩
noncomputable def qeo (ns:List Nat) (k:Nat):Bool:=@decide (∀ j,j < k→¬ Rch ns j k) (Classical.propDecidable _)
theorem isRep_iff {ns:List Nat} {k:Nat}:qeo ns k=true↔∀ j,j < k→¬ Rch ns j k:=by unfold qeo;exact @decide_eq_true_iff _ (Classical.propDecidable _)
noncomputable def qaY (ns:List Nat) (n:Nat):List Nat:=(List.range n).filter (qeo ns)
open Classical in
noncomputable def zv (ss:List Str) (ns:List Nat) (k:Nat):List Str:=ss.filter fun s=>decide (Rch ns k (ss.idxOf s))
theorem qdr {ss:List Str} (hn:ss.Nodup) {i:Nat} {s:Str} (h:ss[i]?=some s):ss.idxOf s=i:=by
 have hm:s∈ss:=List.mem_of_getElem? h
 have hl:ss.idxOf s < ss.length:=List.idxOf_lt_length_of_mem hm
 exact qz hn (by rw [List.getElem?_eq_getElem hl,List.getElem_idxOf]) h
theorem qag {ss:List Str} (hn:ss.Nodup) (b:Nat):inB ss 0 b=ss.filter fun s=>b.testBit (ss.idxOf s):=by
 have key:∀ k,k≤ss.length→inB (ss.take k) 0 b=(ss.take k).filter fun s=>b.testBit (ss.idxOf s):=fun k=>by
  induction k with
  | zero=>intro _;simp [inB]
  | succ k ih =>
   intro hk
   have gk:ss[k]?=some ss[k]:=List.getElem?_eq_getElem (by omega)
   generalize ss[k]=sk at gk
   have htk:ss.take (k + 1)=ss.take k++[sk]:=by rw [List.take_add_one,gk];rfl
   have hln:(ss.take k).length=k:=by rw [List.length_take];omega
   rw [htk,qa7,List.filter_append,ih (by omega),hln,Nat.zero_add]
   congr 1
   rw [List.filter_cons,List.filter_nil,qdr hn gk]
 have:=key ss.length (Nat.le_refl _)
 rwa [List.take_length] at this
theorem comp_of {ss:List Str} {ns:List Nat} (hn:ss.Nodup) {b k:Nat} (h:∀ c,b.testBit c=true↔Rch ns k c):inB ss 0 b=zv ss ns k:=by
 rw [qag hn]
 unfold zv
 apply List.filter_congr
 intro s _
 rw [Bool.eq_iff_iff,h]
 simp
def qg1 (H H':Hp) (l:Addr) (a:Addr) (ps:List Str):Prop:=H a=none∧a≠l∧H' a=some (.lst (ps.map V.str))
def qf8 (cw:Addr):Sp:=fun vs H Q _=>∃ (x:Addr) (ss:List Str) (ns:List Nat),vs=[.ref x]∧WebAt cw H x ss ns ∧
 ∀ (l:Addr) (ls:List Addr) (H':Hp),L2.Same H H'→H l=none→H' l=some (.lst (ls.map V.ref))→All2 (qg1 H H' l) ls ((qaY ns ss.length).map (zv ss ns))→Q (.ref l) H'
section
variable {P:Program} {w:World} {K:W.Frag} {mg:Str→Option Value} {base:Heap} {cc:Nat→Addr} {cw:Addr}
theorem ok_pc {f:Addr} {fd:FuncData} (F:Fun K "piece_around" "piece_around" jp f fd) (T:Txt K mg cc cw) (D_has_bit:DefOk P w K mg base CX0 1 "has_bit" ["bits", "number"] qdL):FnOk P w K mg base CX0 2 f fd ["near", "number"] qg0:=by
 refine F.ok sc_piece_around (fun vs H Q E h=>?_) fun cdv A outer s H vs Q E hr h=>?_
 ·obtain ⟨n,ns,i,rfl,_⟩:=h;rfl
 ·obtain ⟨n,ns,i,rfl,hn,hi,h14,hlt,q⟩:=h
  have hu:=zR hr
  refine ⟨_,(qd (qu (i:=2) sc_piece_around.nd rfl (Or.inl rfl) (qL qc1 qg (pv 1)))
 (qd (qu (i:=3) sc_piece_around.nd rfl (Or.inl rfl) qg)
 (qd (qcY PassesOwn.never (qo (zZ (K:=K) rfl hu) (pv 3) (pv 2) (qy _))
 (qd (qu (i:=3) sc_piece_around.nd rfl (Or.inl rfl) (pv 2))
 (qf (jP PassesOwn.never rfl (pi_enum (K:=K) rfl rfl T.b_enumerate (qa (pv 0) qb)) (qeX rfl (qa5 (qv (i:=4) sc_piece_around.nd rfl (Or.inl rfl)) (qa5 (qv (i:=5) sc_piece_around.nd rfl (Or.inl rfl)) qdS)))
 (qf (qF (qP (qp D_has_bit (hm hr) qx (qa (pv 3) (qa (pv 4) qb)))) (qf (qu (i:=2) sc_piece_around.nd rfl (Or.inl rfl) (qL qeM (pv 2) (pv 5)))) qi))))))
 (qf (qk (pv 2)))))),?_⟩
  walk_at "vc"
  refine vI ⟨by omega,by omega,by decide⟩ ?_
  walk_at "vc"
  rw [qen]
  have two:∀ c,(2 ^ i:Nat).testBit c=decide (i=c):=fun c=>Nat.testBit_two_pow
  refine ⟨fun m σ H'=>∃ (pc bf:Nat) (x4 x5:Option V),m=2 ^ ns.length - bf∧σ=[some (.ref n),some (.int i),some (.int pc),some (.int bf),x4,x5]∧L2.Same H H'∧bf ||| pc=pc∧pc < 2 ^ ns.length∧pc.testBit i=true∧(∀ c,pc.testBit c=true→Rch ns i c)∧∀ a c,bf.testBit a=true→(ns.getD a 0).testBit c=true→pc.testBit c=true,
   ⟨_,2 ^ i,0,none,none,rfl,rfl,L2.Same.refl H,by simp,Nat.pow_lt_pow_right (by decide) hi,by rw [two];simp,fun c hc=>by rw [two] at hc;rw [← of_decide_eq_true hc];exact .base,fun a c ha=>by simp at ha⟩,fun m σ H1 hW=>?_⟩
  obtain ⟨pc,bf,x4,x5,rfl,rfl,s1,hsub,hpl,hpi,hrch,hclo⟩:=hW
  walk_at "vc"
  refine .inl ⟨rfl,rfl,?_⟩
  walk_at "vc"
  refine qD (fun hne=>?_) fun heq=>?_
  ·have hne':bf≠pc:=fun e=>by
    subst e
    simp [eqV] at hne
   have hbl:bf < pc:=by
    have h1:bf≤bf ||| pc:=Nat.left_le_or
    rw [hsub] at h1
    omega
   refine ⟨fun σ' H'=>∃ (pk:Nat) (x4 x5:Option V),σ'=[some (.ref n),some (.int i),some (.int pk),some (.int pc),x4,x5]∧L2.Same H H'∧pc ||| pk=pk∧pk < 2 ^ ns.length∧pk.testBit i=true∧(∀ c,pk.testBit c=true→Rch ns i c)∧∀ a c,pc.testBit a=true→(ns.getD a 0).testBit c=true→pk.testBit c=true,
    fun σ' H' hN=>?_,?_⟩
   ·obtain ⟨pk,x4,x5,rfl,k1,k2,k3,k4,k5,k6⟩:=hN
    exact ⟨2 ^ ns.length - pc,by omega,pk,pc,x4,x5,rfl,rfl,k1,k2,k3,k4,k5,k6⟩
   ·walk_at "vc"
    refine ⟨n,qb5 ns,rfl,SqL.of (s1 _ _ hn),for_enum (K:=K) (fun k σ H'=>∃ (pk:Nat) (x4 x5:Option V),σ=[some (.ref n),some (.int i),some (.int pk),some (.int pc),x4,x5]∧L2.Same H H'∧pc ||| pk=pk∧pk < 2 ^ ns.length∧(∀ c,pk.testBit c=true→Rch ns i c)∧∀ a c,a < k→pc.testBit a=true→(ns.getD a 0).testBit c=true→pk.testBit c=true)
     ⟨pc,_,_,rfl,s1,by simp,hpl,hrch,fun a c h=>by omega⟩ (fun k σ H' _ hp=>by obtain ⟨_,_,_,_,z,_⟩:=hp;exact SqL.of (z _ _ hn)) (fun k y t σ H2 hy ht hp=>?_) fun σ H2 hp=>?_⟩
    ·obtain ⟨pk,x4,x5,rfl,s2,hs2,hl2,hr2,hc2⟩:=hp
     have s3:=qE s2 (o:=.tup [.int k,y]) ht
     have hkl:k < ns.length:=by have:=(List.getElem?_eq_some_iff.mp hy).1;unfold qb5 at this;simpa using this
     have ey:y=.int (ns.getD k 0:Nat):=by rw [qaM hkl] at hy;cases hy;rfl
     refine ⟨t,_,rfl,SqT.of qc,rfl,_,_,rfl,_,_,rfl,rfl,?_⟩
     subst ey
     walk_at "vc"
     refine ⟨_,_,rfl,by omega,?_⟩
     rw [qbn]
     walk_at "vc"
     refine qD (fun hb=>?_) fun hb=>?_
     ·walk_at "vc"
      rw [qem]
      refine ⟨pk ||| ns.getD k 0,_,_,rfl,s3,by rw [← Nat.or_assoc,hs2],Nat.or_lt_two_pow hl2 (hlt k),fun c hc=>?_,fun a c ha h1 h2=>?_⟩
      ·rw [Nat.testBit_or,Bool.or_eq_true] at hc
       rcases hc with hc | hc
       ·exact hr2 c hc
       ·exact .step (hrch k hb) hc
      ·rw [Nat.testBit_or,Bool.or_eq_true]
       by_cases hak:a=k
       ·subst hak;exact .inr h2
       ·exact .inl (hc2 a c (by omega) h1 h2)
     ·refine ⟨pk,_,_,rfl,s3,hs2,hl2,hr2,fun a c ha h1 h2=>?_⟩
      by_cases hak:a=k
      ·subst hak;exact absurd h1 hb
      ·exact hc2 a c (by omega) h1 h2
    ·obtain ⟨pk,x4,x5,rfl,s2,hs2,hl2,hr2,hc2⟩:=hp
     refine ⟨pk,x4,x5,rfl,s2,hs2,hl2,by rw [← hs2,Nat.testBit_or,hpi];rfl,hr2,fun a c h1 h2=>hc2 a c ?_ h1 h2⟩
     have hla:a < ns.length:=by
      refine Nat.lt_of_not_le fun hge=>?_
      have:pc.testBit a=false:=Nat.testBit_lt_two_pow (Nat.lt_of_lt_of_le hpl (Nat.pow_le_pow_right (by decide) hge))
      rw [this] at h1
      cases h1
     unfold qb5
     rw [List.length_map]
     exact hla
  ·have he:bf=pc:=by
    simp only [if_true,eqV,Bool.not_eq_true',Bool.not_eq_false'] at heq
    have:((bf:Int)==(pc:Int))=true:=by simpa using heq
    have:=eq_of_beq this
    omega
   subst he
   walk_at "vc"
   refine q bf H1 s1 fun c=>⟨hrch c,fun hc=>?_⟩
   induction hc with
   | base=>exact hpi
   | step _ t ih=>exact hclo _ _ ih t
theorem qcw (ns:List Nat) (k:Nat):((∃ j,j < k∧Rch ns j k)→qaY ns (k + 1)=qaY ns k)∧((¬ ∃ j,j < k∧Rch ns j k)→qaY ns (k + 1)=qaY ns k++[k]):=by
 unfold qaY
 rw [List.range_succ,List.filter_append]
 constructor
 ·rintro ⟨j,hj,hr⟩
  have e:qeo ns k=false:=by
   rw [Bool.eq_false_iff]
   intro h
   exact isRep_iff.mp h j hj hr
  simp [e]
 ·intro h
  have e:qeo ns k=true:=isRep_iff.mpr fun j hj hr=>h ⟨j,hj,hr⟩
  simp [e]
theorem ok_pcs {f:Addr} {fd:FuncData} (F:Fun K "pieces" "Web.pieces" jM f fd) (T:Txt K mg cc cw) (D_has_bit:DefOk P w K mg base CX0 1 "has_bit" ["bits", "number"] qdL) (D_piece_around:DefOk P w K mg base CX0 2 "piece_around" ["near", "number"] qg0)
  (D_Web_names_in:MethOk P w K mg base CX0 2 cw "names_in" ["self", "bits"] (qfB cw)):FnOk P w K mg base CX0 3 f fd ["self"] (qf8 cw):=by
 refine F.ok sc_Web_pieces (fun vs H Q E h=>?_) fun cdv A outer s H vs Q E hr h=>?_
 ·obtain ⟨x,ss,ns,rfl,_⟩:=h;rfl
 ·obtain ⟨x,ss,ns,rfl,hW,q⟩:=h
  obtain ⟨dx,d,ol,n,hx,hd,ho,hn,hw⟩:=id hW
  refine ⟨_,(qd (qu (i:=1) sc_Web_pieces.nd rfl (Or.inl rfl) (qQ qb))
 (qd (qu (i:=2) sc_Web_pieces.nd rfl (Or.inl rfl) qg)
 (qd (jP PassesOwn.never rfl (jt rfl T.b_range (qa (qm (j7 (K:=K) rfl) rfl T.b_len boot_len (qa (jk (K:=K) rfl (pv 0) rfl) qb)) qb)) (qv (i:=3) sc_Web_pieces.nd rfl (Or.inl rfl))
 (qf (qF (jr (qP (qp D_has_bit (hm hr) qx (qa (pv 2) (qa (pv 3) qb))))) (qd (qu (i:=4) sc_Web_pieces.nd rfl (Or.inl rfl) (qp D_piece_around (hm hr) qx (qa (jk (K:=K) rfl (pv 0) rfl) (qa (pv 3) qb))))
 (qd (qu (i:=2) sc_Web_pieces.nd rfl (Or.inl rfl) (qL qeM (pv 2) (pv 4)))
 (qf (jU (qdQ (K:=K) rfl PySem.F.plainAttrs_list PySem.F.slot_list_append PySem.F.type_list_append zx (pv 1) (qa (jT D_Web_names_in (hm hr) (pv 0) (qa (pv 4) qb)) qb)))))) qi)))
 (qf (qk (pv 1)))))),?_⟩
  walk_at "vc"
  refine ⟨by decide,fun l hl=>?_⟩
  have s0:=qE (L2.Same.refl H) (o:=.lst []) hl
  walk_at "vc"
  refine .inl ⟨x,cw,dx,_,.ref ol,rfl,s0 _ _ hx,T.wcl,T.wo,j4,?_⟩
  walk_at "vc"
  refine qar (s0 _ _ ho) ?_
  rw [List.length_map]
  have few:=hw.few
  refine ⟨_,rfl,by omega,by omega,?_⟩
  rw [Int.toNat_natCast]
  refine j6 (fun k σ H'=>k≤ss.length∧∃ (sn:Nat) (ls:List Addr) (x3 x4:Option V),σ=[some (.ref x),some (.ref l),some (.int sn),x3,x4]∧L2.Same H H'∧H' l=some (.lst (ls.map V.ref))∧All2 (qg1 H H' l) ls ((qaY ns k).map (zv ss ns))∧ls.length≤k∧∀ b,sn.testBit b=true↔∃ j,j < k∧Rch ns j b)
   ⟨Nat.zero_le _,0,[],none,none,rfl,s0,qc,All2.nil,Nat.le_refl _,fun b=>⟨fun h=>by simp at h,fun ⟨j,h,_⟩=>by omega⟩⟩ (fun k σ H1 hk hp=>?_) fun σ H1 hp=>?_
  ·obtain ⟨_,sn,ls,x3,x4,rfl,s1,hl1,hall,hlen,hsn⟩:=hp
   walk_at "vc"
   rw [Int.zero_add]
   refine ⟨_,_,rfl,by omega,?_⟩
   rw [qbn]
   walk_at "vc"
   refine qD (fun hb=>?_) fun hb=>?_
   ·have hnot:¬ ∃ j,j < k∧Rch ns j k:=fun h=>by
     rw [← hsn] at h
     rw [h] at hb
     cases hb
    walk_at "vc"
    refine .inl ⟨x,cw,dx,_,.ref n,rfl,s1 _ _ hx,T.wcl,T.wr,qej,?_⟩
    walk_at "vc"
    refine ⟨n,ns,k,rfl,s1 _ _ hn,by rw [hw.len];omega,by rw [hw.len];exact few,by rw [hw.len];exact hw.lt,fun b H2 s2 hbr=>?_⟩
    have s3:=s1.trans s2
    have hl2:=s2 _ _ hl1
    walk_at "vc"
    rw [qem]
    refine ⟨.inl ⟨rfl,_,SqL.of hl2⟩,?_⟩
    walk_at "vc"
    refine ⟨x,dx,_,rfl,s3 _ _ hx,js (by decide +kernel),?_⟩
    walk_at "vc"
    refine ⟨x,ss,ns,b,rfl,hW.same s3,fun a ha=>?_⟩
    walk_at "vc"
    have nal:l≠a:=qw hl2 ha
    refine ⟨l,_,_,rfl,rfl,by rw [qr nal];exact hl2,by rw [List.length_map];exact qh (by omega),?_⟩
    have s4:=qfe (qE s3 (o:=.lst ((inB ss 0 b).map V.str)) ha) (o:=.lst (ls.map V.ref++[.ref a])) hl
    refine ⟨by omega,sn ||| b,ls++[a],_,_,rfl,s4,by rw [qc,List.map_append];rfl,?_,by rw [List.length_append];show ls.length + 1≤k + 1;omega,fun c=>?_⟩
    ·rw [(qcw ns k).2 hnot,List.map_append]
     refine All2.snoc (hall.mono fun a' ps hp=>⟨hp.1,hp.2.1,?_⟩) ⟨s3.free ha,nal.symm,?_⟩
     ·have na:a'≠a:=fun e=>by
       have z:=s2 _ _ hp.2.2
       rw [e,ha] at z
       cases z
      rw [qr hp.2.1,qr na]
      exact s2 _ _ hp.2.2
     ·rw [qr nal.symm,qc,comp_of hw.nd hbr]
    ·rw [Nat.testBit_or,Bool.or_eq_true,hsn,hbr]
     constructor
     ·rintro (⟨j,h1,h2⟩ | h)
      ·exact ⟨j,by omega,h2⟩
      ·exact ⟨k,by omega,h⟩
     ·rintro ⟨j,h1,h2⟩
      by_cases hjk:j=k
      ·subst hjk;exact .inr h2
      ·exact .inl ⟨j,by omega,h2⟩
   ·have hyes:∃ j,j < k∧Rch ns j k:=by
     rw [← hsn]
     simpa using hb
    refine ⟨by omega,sn,ls,_,_,rfl,s1,hl1,?_,by omega,fun c=>?_⟩
    ·rw [(qcw ns k).1 hyes]
     exact hall
    ·rw [hsn]
     constructor
     ·rintro ⟨j,h1,h2⟩;exact ⟨j,by omega,h2⟩
     ·rintro ⟨j,h1,h2⟩
      by_cases hjk:j=k
      ·subst hjk
       obtain ⟨i,hi,hr⟩:=hyes
       exact ⟨i,hi,hr.trans h2⟩
      ·exact ⟨j,by omega,h2⟩
  ·obtain ⟨_,sn,ls,x3,x4,rfl,s1,hl1,hall,_,_⟩:=hp
   walk_at "vc"
   exact q l ls H1 s1 hl hl1 hall
end
abbrev zk:Stmt:=qT (top 14) 2
theorem sc_Web_ties:FnScope ["self", "ties", "one", "other"] ["self"] (qe zk):=⟨rfl,rfl,rfl,by decide +kernel,rfl,by decide +kernel,by decide +kernel⟩
abbrev zl:Stmt:=qT (top 14) 11
theorem sc_Web_told:FnScope ["self"] ["self"] (qe zl):=⟨rfl,rfl,rfl,by decide +kernel,rfl,by decide +kernel,by decide +kernel⟩
theorem qah {ss:List Str} {s:Str} (hs:s∈ss) (hn:jC s=true):qt ss (.str s)=true:=by
 unfold qt
 rw [if_pos (show j8 (.str s)=true from hn)]
 exact decide_eq_true hs
theorem zC {s:Str} (h:jC s=true):s.length≤6:=(qJ (x:=.str s) h).2.2
theorem inB_mem {ss:List Str} (hn:ss.Nodup) {b:Nat} {s:Str} (h:s∈inB ss 0 b):s∈ss∧b.testBit (ss.idxOf s)=true:=by
 rw [qag hn] at h
 exact List.mem_filter.mp h
def qfC (ss:List Str) (ns:List Nat) (i:Nat):List (Str×Str):=((inB ss 0 (ns.getD i 0)).filter fun o=>decide (i < ss.idxOf o)).map fun o=>(ss.getD i "",o)
def qa3 (ss:List Str) (ns:List Nat) (i:Nat):List (Str×Str):=(List.range i).flatMap (qfC ss ns)
def PrAt (H H':Hp) (l:Addr) (t:Addr) (ab:Str×Str):Prop:=H t=none∧t≠l∧H' t=some (.tup [.str ab.1,.str ab.2])
theorem PrAt.same {H H1 H2:Hp} {l t:Addr} {ab:Str×Str} (h:PrAt H H1 l t ab) (s:L2.Same H1 H2):PrAt H H2 l t ab:=⟨h.1,h.2.1,s _ _ h.2.2⟩
def qfD (cw:Addr):Sp:=fun vs H Q _=>∃ (x:Addr) (ss:List Str) (ns:List Nat),vs=[.ref x]∧WebAt cw H x ss ns ∧
 ∀ (l:Addr) (ts:List Addr) (H':Hp),L2.Same H H'→H l=none→H' l=some (.lst (ts.map V.ref))→ts.length≤196→All2 (PrAt H H' l) ts (qa3 ss ns ss.length)→Q (.ref l) H'
def qds (cw:Addr):Sp:=fun vs H Q _=>∃ (x:Addr) (ss:List Str) (ns:List Nat),vs=[.ref x]∧WebAt cw H x ss ns ∧
 ∀ (t t1 t2 l:Addr) (ts:List Addr) (H':Hp),L2.Same H H'→H' t=some (.tup [.ref t1,.ref t2])→H' t1=some (.tup (ss.map V.str))→H' t2=some (.tup (ts.map V.ref))→All2 (PrAt H H' l) ts (qa3 ss ns ss.length)→Q (.ref t) H'
section
variable {P:Program} {w:World} {K:W.Frag} {mg:Str→Option Value} {base:Heap} {cc:Nat→Addr} {cw:Addr}
theorem ok_ts {f:Addr} {fd:FuncData} (F:Fun K "ties" "Web.ties" zk f fd) (T:Txt K mg cc cw) (QD_Web_beside:MethOk P w K mg base CX0 6 cw "beside" ["self", "place"] (fun vs H Q _=>qgC cc cw vs H Q E0)):FnOk P w K mg base CX0 7 f fd ["self"] (qfD cw):=by
 refine F.ok sc_Web_ties (fun vs H Q E h=>?_) fun cdv A outer s H vs Q E hr h=>?_
 ·obtain ⟨x,ss,ns,rfl,_⟩:=h;rfl
 ·obtain ⟨x,ss,ns,rfl,hW,q⟩:=h
  have hu:=zR hr
  obtain ⟨dx,d,ol,n,hx,hd,ho,hn,hw⟩:=id hW
  have few:=hw.few
  have num:∀ (H1:Hp) (y:Str) (i:Nat),L2.Same H H1→ss[i]?=some y→DGet H1 d (.str y) (some (.int (i:Nat))):=fun H1 y i s1 gi=>by
   obtain ⟨j,hj,gj,vj⟩:=j9 (i:=0) (List.mem_of_getElem? gi)
   rw [Nat.zero_add] at vj
   have hji:j=i:=qz hw.nd gj gi
   subst hji
   have:=DGet.k (k:=Sum.inr y) (s1 _ _ hd)
   rw [vj] at this
   exact this
  refine ⟨_,(qd (qu (i:=1) sc_Web_ties.nd rfl (Or.inl rfl) (qQ qb))
 (qd (jP PassesOwn.never rfl (jh (K:=K) rfl (jk (K:=K) rfl (pv 0) rfl)) (qv (i:=2) sc_Web_ties.nd rfl (Or.inl rfl))
 (qf (jP PassesOwn.never rfl (jh (K:=K) rfl (jT QD_Web_beside (hm hr) (pv 0) (qa (pv 2) qb))) (qv (i:=3) sc_Web_ties.nd rfl (Or.inl rfl))
 (qf (qF (qo qdI (qA (qB (K:=K) rfl hu) (jk (K:=K) rfl (pv 0) rfl) (pv 2) (fun _ _=>rfl)) (qA (qB (K:=K) rfl hu) (jk (K:=K) rfl (pv 0) rfl) (pv 3) (fun _ _=>rfl)) (qy _)) (qf (jU (qdQ (K:=K) rfl PySem.F.plainAttrs_list PySem.F.slot_list_append PySem.F.type_list_append zx (pv 1) (qa (qG (qa (pv 2) (qa (pv 3) qb))) qb)))) qi)))))
 (qf (qk (pv 1))))),?_⟩
  walk_at "vc"
  refine ⟨by decide,fun l hl=>?_⟩
  have s0:=qE (L2.Same.refl H) (o:=.lst []) hl
  walk_at "vc"
  refine .inl ⟨x,cw,dx,_,.ref ol,rfl,s0 _ _ hx,T.wcl,T.wo,j4,?_⟩
  refine .inl ⟨⟨_,SqL.of (s0 _ _ ho)⟩,qab (K:=K) (fun i σ H'=>∃ (ts:List Addr) (x2 x3:Option V),σ=[some (.ref x),some (.ref l),x2,x3]∧L2.Same H H'∧H' l=some (.lst (ts.map V.ref))∧ts.length≤i * 14∧All2 (PrAt H H' l) ts (qa3 ss ns i))
   ⟨[],none,none,rfl,s0,qc,by simp,All2.nil⟩ (fun i σ H' _ hp=>by obtain ⟨_,_,_,_,z,_⟩:=hp;exact SqL.of (z _ _ ho)) (fun i y σ H1 hy hp=>?_) fun σ H1 hp=>?_⟩
  ·obtain ⟨ts,x2,x3,rfl,s1,hl1,hlen,hall⟩:=hp
   have hi:i < ss.length:=by simpa using (List.getElem?_eq_some_iff.mp hy).1
   have gi:ss[i]?=some ss[i]:=List.getElem?_eq_getElem hi
   generalize ss[i]=sy at gi
   have ey:y=.str sy:=by rw [List.getElem?_map,gi] at hy;cases hy;rfl
   subst ey
   have hny:=hw.nm sy (List.mem_of_getElem? gi)
   walk_at "vc"
   refine ⟨x,dx,_,rfl,s1 _ _ hx,js (by decide +kernel),?_⟩
   walk_at "vc"
   refine ⟨x,0,x,ss,ns,.str sy,rfl,hW.same s1,Th.flat rfl (fun z e=>by cases e;have:=zC hny;omega),(fun h=>by rw [qah (List.mem_of_getElem? gi) hny] at h;cases h),fun j gj _ H2 s2 b hb=>?_⟩
   have hji:j=i:=qz hw.nd gj gi
   subst hji
   have s3:=s1.trans s2
   have s4:=qE s3 (o:=.lst ((inB ss 0 (ns.getD j 0)).map V.str)) hb
   have s24:=qE s2 (o:=.lst ((inB ss 0 (ns.getD j 0)).map V.str)) hb
   have eb:upd H2 b (.lst ((inB ss 0 (ns.getD j 0)).map V.str)) b=some (.lst ((inB ss 0 (ns.getD j 0)).map V.str)):=qc
   have nbl:b≠l:=fun e=>by rw [e,s2 _ _ hl1] at hb;cases hb
   have hb0:H b=none:=s3.free hb
   refine .inl ⟨⟨_,SqL.of qc⟩,?_⟩
   generalize upd H2 b (.lst ((inB ss 0 (ns.getD j 0)).map V.str))=H3 at s4 s24 eb ⊢
   have hmem:∀ o,o∈inB ss 0 (ns.getD j 0)→o∈ss:=fun o h=>(inB_mem hw.nd h).1
   have hbl:=qbV (ns.getD j 0) ss 0
   have edef:qfC ss ns j=((inB ss 0 (ns.getD j 0)).filter fun o=>decide (j < ss.idxOf o)).map fun o=>(ss.getD j "",o):=rfl
   have egd:ss.getD j ""=sy:=by simp [List.getD,gi]
   rw [egd] at edef
   generalize hbs:inB ss 0 (ns.getD j 0)=bs at eb hmem hbl edef ⊢
   refine qab (K:=K) (fun k σ H'=>∃ (us:List Addr) (x3:Option V),σ=[some (.ref x),some (.ref l),some (.str sy),x3]∧L2.Same H H'∧H' b=some (.lst (bs.map V.str))∧H' l=some (.lst (us.map V.ref))∧us.length≤j * 14 + k∧All2 (PrAt H H' l) us (qa3 ss ns j++((bs.take k).filter fun o=>decide (j < ss.idxOf o)).map fun o=>(sy,o)))
    ⟨ts,_,rfl,s4,eb,s24 _ _ hl1,hlen,by simpa using hall.mono fun _ _ h=>h.same s24⟩ (fun k σ H' _ hp=>by obtain ⟨_,_,_,_,z,_⟩:=hp;exact SqL.of z) (fun k u σ H5 hu5 hp=>?_) fun σ H5 hp=>?_
   ·obtain ⟨us,x3,rfl,s5,eb5,hl5,hlen5,hall5⟩:=hp
    have hk:k < bs.length:=by simpa using (List.getElem?_eq_some_iff.mp hu5).1
    have gk:bs[k]?=some bs[k]:=List.getElem?_eq_getElem hk
    generalize bs[k]=so at gk
    have eu:u=.str so:=by rw [List.getElem?_map,gk] at hu5;cases hu5;rfl
    subst eu
    have hso:=hmem so (List.mem_of_getElem? gk)
    have hil:=List.idxOf_lt_length_of_mem hso
    have gso:ss[ss.idxOf so]?=some so:=by rw [List.getElem?_eq_getElem hil,List.getElem_idxOf]
    have htk:bs.take (k + 1)=bs.take k++[so]:=by rw [List.take_add_one,gk];rfl
    walk_at "vc"
    refine .inl ⟨x,cw,dx,_,.ref d,rfl,s5 _ _ hx,T.wcl,T.wn,zj,?_⟩
    walk_at "vc"
    refine .inr ⟨d,.int j,rfl,num H5 sy j s5 gi,?_⟩
    walk_at "vc"
    refine .inl ⟨x,cw,dx,_,.ref d,rfl,s5 _ _ hx,T.wcl,T.wn,zj,?_⟩
    walk_at "vc"
    refine .inr ⟨d,.int (ss.idxOf so:Nat),rfl,num H5 so _ s5 gso,?_⟩
    walk_at "vc"
    refine qD (fun hlt=>?_) fun hlt=>?_
    ·have hlt':j < ss.idxOf so:=by have:=of_decide_eq_true hlt;omega
     walk_at "vc"
     refine ⟨.inl ⟨rfl,_,SqL.of hl5⟩,?_⟩
     walk_at "vc"
     refine ⟨by show 2≤sizeLine;decide,fun t ht=>?_⟩
     have nlt:l≠t:=qw hl5 ht
     have nbt:b≠t:=qw eb5 ht
     have s6:=qE (L2.Same.refl H5) (o:=.tup [.str sy,.str so]) ht
     walk_at "vc"
     refine ⟨l,_,_,rfl,rfl,by rw [qr nlt];exact hl5,by rw [List.length_map];exact qh (by have:j * 14≤14 * 14:=Nat.mul_le_mul_right 14 (by omega);omega),?_⟩
     refine ⟨us++[t],_,rfl,qfe (s5.trans s6) hl,by rw [qr nbl,qr nbt];exact eb5,by rw [qc,List.map_append];rfl,by rw [List.length_append];show us.length + 1≤_;omega,?_⟩
     rw [htk,List.filter_append,List.map_append,← List.append_assoc]
     have e1:([so].filter fun o=>decide (j < ss.idxOf o)).map (fun o=>(sy,o))=[(sy,so)]:=by simp [hlt']
     rw [e1]
     refine All2.snoc (hall5.mono fun t' ab h=>⟨h.1,h.2.1,?_⟩) ⟨s5.free ht,nlt.symm,?_⟩
     ·rw [qr h.2.1]
      exact s6 _ _ h.2.2
     ·rw [qr nlt.symm,qc]
    ·have hlt':¬ j < ss.idxOf so:=fun h=>hlt (decide_eq_true (by omega))
     refine ⟨us,_,rfl,s5,eb5,hl5,by omega,?_⟩
     have e1:([so].filter fun o=>decide (j < ss.idxOf o)).map (fun o=>(sy,o))=[]:=by simp [hlt']
     rw [htk,List.filter_append,List.map_append,e1,List.append_nil]
     exact hall5
   ·obtain ⟨us,x3,rfl,s5,eb5,hl5,hlen5,hall5⟩:=hp
    rw [List.length_map,List.take_length] at hall5
    rw [List.length_map] at hlen5
    refine ⟨us,_,_,rfl,s5,hl5,by omega,?_⟩
    unfold qa3 at hall5 ⊢
    rw [List.range_succ,List.flatMap_append]
    have e1:[j].flatMap (qfC ss ns)=(bs.filter fun o=>decide (j < ss.idxOf o)).map fun o=>(sy,o):=by rw [← edef];simp
    rw [e1]
    exact hall5
  ·obtain ⟨ts,x2,x3,rfl,s1,hl1,hlen,hall⟩:=hp
   rw [List.length_map] at hlen hall
   walk_at "vc"
   exact q l ts H1 s1 hl hl1 (by have:ss.length * 14≤14 * 14:=Nat.mul_le_mul_right 14 few;omega) hall
theorem ok_told {f:Addr} {fd:FuncData} (F:Fun K "told" "Web.told" zl f fd) (T:Txt K mg cc cw) (D_Web_ties:MethOk P w K mg base CX0 7 cw "ties" ["self"] (qfD cw)):FnOk P w K mg base CX0 8 f fd ["self"] (qds cw):=by
 refine F.ok sc_Web_told (fun vs H Q E h=>?_) fun cdv A outer s H vs Q E hr h=>?_
 ·obtain ⟨x,ss,ns,rfl,_⟩:=h;rfl
 ·obtain ⟨x,ss,ns,rfl,hW,q⟩:=h
  obtain ⟨dx,d,ol,n,hx,hd,ho,hn,hw⟩:=id hW
  refine ⟨_,(qf (qk (qG (qa (qI (jy (K:=K) rfl) rfl T.b_tuple boot_tuple (qa (jk (K:=K) rfl (pv 0) rfl) qb)) (qa (qI (jy (K:=K) rfl) rfl T.b_tuple boot_tuple (qa (qZ D_Web_ties (hm hr) (pv 0)) qb)) qb))))),?_⟩
  walk_at "vc"
  refine .inl ⟨x,cw,dx,_,.ref ol,rfl,hx,T.wcl,T.wo,j4,?_⟩
  walk_at "vc"
  refine ⟨ol,_,rfl,.inl ⟨SqL.of ho,fun t1 h1=>?_⟩⟩
  have s1:=qE (L2.Same.refl H) (o:=.tup (ss.map V.str)) h1
  have e1:upd H t1 (.tup (ss.map V.str)) t1=some (.tup (ss.map V.str)):=qc
  generalize upd H t1 (.tup (ss.map V.str))=H1 at s1 e1 ⊢
  walk_at "vc"
  refine ⟨x,dx,_,rfl,s1 _ _ hx,js (by decide +kernel),?_⟩
  walk_at "vc"
  refine ⟨x,ss,ns,rfl,hW.same s1,fun l ts H2 s2 hl0 hl hts hall=>?_⟩
  walk_at "vc"
  refine ⟨l,_,rfl,.inl ⟨SqL.of hl,fun t2 h2=>?_⟩⟩
  have s3:=qE (L2.Same.refl H2) (o:=.tup (ts.map V.ref)) h2
  have e2:upd H2 t2 (.tup (ts.map V.ref)) t2=some (.tup (ts.map V.ref)):=qc
  generalize upd H2 t2 (.tup (ts.map V.ref))=H3 at s3 e2 ⊢
  walk_at "vc"
  refine ⟨by show 2≤sizeLine;decide,fun t ht=>?_⟩
  have s4:=qE (L2.Same.refl H3) (o:=.tup [.ref t1,.ref t2]) ht
  exact q t t1 t2 l ts _ ((s1.trans s2).trans (s3.trans s4)) qc (s4 _ _ (s3 _ _ (s2 _ _ e1))) (s4 _ _ e2) (hall.mono fun t' ab h=>⟨s1.free h.1,h.2.1,s4 _ _ (s3 _ _ h.2.2)⟩)
end
abbrev qai:Stmt:=top 22
theorem sc_l_cell:FnScope ["_law_script", "_law_k"] ["_law_script", "_law_k"] (qe qai):=⟨rfl,rfl,rfl,by decide +kernel,rfl,by decide +kernel,by decide +kernel⟩
abbrev qaZ:Stmt:=top 23
theorem sc_l_box:FnScope ["_law_cell_here"] ["_law_cell_here"] (qe qaZ):=⟨rfl,rfl,rfl,by decide +kernel,rfl,by decide +kernel,by decide +kernel⟩
abbrev qaj:Stmt:=top 24
theorem sc_l_take:FnScope ["_law_box_here", "_law_many", "_law_number"] ["_law_box_here", "_law_many"] (qe qaj):=⟨rfl,rfl,rfl,by decide +kernel,rfl,by decide +kernel,by decide +kernel⟩
abbrev zp:Stmt:=top 29
theorem sc_l_fresh:FnScope ["_law_names_here"] ["_law_names_here"] (qe zp):=⟨rfl,rfl,rfl,by decide +kernel,rfl,by decide +kernel,by decide +kernel⟩
abbrev qaz:Stmt:=top 31
theorem sc_l_odd:FnScope ["_law_box_here"] ["_law_box_here"] (qe qaz):=⟨rfl,rfl,rfl,by decide +kernel,rfl,by decide +kernel,by decide +kernel⟩
def Box (H:Hp) (p:Addr):Prop:=∃ a b c:Int,H p=some (.lst [.int a,.int b,.int c])
def BB (p:Addr) (H H':Hp):Prop:=(∀ b o,b≠p→H b=some o→H' b=some o)∧Box H' p
theorem BB.refl {p:Addr} {H:Hp} (h:Box H p):BB p H H:=⟨fun _ _ _ e=>e,h⟩
theorem BB.trans {p:Addr} {H H1 H2:Hp} (a:BB p H H1) (b:BB p H1 H2):BB p H H2:=⟨fun c o n e=>b.1 c o n (a.1 c o n e),b.2⟩
theorem BB.new {p l:Addr} {H H1:Hp} {o:HO} (a:BB p H H1) (hl:H1 l=none):BB p H (upd H1 l o):=by
 obtain ⟨x,y,z,hp⟩:=a.2
 refine ⟨fun c u n e=>?_,x,y,z,?_⟩
 ·have q:=a.1 c u n e
  rw [qr (qw q hl)]
  exact q
 ·rw [qr (qw hp hl)]
  exact hp
def qaN:Sp:=fun vs H Q _=>∃ (p:Addr) (m:Int),vs=[.ref p,.int m]∧Box H p∧0 < m∧m < 1073741824∧∀ (r:Int) (H':Hp),0≤r→r < m→BB p H H'→Q (.int r) H'
section
variable {P:Program} {w:World} {K:W.Frag} {mg:Str→Option Value} {base:Heap} {cc:Nat→Addr} {cw:Addr}
theorem ok_take {f:Addr} {fd:FuncData} (F:Fun K "_law_take" "_law_take" qaj f fd):FnOk P w K mg base CX0 1 f fd ["_law_box_here", "_law_many"] qaN:=by
 refine F.ok sc_l_take (fun vs H Q E h=>?_) fun cdv A outer s H vs Q E hr h=>?_
 ·obtain ⟨p,m,rfl,_⟩:=h;rfl
 ·obtain ⟨p,m,rfl,⟨a,b,c,hp⟩,h0,h1,k⟩:=h
  have hu:=zR hr
  refine ⟨_,(qd (qF (qo qeN (qA (qB (K:=K) rfl hu) (pv 0) qg (fun _ _=>rfl)) qg (qy _)) (qd (qu (i:=2) sc_l_take.nd rfl (Or.inl rfl) (qL zV (qA (qB (K:=K) rfl hu) (pv 0) qg (fun _ _=>rfl)) (pv 1)))
 (qd (qbb (qL qdU (qA (qB (K:=K) rfl hu) (pv 0) qg (fun _ _=>rfl)) (pv 1)) (qbz (pv 0) qg (qbF hu)))
 (qf (qk (pv 2))))) qi)
 (qd (qbb (qL (zu (K:=K) rfl) (qA (qB (K:=K) rfl hu) (pv 0) qg (fun _ _=>rfl)) qg) (qbz (pv 0) qg (qbF hu)))
 (qd (qu (i:=2) sc_l_take.nd rfl (Or.inl rfl) (qL zV (qL (zu (K:=K) rfl) (qL (zu (K:=K) rfl) (qL qbw (qA (qB (K:=K) rfl hu) (pv 0) qg (fun _ _=>rfl)) qg) (qL qbw qg (qA (qB (K:=K) rfl hu) (pv 0) qg (fun _ _=>rfl)))) qg) qg))
 (qd (qu (i:=2) sc_l_take.nd rfl (Or.inl rfl) (qL zV (qL (zu (K:=K) rfl) (qL (zu (K:=K) rfl) (qL qbw (pv 2) (pv 2)) (qL qbw qg (qA (qB (K:=K) rfl hu) (pv 0) qg (fun _ _=>rfl)))) qg) qg))
 (qf (qk (qL zV (qL zV (qL qbw (pv 2) (qL (zu (K:=K) rfl) (pv 2) qg)) qg) (pv 1)))))))),?_⟩
  walk_at "vc"
  refine .inl (zX hp rfl ?_)
  walk_at "vc"
  refine qD (fun hc=>?_) (fun hc=>?_)
  ·walk_at "vc"
   refine .inl (zX hp rfl ?_)
   walk_at "vc"
   refine vI h0 ?_
   walk_at "vc"
   refine .inl (zX hp rfl ?_)
   walk_at "vc"
   refine vI ⟨h0,h1⟩ ?_
   walk_at "vc"
   refine .inl (qeT hp rfl ?_)
   walk_at "vc"
   exact k _ _ (Int.emod_nonneg _ (by omega)) (Int.emod_lt_of_pos _ h0) ⟨fun x o n e=>by rw [qr n];exact e,_,_,_,qc⟩
  ·walk_at "vc"
   refine .inl (zX hp rfl ?_)
   walk_at "vc"
   refine .inl (qeT hp rfl ?_)
   walk_at "vc"
   refine .inl (zX qc rfl ?_)
   walk_at "vc"
   refine qbO (.inr (by decide)) ?_
   walk_at "vc"
   refine .inl (zX qc rfl ?_)
   walk_at "vc"
   refine qbO (.inl (by decide)) ?_
   walk_at "vc"
   refine vI (by decide) ?_
   walk_at "vc"
   have e1:=Int.emod_nonneg (b * 48271 + 7919 * (c + 1) + 101) (show (2147483647:Int)≠0 by decide)
   have e2:=Int.emod_lt_of_pos (b * 48271 + 7919 * (c + 1) + 101) (show (0:Int) < 2147483647 by decide)
   refine qbO (.inl ⟨by omega,by omega⟩) ?_
   walk_at "vc"
   refine .inl (zX qc rfl ?_)
   walk_at "vc"
   refine qbO (.inl (by decide)) ?_
   walk_at "vc"
   refine vI (by decide) ?_
   walk_at "vc"
   generalize ((b * 48271 + 7919 * (c + 1) + 101) % 2147483647 * ((b * 48271 + 7919 * (c + 1) + 101) % 2147483647) + 104729 * (c + 1) + 7)=z
   have e3:=Int.emod_nonneg z (show (2147483629:Int)≠0 by decide)
   have e4:=Int.emod_lt_of_pos z (show (0:Int) < 2147483629 by decide)
   refine qbO (.inl ⟨by omega,by omega⟩) ?_
   walk_at "vc"
   refine vI (by decide) ?_
   walk_at "vc"
   refine vI h0 ?_
   exact k _ _ (Int.emod_nonneg _ (by omega)) (Int.emod_lt_of_pos _ h0) ⟨fun x o n e=>by rw [qr n];exact e,_,_,_,qc⟩
def qfj (K:W.Frag):Sp:=fun vs H Q _=>∃ (a:Addr) (ns:List Int) (k:Int),vs=[.ref a,.int k]∧SqL K H a (ns.map V.int)∧0≤k∧k < 1000∧∀ i:Int,Q (.int i) H
theorem ok_cell {f:Addr} {fd:FuncData} (F:Fun K "_law_cell" "_law_cell" qai f fd) (T:Txt K mg cc cw):FnOk P w K mg base CX0 1 f fd ["_law_script", "_law_k"] (qfj K):=by
 refine F.ok sc_l_cell (fun vs H Q E h=>?_) fun cdv A outer s H vs Q E hr h=>?_
 ·obtain ⟨a,ns,k,rfl,_⟩:=h;rfl
 ·obtain ⟨a,ns,k,rfl,hS,h0,h1,q⟩:=h
  have hu:=zR hr
  refine ⟨_,(qd (qF (qo qdI (pv 1) (qm (j7 (K:=K) rfl) rfl T.b_len boot_len (qa (pv 0) qb)) (qy _)) (qf (qk (qA (qB (K:=K) rfl hu) (pv 0) (pv 1) (fun _ _=>rfl)))) qi)
 (qf (qk (qL (zu (K:=K) rfl) (qL qbw qg (pv 1)) qg)))),?_⟩
  walk_at "vc"
  refine qe3 hS ?_
  walk_at "vc"
  refine qD (fun hc=>?_) (fun hc=>?_)
  ·walk_at "vc"
   have hc':k < (ns.map V.int).length:=of_decide_eq_true hc
   obtain ⟨v,e1,e2⟩:=qas h0 hc'
   rw [List.getElem?_map] at e2
   cases e3:ns[k.toNat]? with
   | none=>rw [e3] at e2;cases e2
   | some i =>
    rw [e3] at e2
    cases e2
    exact .inl (vIxLs hS e1 (q i))
  ·walk_at "vc"
   refine qbO (.inl (by decide)) ?_
   walk_at "vc"
   exact q _
def qf9:Sp:=fun vs H Q _=>∃ i:Int,vs=[.int i]∧∀ (p:Addr) (a b c:Int),H p=none→Q (.ref p) (upd H p (.lst [.int a,.int b,.int c]))
theorem ok_box {f:Addr} {fd:FuncData} (F:Fun K "_law_box" "_law_box" qaZ f fd):FnOk P w K mg base CX0 1 f fd ["_law_cell_here"] qf9:=by
 refine F.ok sc_l_box (fun vs H Q E h=>?_) fun cdv A outer s H vs Q E hr h=>?_
 ·obtain ⟨i,rfl,_⟩:=h;rfl
 ·obtain ⟨i,rfl,q⟩:=h
  have hu:=zR hr
  refine ⟨_,(qd (qF (qo op_ge (pv 0) (qL op_pow qg qg) (qy _)) (qf (qk (qQ (qa (pv 0) (qa (qL zV (pv 0) qg) (qa qg qb)))))) qi)
 (qf (qk (qQ (qa qg (qa (qL zV (pv 0) qg) (qa qg qb))))))),?_⟩
  walk_at "vc"
  refine vI ⟨by decide,by decide,by decide⟩ ?_
  walk_at "vc"
  refine qD (fun hc=>?_) (fun hc=>?_)
  ·walk_at "vc"
   refine vI (by decide) ?_
   walk_at "vc"
   exact ⟨by show 3≤sizeLine;decide,fun p hp=>q p _ _ _ hp⟩
  ·walk_at "vc"
   refine vI (by decide) ?_
   walk_at "vc"
   exact ⟨by show 3≤sizeLine;decide,fun p hp=>q p _ _ _ hp⟩
theorem BB.apart {p l:Addr} {H H1:Hp} (a:BB p H H1) (hl:H1 l=none):l≠p:=fun e=>by subst e;obtain ⟨_,_,_,z⟩:=a.2;rw [z] at hl;cases hl
theorem BB.free {p l:Addr} {H H1:Hp} (a:BB p H H1) (hl:H1 l=none):H l=none:=by
 cases q:H l with
 | none=>rfl
 | some o=>rw [a.1 l o (a.apart hl) q] at hl;cases hl
theorem BB.put {p l:Addr} {H H1:Hp} {o:HO} (a:BB p H H1) (hl:H l=none) (np:l≠p):BB p H (upd H1 l o):=by
 obtain ⟨x,y,z,hp⟩:=a.2
 exact ⟨fun c u n e=>by rw [qr (qw e hl)];exact a.1 c u n e,x,y,z,by rw [qr np.symm];exact hp⟩
theorem BB.same {p:Addr} {H H1 H2:Hp} (a:BB p H H1) (s:L2.Same H1 H2):BB p H H2:=by
 obtain ⟨x,y,z,hp⟩:=a.2
 exact ⟨fun c u n e=>s c u (a.1 c u n e),x,y,z,s _ _ hp⟩
theorem Box.apart {p l:Addr} {H:Hp} (h:Box H p) (hl:H l=none):l≠p:=(BB.refl h).apart hl
theorem Th.bb {p:Addr} {H H':Hp} {n:Nat} {v:V} (h:Th p H n v) (b:BB p H H'):Th p H' n v:=h.keep b.1
theorem Th.str {p:Addr} {H:Hp} {n:Nat} {s:Str} (h:s.length≤100000):Th p H n (.str s):=.flat rfl fun t e=>by cases e;exact h
theorem cut_mem {xs:List V} {lo hi:Option Int} {y:V} (h:y∈qb3 xs lo hi):y∈xs:=by
 unfold qb3 at h
 exact List.mem_of_mem_drop (List.mem_of_mem_take h)
def NewH (H H':Hp):Hp:=fun a=>match H a with | none=>H' a | some _=>none
theorem NewH.sub {H H':Hp} {a:Addr} {o:HO} (e:NewH H H' a=some o):H a=none∧H' a=some o:=by
 unfold NewH at e
 split at e
 ·rename_i z;exact ⟨z,e⟩
 ·cases e
theorem NewH.of {H H':Hp} {a:Addr} {o:HO} (h:H a=none) (e:H' a=some o):NewH H H' a=some o:=by unfold NewH;rw [h];exact e
theorem Th.old {p:Addr} {H H':Hp} {n:Nat} {v:V} (h:Th p (NewH H H') n v):Th p H' n v:=h.keep fun b o _ e=>(NewH.sub e).2
def qep:Sp:=fun vs H Q _=>∃ p:Addr,vs=[.ref p]∧Box H p∧∀ (v:V) (H':Hp),BB p H H'→Th p (NewH H H') 1 v→j8 v=false→(∀ s,v=.str s→s=""∨s="A"∨s="zzzzzzz")→Q v H'
theorem odd_parts:∃ es p q q2 j q3 q4 pos ps,qj qaz=[.Return (some (.Subscript (.List es p) (.Call (.Name "_law_take" q) [.Name "_law_box_here" q2,.Constant (.int 10) j q3] [] q4) pos)) ps]∧∀ (env:Env) (PE':Expr→TE→Prop) (PA':List Expr→TA→Prop),
  (∀ j pos,PE' (.Constant .none j pos) (tC .non))→(∀ i j pos,PE' (.Constant (.int i) j pos) (tC (.int i)))→(∀ b j pos,PE' (.Constant (.bool b) j pos) (tC (.bl b)))→(∀ x j pos,PE' (.Constant (.str x) j pos) (tC (.str x))) →
  (∀ es pos t,PA' es t→PE' (.List es pos) (qgj t))→(∀ es x1 pos t,PA' es t→PE' (.Tuple es x1 pos) (qgi t))→(∀ pos,PE' (.Dict [] [] pos) qd7)→(∀ i j p pos,PE' (.UnaryOp .USub (.Constant (.int i) j p) pos) (tUn (rU fun i=>.int (-i)) (tC (.int i))))→PA' [] qeZ →
  (∀ e es te t,PE' e te→PA' es t→starEach (e::es) env=(false,eval e env)::starEach es env→PA' (e::es) (qaq te t)) →
  PA' es (qaq (tC .non) (qaq (tC (.int 0)) (qaq (tC (.bl true)) (qaq (tC (.str "")) (qaq (tC (.str "A")) (qaq (qgj (qaq (tC (.str "a")) qeZ)) (qaq (qgi (qaq (tC (.str "a")) (qaq (tC (.str "b")) qeZ))) (qaq qd7 (qaq (tUn (rU fun i=>.int (-i)) (tC (.int 1))) (qaq (tC (.str "zzzzzzz")) qeZ)))))))))):=
 ⟨_,_,_,_,_,_,_,_,_,rfl,fun env PE' PA' hn hi hb hs hl ht hd hu h0 hc=>hc _ _ _ _ (hn _ _) (hc _ _ _ _ (hi _ _ _) (hc _ _ _ _ (hb _ _ _) (hc _ _ _ _ (hs _ _ _) (hc _ _ _ _ (hs _ _ _) (hc _ _ _ _ (hl _ _ _ (hc _ _ _ _ (hs _ _ _) h0 rfl)) (hc _ _ _ _ (ht _ _ _ _ (hc _ _ _ _ (hs _ _ _) (hc _ _ _ _ (hs _ _ _) h0 rfl) rfl)) (hc _ _ _ _ (hd _) (hc _ _ _ _ (hu _ _ _ _) (hc _ _ _ _ (hs _ _ _) h0 rfl) rfl) rfl) rfl) rfl) rfl) rfl) rfl) rfl) rfl⟩
theorem ok_odd4 {f:Addr} {fd:FuncData} (F:Fun K "_law_odd" "_law_odd" qaz f fd) (D_l_take:DefOk P w K mg base CX0 1 "_law_take" ["_law_box_here", "_law_many"] qaN):FnOk P w K mg base CX0 2 f fd ["_law_box_here"] qep:=by
 refine F.ok sc_l_odd (fun vs H Q E h=>?_) fun cdv A outer s H vs Q E hr h=>?_
 ·obtain ⟨p,rfl,_⟩:=h;rfl
 ·obtain ⟨p,rfl,hB,q⟩:=h
  have hu:=zR hr
  obtain ⟨es,lp,q0,q2,j0,q3,q4,pos0,ps0,hbody,hPA⟩:=odd_parts
  rw [hbody]
  refine ⟨_,(qf (qk (qA (qB (K:=K) rfl hu) (qQ (hPA _ _ _ (fun _ _=>qeW) (fun _ _ _=>qg) (fun _ _ _=>zS) (fun _ _ _=>jj) (fun _ _ _ h=>qQ h) (fun _ _ _ _ h=>qG h) (fun _=>qbN) (fun _ _ _ _=>qdH qbA qg) qb fun _ _ _ _ ha hr hs=>qa ha hr hs)) (qp D_l_take (hm hr) qx (qa (pv 0) (qa qg qb))) (fun _ _=>rfl)))),?_⟩
  walk_at "vc"
  refine ⟨by show 1≤sizeLine;decide,fun l1 h1=>?_⟩
  have b1:=(BB.refl hB).new (o:=.lst [.str "a"]) h1
  have n1:=hB.apart h1
  have f1:=h1
  have e1:upd H l1 (.lst [.str "a"]) l1=some (.lst [.str "a"]):=qc
  generalize upd H l1 (.lst [.str "a"])=H1 at b1 e1 ⊢
  walk_at "vc"
  refine ⟨by show 2≤sizeLine;decide,fun t1 h2=>?_⟩
  have b2:=b1.new (o:=.tup [.str "a",.str "b"]) h2
  have n2:=b1.apart h2
  have f2:=b1.free h2
  have s2:=qE (L2.Same.refl H1) (o:=.tup [.str "a",.str "b"]) h2
  have e2:upd H1 t1 (.tup [.str "a",.str "b"]) t1=some (.tup [.str "a",.str "b"]):=qc
  replace e1:=s2 _ _ e1
  generalize upd H1 t1 (.tup [.str "a",.str "b"])=H2 at b2 e1 e2 ⊢
  clear s2 b1 h2
  walk_at "vc"
  intro d1 h3
  have b3:=b2.new (o:=.dK []) h3
  have n3:=b2.apart h3
  have f3:=b2.free h3
  have s3:=qE (L2.Same.refl H2) (o:=.dK []) h3
  have e3:upd H2 d1 (.dK []) d1=some (.dK []):=qc
  replace e1:=s3 _ _ e1
  replace e2:=s3 _ _ e2
  generalize upd H2 d1 (.dK [])=H3 at b3 e1 e2 e3 ⊢
  clear s3 b2 h3
  walk_at "vc"
  refine vU ?_
  walk_at "vc"
  refine ⟨by show 10≤sizeLine;decide,fun L h4=>?_⟩
  generalize hxs:[V.non,V.int 0,V.bl true,V.str "",V.str "A",V.ref l1,V.ref t1,V.ref d1,V.int (-1),V.str "zzzzzzz"]=xs
  have b4:=b3.new (o:=.lst xs) h4
  have n4:=b3.apart h4
  have s4:=qE (L2.Same.refl H3) (o:=.lst xs) h4
  have e4:upd H3 L (.lst xs) L=some (.lst xs):=qc
  replace e1:=s4 _ _ e1
  replace e2:=s4 _ _ e2
  replace e3:=s4 _ _ e3
  generalize upd H3 L (.lst xs)=H4 at b4 e1 e2 e3 e4 ⊢
  clear s4 b3 h4
  walk_at "vc"
  refine ⟨p,10,rfl,b4.2,by decide,by decide,fun r H5 r0 r1 b5=>?_⟩
  replace e1:=b5.1 _ _ n1 e1
  replace e2:=b5.1 _ _ n2 e2
  replace e3:=b5.1 _ _ n3 e3
  replace e4:=b5.1 _ _ n4 e4
  have hl:xs.length=10:=by rw [← hxs];rfl
  obtain ⟨v,ix,hv⟩:=qas (xs:=xs) r0 (by omega)
  refine .inl (zX e4 ix ?_)
  have hm:=List.mem_of_getElem? hv
  rw [← hxs] at hm
  simp only [List.mem_cons,List.not_mem_nil,or_false] at hm
  refine q v H5 (b4.trans b5) ?_ (by rcases hm with rfl | rfl | rfl | rfl | rfl | rfl | rfl | rfl | rfl | rfl<;>first | rfl | decide +kernel) (fun s e=>by rcases hm with rfl | rfl | rfl | rfl | rfl | rfl | rfl | rfl | rfl | rfl<;>cases e<;>simp)
  rcases hm with rfl | rfl | rfl | rfl | rfl | rfl | rfl | rfl | rfl | rfl
  ·exact .flat rfl fun s e=>by cases e
  ·exact .flat rfl fun s e=>by cases e
  ·exact .flat rfl fun s e=>by cases e
  ·exact .str (by decide +kernel)
  ·exact .str (by decide +kernel)
  ·exact .lst (NewH.of f1 e1) n1 (fun x hx=>by rw [List.mem_singleton.mp hx];exact .str (by decide +kernel)) (by decide)
  ·refine .tup (NewH.of f2 e2) n2 (fun x hx=>?_) (by decide)
   simp only [List.mem_cons,List.not_mem_nil,or_false] at hx
   rcases hx with rfl | rfl<;>exact .str (by decide +kernel)
  ·exact .dct (NewH.of f3 e3) n3
  ·exact .flat rfl fun s e=>by cases e
  ·exact .str (by decide +kernel)
theorem qcx:∀ {l m:List Str},l.Nodup→(∀ x∈l,x∈m)→l.length≤m.length
 | [],_,_,_=>Nat.zero_le _
 | x::r,m,hn,h=>by
  obtain ⟨h1,h2⟩:=List.nodup_cons.mp hn
  have hx:=h x List.mem_cons_self
  have ih:=qcx (l:=r) (m:=m.erase x) h2 fun y hy=>(List.mem_erase_of_ne (fun e=>h1 (by rw [← e];exact hy))).mpr (h y (List.mem_cons_of_mem _ hy))
  rw [List.length_erase_of_mem hx] at ih
  have:0 < m.length:=List.length_pos_of_mem hx
  simp only [List.length_cons]
  omega
theorem zc (c:Str) (ss:List Str):inV (.str c) (ss.map V.str)=decide (c∈ss):=by
 unfold inV
 rw [List.any_map,Bool.eq_iff_iff,List.any_eq_true,decide_eq_true_iff]
 constructor
 ·rintro ⟨y,hy,e⟩
  have:y=c:=eq_of_beq e
  rw [← this];exact hy
 ·intro h
  exact ⟨c,h,beq_self_eq_true c⟩
theorem jl (ss:List Str):(ss.map V.str).all zt=true:=by rw [List.all_map];exact List.all_eq_true.mpr fun _ _=>rfl
def qbo:Sp:=fun vs H Q _=>∃ (l:Addr) (ss:List Str),vs=[.ref l]∧H l=some (.lst (ss.map V.str))∧ss.length≤14∧∀ (x:Str) (H':Hp),L2.Same H H'→jC x=true→x∉ss→Q (.str x) H'
def signs:List Str:=("abcdefghijklmno":Str).cps.toList.map fun c=>⟨#[c]⟩
theorem signs_nodup:signs.Nodup:=by decide +kernel
theorem qbp:signs.length=15:=by decide +kernel
theorem ok_fresh {f:Addr} {fd:FuncData} (F:Fun K "_law_fresh" "_law_fresh" zp f fd):FnOk P w K mg base CX0 1 f fd ["_law_names_here"] qbo:=by
 refine F.ok sc_l_fresh (fun vs H Q E h=>?_) fun cdv A outer s H vs Q E hr h=>?_
 ·obtain ⟨l,ss,rfl,_⟩:=h;rfl
 ·obtain ⟨l,ss,rfl,hl,few,q⟩:=h
  have hu:=zR hr
  refine ⟨_,(qf (qk (qA (qB (K:=K) rfl hu) (jW (sc:=qe zp) (XN:=["_law_names_here"]) ["_law_sign", "_law_names_here"] 1 [0] rfl rfl rfl (by decide +kernel) rfl (by decide +kernel)
  (jh (K:=K) rfl jj) (fun _ _ _ _=>(qv (i:=0) (show (["_law_sign", "_law_names_here"]:List Str).Nodup by decide +kernel) rfl (Or.inl rfl))) je
  (fun _ _ _ _=>(jx (qo (qaf (K:=K) rfl hu) (pv 0) (pv 1) (by with_unfolding_all rfl))))
  (fun _ _ _ _=>(pv 0))) qg (fun _ _=>rfl)))),?_⟩
  walk_at "vc"
  refine qdb (fun i ys H'=>H'=H∧ys=((signs.take i).filter fun c=>!decide (c∈ss)).map V.str) ⟨rfl,rfl⟩ (fun i c ys H' hc hp=>?_) fun ys H' hp=>?_
  ·obtain ⟨rfl,rfl⟩:=hp
   walk_at "vc"
   have e':signs[i]?=some (⟨#[c]⟩:Str):=by
    unfold signs
    rw [List.getElem?_map]
    have:("abcdefghijklmno":Str).cps.toList[i]?=some c:=by simpa using hc
    rw [this];rfl
   have htk:signs.take (i + 1)=signs.take i++[⟨#[c]⟩]:=by rw [List.take_add_one,e'];rfl
   refine .inl ⟨l,_,rfl,.inl (SqL.of hl),rfl,jl ss,?_⟩
   rw [zc]
   walk_at "vc"
   refine qD (fun h=>?_) fun h=>?_
   ·walk_at "vc"
    refine ⟨?_,rfl,?_⟩
    ·rw [List.length_map]
     refine qh (Nat.le_trans (List.length_filter_le _ _) ?_)
     rw [List.length_take,qbp]
     omega
    ·rw [htk,List.filter_append,List.map_append]
     have:(!decide ((⟨#[c]⟩:Str)∈ss))=true:=h
     simp [this]
   ·refine ⟨rfl,?_⟩
    rw [htk,List.filter_append]
    have:(!decide ((⟨#[c]⟩:Str)∈ss))=false:=by simpa using h
    simp [this]
  ·obtain ⟨rfl,rfl⟩:=hp
   have ht:signs.take ("abcdefghijklmno":Str).cps.size=signs:=by
    rw [show ("abcdefghijklmno":Str).cps.size=signs.length by decide +kernel,List.take_length]
   rw [ht]
   have hne:∃ x r,(signs.filter fun c=>!decide (c∈ss))=x::r:=by
    cases h:signs.filter fun c=>!decide (c∈ss) with
    | cons x r=>exact ⟨x,r,rfl⟩
    | nil =>
     have hall:∀ x∈signs,x∈ss:=fun x hx=>by
      have:=List.filter_eq_nil_iff.mp h x hx
      simpa using this
     have:=qcx signs_nodup hall
     rw [qbp] at this
     omega
   obtain ⟨x,r,hx⟩:=hne
   have hxm:x∈signs∧x∉ss:=by
    have:x∈signs.filter fun c=>!decide (c∈ss):=by rw [hx];exact List.mem_cons_self
    obtain ⟨a,b⟩:=List.mem_filter.mp this
    exact ⟨a,by simpa using b⟩
   have hxn:jC x=true:=(show ∀ x∈signs,jC x=true by decide +kernel) x hxm.1
   refine ⟨?_,fun l2 h2=>?_⟩
   ·rw [List.length_map]
    refine Nat.le_of_lt (qh (Nat.le_trans (List.length_filter_le _ _) ?_))
    rw [qbp]
    omega
   ·rw [hx]
    walk_at "vc"
    refine .inl (zX (v:=.str x) qc (jQ (j:=0) rfl) ?_)
    exact q x _ (qE (L2.Same.refl H') h2) hxn hxm.2
end
abbrev za:Stmt:=top 25
theorem sc_l_names:FnScope ["_law_box_here", "_law_many", "_law_letters", "_law_way", "_law_shift", "_law_step", "_law_stem", "_law_ahead", "_law_names_here", "_law_k", "_law_name"] ["_law_box_here", "_law_many"] (qe za):=⟨rfl,rfl,rfl,by decide +kernel,rfl,by decide +kernel,by decide +kernel⟩
theorem slice_ix (k n:Nat):Builtin.Str.strSliceIndices none (some (k:Int)) 1 n=List.range (min k n):=by
 unfold Builtin.Str.strSliceIndices sliceRange
 simp only [show (1:Int) > 0 by decide,if_true]
 rw [if_neg (show ¬ ((k:Int) < 0) by omega)]
 have e1:max 0 (min (k:Int) n)=((min k n:Nat):Int):=by omega
 rw [e1]
 have e2:(fun (j:Nat)=>((0:Int) + 1 * (j:Int)).toNat)=id:=by funext j;show _=j;omega
 rw [e2,List.map_id]
 congr 1
 split
 ·rw [Int.ediv_one];omega
 ·omega
theorem qeq (a:Array Nat):∀ m,m≤a.size→(List.range m).filterMap (a[·]?)=a.toList.take m
 | 0,_=>rfl
 | m + 1,h=>by
  rw [List.range_succ,List.filterMap_append,qeq a m (by omega),List.take_add_one]
  congr 1
  have e:a[m]?=some a[m]:=Array.getElem?_eq_getElem (by omega)
  have e':a.toList[m]?=some a[m]:=by rw [Array.getElem?_toList];exact e
  rw [e',List.filterMap_cons,e]
  rfl
theorem qak (z:Str) (k:Nat):(Txt.slice z none (some (k:Int))).cps.toList=z.cps.toList.take k:=by
 unfold Txt.slice
 rw [slice_ix]
 have hz:z.length=z.cps.toList.length:=by simp [Str.length]
 split
 ·rename_i h
  rw [List.length_range] at h
  have:min k z.length=z.length:=by simpa using h
  rw [List.take_of_length_le (by omega)]
 ·show (List.filterMap _ _).toArray.toList=_
  rw [qeq z.cps (min k z.length) (Nat.min_le_right _ _)]
  show z.cps.toList.take (min k z.length)=_
  by_cases hk:k≤z.length
  ·rw [Nat.min_eq_left hk]
  ·rw [Nat.min_eq_right (by omega),List.take_of_length_le (by omega),List.take_of_length_le (by omega)]
theorem qaO (a b:Str):(a++b).cps.toList=a.cps.toList++b.cps.toList:=by
 show (a.cps++b.cps).toList=_
 exact Array.toList_append
theorem qdt:∀ {xs:List Str},(∀ x∈xs,x.cps.toList.all sg=true)→(Str.join "" xs).cps.toList.all sg=true
 | [],_=>rfl
 | [x],h=>h x (by simp)
 | x::y::r,h=>by
  have e:Str.join "" (x::y::r)=x++""++Str.join "" (y::r):=rfl
  rw [e,qaO,qaO,List.all_append,List.all_append,h x (by simp),qdt fun z hz=>h z (List.mem_cons_of_mem _ hz)]
  decide +kernel
theorem qfE {c:Nat} (h:97≤c) (h2:c≤122):sg c=true:=by
 have key:∀ i,i < 26→sg (97 + i)=true:=by decide +kernel
 have:=key (c - 97) (by omega)
 rwa [show 97 + (c - 97)=c by omega] at this
theorem join_len {xs:List Str} (h:∀ x∈xs,x.length=1):(Txt.join "" xs).length=xs.length:=by
 have e:Txt.join "" xs=Str.join "" xs:=beq_iff_eq.mp (join_plain_closes "" xs)
 rw [e]
 cases xs with
 | nil=>rfl
 | cons a l =>
  rw [len_join_cons]
  have key:∀ l:List Str,(∀ x∈l,x.length=1)→(l.map (·.length)).sum=l.length:=by
   intro l
   induction l with
   | nil=>intro _;rfl
   | cons a l ih =>
    intro h
    rw [List.map_cons,List.sum_cons,h a List.mem_cons_self,ih fun x hx=>h x (List.mem_cons_of_mem _ hx),List.length_cons]
    omega
  have z:("":Str).length=0:=by decide +kernel
  rw [key _ h,z]
  omega
theorem sum_ones {xs:List Str} (h:∀ x∈xs,x.length=1):(xs.map (·.length)).sum=xs.length:=by
 induction xs with
 | nil=>rfl
 | cons a l ih =>
  rw [List.map_cons,List.sum_cons,h a List.mem_cons_self,ih fun x hx=>h x (List.mem_cons_of_mem _ hx),List.length_cons]
  omega
def Signs (p:Addr) (H:Hp) (i:Nat) (ys:List V) (H':Hp):Prop:=BB p H H'∧∃ xs:List Str,ys=xs.map V.str∧xs.length=i∧∀ x∈xs,x.length=1∧x.cps.toList.all sg=true
theorem Signs.start {p:Addr} {H:Hp} (h:Box H p):Signs p H 0 [] H:=⟨BB.refl h,[],rfl,rfl,fun _ h=>by cases h⟩
theorem Signs.more {p:Addr} {H H1 H2:Hp} {i:Nat} {ys:List V} {c:Nat} (h:Signs p H i ys H1) (b:BB p H1 H2) (hc:sg c=true):Signs p H (i + 1) (ys++[.str ⟨#[c]⟩]) H2:=by
 obtain ⟨hb,xs,rfl,hl,h1⟩:=h
 refine ⟨hb.trans b,xs++[⟨#[c]⟩],by rw [List.map_append];rfl,by rw [List.length_append,hl];rfl,fun x hx=>?_⟩
 rcases List.mem_append.mp hx with z | z
 ·exact h1 x z
 ·rw [List.mem_singleton.mp z];exact ⟨rfl,by simp [hc]⟩
theorem Signs.len {p:Addr} {H H1:Hp} {i:Nat} {ys:List V} (h:Signs p H i ys H1):ys.length=i:=by
 obtain ⟨_,xs,rfl,hl,_⟩:=h
 rw [List.length_map,hl]
def L26:Str:="abcdefghijklmnopqrstuvwxyz"
theorem qfk {i:Int} (h0:0≤i) (h1:i < 26):atI L26.cps.toList i=some (97 + i.toNat):=by
 obtain ⟨n,rfl⟩:=Int.eq_ofNat_of_zero_le h0
 have key:∀ n,n < 26→L26.cps.toList[n]?=some (97 + n):=by decide +kernel
 rw [Int.toNat_natCast]
 exact jQ (key n (by omega))
theorem qdu {x:Str} {l:List Nat} (e:x.cps.toList=l) (h1:1≤l.length) (h6:l.length≤6) (h:l.all sg=true):jC x=true:=by
 have hl:x.length=l.length:=by rw [← e];simp [Str.length]
 unfold jC
 rw [if_pos ⟨by omega,by omega⟩,e]
 exact h
theorem qcy {ss:List Str} (h:∀ (i j:Nat) (s:Str),ss[i]?=some s→ss[j]?=some s→i=j):ss.Nodup:=by
 refine List.pairwise_iff_getElem.mpr fun i j hi hj hij e=>?_
 have:=h i j ss[j] (by rw [List.getElem?_eq_getElem hi,e]) (List.getElem?_eq_getElem hj)
 omega
theorem qdv {step sh a b:Int} (hs:step∈[(1:Int),3,5,7,9,11,15,25]) (ha:0≤a) (hb:0≤b) (ha':a < 26) (hb':b < 26) (e:(sh + step * a) % 26=(sh + step * b) % 26):a=b:=by
 simp only [List.mem_cons,List.not_mem_nil,or_false] at hs
 rcases hs with rfl | rfl | rfl | rfl | rfl | rfl | rfl | rfl<;>omega
def NL (p:Addr) (H':Hp) (l:Addr) (ss:List Str):Prop:=H' l=some (.lst (ss.map V.str))∧l≠p
structure NOk (ss:List Str):Prop where
 few:ss.length≤14
 nd:ss.Nodup
 nm:∀ s∈ss,jC s=true
def qer:Sp:=fun vs H Q _=>∃ (p:Addr) (m:Int),vs=[.ref p,.int m]∧Box H p∧0≤m∧m≤14∧∀ (l:Addr) (ss:List Str) (H':Hp),BB p H H'→H l=none→NL p H' l ss→NOk ss→Q (.ref l) H'
section
variable {P:Program} {w:World} {K:W.Frag} {mg:Str→Option Value} {base:Heap} {cc:Nat→Addr} {cw:Addr}
theorem ok_names {f:Addr} {fd:FuncData} (F:Fun K "_law_names" "_law_names" za f fd) (T:Txt K mg cc cw) (D_l_take:DefOk P w K mg base CX0 1 "_law_take" ["_law_box_here", "_law_many"] qaN):FnOk P w K mg base CX0 2 f fd ["_law_box_here", "_law_many"] qer:=by
 refine F.ok sc_l_names (fun vs H Q E h=>?_) fun cdv A outer s H vs Q E hr h=>?_
 ·obtain ⟨p,m,rfl,_⟩:=h;rfl
 ·obtain ⟨p,m,rfl,hB,m0,m14,q⟩:=h
  have hu:=zR hr
  refine ⟨_,(qd (qu (i:=2) sc_l_names.nd rfl (Or.inr rfl) jj)
 (qd (qu (i:=3) sc_l_names.nd rfl (Or.inl rfl) (qp D_l_take (hm hr) qx (qa (pv 0) (qa qg qb))))
 (qd (qu (i:=4) sc_l_names.nd rfl (Or.inr rfl) (qp D_l_take (hm hr) qx (qa (pv 0) (qa qg qb))))
 (qd (qu (i:=5) sc_l_names.nd rfl (Or.inr rfl) (qA (qB (K:=K) rfl hu) (qQ (qa qg (qa qg (qa qg (qa qg (qa qg (qa qg (qa qg (qa qg qb))))))))) (qp D_l_take (hm hr) qx (qa (pv 0) (qa qg qb))) (fun _ _=>rfl)))
 (qd (qu (i:=6) sc_l_names.nd rfl (Or.inr rfl) (qdQ (K:=K) rfl PySem.F.plainAttrs_str PySem.F.slot_str_join PySem.F.type_str_join (k_join (K:=K) rfl) jj (qa (jW (sc:=qe za) (XN:=["_law_box_here", "_law_many", "_law_letters", "_law_way", "_law_shift", "_law_step", "_law_stem", "_law_ahead", "_law_names_here", "_law_k", "_law_name"]) ["_law_k", "_law_letters", "_law_box_here"] 1 [2,0] rfl rfl rfl (by decide +kernel) rfl (by decide +kernel)
  (jt rfl T.b_range (qa qg qb)) (fun _ _ _ _=>(qv (i:=0) (show (["_law_k", "_law_letters", "_law_box_here"]:List Str).Nodup by decide +kernel) rfl (Or.inl rfl))) je
  (fun _ _ _ _=>zK)
  (fun _ _ _ _=>(qA (qB (K:=K) rfl hu) (pv 1) (qp D_l_take (hm hr) qx (qa (pv 2) (qa qg qb))) (fun _ _=>rfl)))) qb)))
 (qd (qF (qo (zn (K:=K) rfl hu) (pv 3) qg (qy _)) (qf (qk (jW (sc:=qe za) (XN:=["_law_box_here", "_law_many", "_law_letters", "_law_way", "_law_shift", "_law_step", "_law_stem", "_law_ahead", "_law_names_here", "_law_k", "_law_name"]) ["_law_k", "_law_letters", "_law_stem", "_law_shift", "_law_step"] 1 [2,6,4,5] rfl rfl rfl (by decide +kernel) rfl (by decide +kernel)
  (jt rfl T.b_range (qa (pv 1) qb)) (fun _ _ _ _=>(qv (i:=0) (show (["_law_k", "_law_letters", "_law_stem", "_law_shift", "_law_step"]:List Str).Nodup by decide +kernel) rfl (Or.inl rfl))) je
  (fun _ _ _ _=>zK)
  (fun _ _ _ _=>(qL (zu (K:=K) rfl) (qA (qB (K:=K) rfl hu) (pv 1) (qL zV (qL (zu (K:=K) rfl) (pv 3) (qL qbw (pv 4) (qL qdU (pv 0) qg))) qg) (fun _ _=>rfl)) (j2 (qeH (K:=K) rfl) (pv 2) zr (jF (qL zV (pv 0) qg)))))))) qi)
 (qd (qu (i:=7) sc_l_names.nd rfl (Or.inl rfl) (qp D_l_take (hm hr) qx (qa (pv 0) (qa qg qb))))
 (qd (qu (i:=8) sc_l_names.nd rfl (Or.inl rfl) (qQ qb))
 (qd (jP PassesOwn.never rfl (jt rfl T.b_range (qa (pv 1) qb)) (qv (i:=9) sc_l_names.nd rfl (Or.inl rfl))
 (qd (qu (i:=10) sc_l_names.nd rfl (Or.inl rfl) (qL (zu (K:=K) rfl) (j2 (qeH (K:=K) rfl) (pv 6) zr (jF (pv 7))) (qA (qB (K:=K) rfl hu) (pv 2) (qL zV (qL (zu (K:=K) rfl) (pv 4) (qL qbw (pv 5) (pv 9))) qg) (fun _ _=>rfl))))
 (qf (jU (qdQ (K:=K) rfl PySem.F.plainAttrs_list PySem.F.slot_list_append PySem.F.type_list_append zx (pv 8) (qa (qL (zu (K:=K) rfl) (pv 10) (j2 (qeH (K:=K) rfl) (pv 6) zr (jF (qL qbw (qp D_l_take (hm hr) qx (qa (pv 0) (qa (qL qeY qg (pv 7)) qb))) (qL qeY (pv 3) qg))))) qb))))))
 (qf (qk (pv 8)))))))))))),?_⟩
  walk_at "vc"
  refine ⟨p,3,rfl,hB,by decide,by decide,fun way H1 w0 w1 b1=>?_⟩
  walk_at "vc"
  refine ⟨p,26,rfl,b1.2,by decide,by decide,fun shift H2 sh0 sh1 b2=>?_⟩
  replace b2:=b1.trans b2
  walk_at "vc"
  refine ⟨by show 8≤sizeLine;decide,fun l8 h8=>?_⟩
  generalize hxs:[V.int 1,V.int 3,V.int 5,V.int 7,V.int 9,V.int 11,V.int 15,V.int 25]=xs
  have b3:=b2.new (o:=.lst xs) h8
  have n8:=b2.apart h8
  have e8:upd H2 l8 (.lst xs) l8=some (.lst xs):=qc
  generalize upd H2 l8 (.lst xs)=H3 at b3 e8 ⊢
  walk_at "vc"
  refine ⟨p,8,rfl,b3.2,by decide,by decide,fun r H4 r0 r1 b4=>?_⟩
  replace e8:=b4.1 _ _ n8 e8
  replace b4:=b3.trans b4
  have hl8:xs.length=8:=by rw [← hxs];rfl
  obtain ⟨v,ix,hv⟩:=qas (xs:=xs) r0 (by omega)
  obtain ⟨step,rfl,hst,st0,st1⟩:∃ i:Int,v=.int i∧i∈[(1:Int),3,5,7,9,11,15,25]∧0≤i∧i≤25:=by
   have hm:=List.mem_of_getElem? hv
   rw [← hxs] at hm
   simp only [List.mem_cons,List.not_mem_nil,or_false] at hm
   rcases hm with rfl | rfl | rfl | rfl | rfl | rfl | rfl | rfl<;>exact ⟨_,rfl,by decide,by decide,by decide⟩
  refine .inl (zX e8 ix ?_)
  clear hv ix hxs e8
  walk_at "vc"
  refine ⟨rfl,?_⟩
  walk_at "vc"
  refine ⟨5,rfl,by decide,by decide,qae (lo:=0) (n:=5) (Signs p H4) (Signs.start b4.2) (fun i ys H' hi hs=>?_) fun ys H5 hs=>?_⟩
  ·walk_at "vc"
   refine qbC ?_
   walk_at "vc"
   refine ⟨p,26,rfl,hs.1.2,by decide,by decide,fun r H2' r0 r1 hb=>?_⟩
   refine .inl (qgW (by decide +kernel) (qfk r0 r1) ?_)
   exact ⟨by rw [hs.len];exact qh (by omega),hs.more hb (qfE (by omega) (by omega))⟩
  ·refine ⟨by rw [hs.len];decide,fun l5 h5=>?_⟩
   obtain ⟨hb5,zs,rfl,hn,h1⟩:=hs
   replace b4:=(b4.trans hb5).new (o:=.lst (zs.map V.str)) h5
   walk_at "vc"
   refine ⟨_,l5,zs,rfl,rfl,SqL.of qc,by rw [sum_ones fun x hx=>(h1 x hx).1,show ("":Str).length=0 by decide +kernel];omega,?_⟩
   have lstem:(Txt.join "" zs).length=5:=by rw [join_len fun x hx=>(h1 x hx).1];omega
   have astem:(Txt.join "" zs).cps.toList.all sg=true:=by
    have e:Txt.join "" zs=Str.join "" zs:=beq_iff_eq.mp (join_plain_closes "" zs)
    rw [e]
    exact qdt fun x hx=>(h1 x hx).2
   generalize Txt.join "" zs=stem at lstem astem ⊢
   have lS:stem.cps.toList.length=5:=by rw [← lstem];simp [Str.length]
   have tkS:∀ k,(stem.cps.toList.take k).all sg=true:=fun k=>List.all_eq_true.mpr fun c hc=>List.all_eq_true.mp astem c (List.mem_of_mem_take hc)
   have hsl:∀ k:Nat,(Txt.slice stem none (some (k:Int))).length=min k 5:=fun k=>by
    have:(Txt.slice stem none (some (k:Int))).length=(Txt.slice stem none (some (k:Int))).cps.toList.length:=by simp [Str.length]
    rw [this,qak,List.length_take,lS]
   generalize upd H5 l5 (.lst (zs.map V.str))=H6 at b4 ⊢
   have letter:∀ {i:Int} {H:Hp} {Q:VK},0≤i→i < 26→Q (.str ⟨#[97 + i.toNat]⟩) H→qgX K (.str L26) (.int i) H Q:=fun h0 h1 k=>.inl (qgW (by decide +kernel) (qfk h0 h1) k)
   walk_at "vc"
   refine .inl (.inl (.inl ⟨rfl,rfl,?_⟩))
   walk_at "vc"
   refine qD (fun hw=>?_) fun hw=>?_
   ·walk_at "vc"
    refine ⟨m,rfl,by omega,by omega,qae (lo:=0) (fun i ys H'=>H'=H6∧∃ ss:List Str,ys=ss.map V.str∧ss.length=i∧∀ (j:Nat) s,ss[j]?=some s→s.cps.toList=(97 + ((shift + step * ((j:Int) / 6)) % 26).toNat)::stem.cps.toList.take (j % 6)) ⟨rfl,[],rfl,rfl,by simp⟩ (fun i ys H' hi hs=>?_) fun ys H' hs=>?_⟩
    ·obtain ⟨rfl,ss,rfl,hsl',hss⟩:=hs
     walk_at "vc"
     refine qbC ?_
     walk_at "vc"
     refine vI ⟨by decide,by decide⟩ ?_
     walk_at "vc"
     refine qbO (.inl ⟨by omega,by omega⟩) ?_
     walk_at "vc"
     refine vI (by decide) ?_
     walk_at "vc"
     refine letter (Int.emod_nonneg _ (by decide)) (Int.emod_lt_of_pos _ (by decide)) ?_
     walk_at "vc"
     refine vI (by decide) ?_
     walk_at "vc"
     refine qgz (Nat.le_trans (Nat.le_of_eq lstem) (by decide)) ?_
     rw [Int.zero_add,show ((i:Int) % 6)=((i % 6:Nat):Int) by omega]
     refine qfy (by rw [hsl];show 1 + _≤_;exact Nat.le_of_lt (qh (by omega))) ?_
     refine ⟨by rw [List.length_map,hsl'];exact qh (by omega),rfl,ss++[_],by rw [List.map_append];rfl,by rw [List.length_append,hsl'];rfl,fun j s hj=>?_⟩
     by_cases hlt:j < ss.length
     ·rw [List.getElem?_append_left hlt] at hj
      exact hss j s hj
     ·rw [List.getElem?_append_right (by omega)] at hj
      have h0:j - ss.length=0:=by have:=(List.getElem?_eq_some_iff.mp hj).1;simp at this;omega
      rw [h0] at hj
      cases hj
      have hji:j=i:=by omega
      subst hji
      rw [qaO,qak]
      rfl
    ·obtain ⟨rfl,ss,rfl,hsl',hss⟩:=hs
     refine ⟨by rw [List.length_map,hsl'];exact Nat.le_of_lt (qh (by omega)),fun l hl=>?_⟩
     refine q l ss _ (b4.new hl) (b4.free hl) ⟨qc,b4.apart hl⟩ ⟨by omega,qcy fun i j s hi hj=>?_,fun s hs=>?_⟩
     ·have ei:=hss i s hi
      have ej:=hss j s hj
      have li:=(List.getElem?_eq_some_iff.mp hi).1
      have lj:=(List.getElem?_eq_some_iff.mp hj).1
      rw [ei,List.cons.injEq] at ej
      obtain ⟨e1,e2⟩:=ej
      have e3:=congrArg List.length e2
      rw [List.length_take,List.length_take,lS] at e3
      have e4:(i:Int) / 6=(j:Int) / 6:=qdv (sh:=shift) hst (by omega) (by omega) (by omega) (by omega) (by
       have p1:=Int.emod_nonneg (shift + step * ((i:Int) / 6)) (show (26:Int)≠0 by decide)
       have p2:=Int.emod_nonneg (shift + step * ((j:Int) / 6)) (show (26:Int)≠0 by decide)
       omega)
      omega
     ·obtain ⟨j,hj,e⟩:=List.getElem_of_mem hs
      refine qdu (hss j s (by rw [List.getElem?_eq_getElem hj,e])) (by simp) (by simp [lS];omega) ?_
      rw [List.all_cons,tkS,qfE (by omega) (by have:=Int.emod_lt_of_pos (shift + step * ((j:Int) / 6)) (show (0:Int) < 26 by decide);omega)]
      rfl
   ·walk_at "vc"
    refine ⟨p,4,rfl,b4.2,by decide,by decide,fun ahead H7 a0 a1 b7=>?_⟩
    obtain ⟨ah,rfl⟩:=Int.eq_ofNat_of_zero_le a0
    replace b7:=b4.trans b7
    walk_at "vc"
    refine ⟨by decide,fun l hl=>?_⟩
    have b8:=b7.new (o:=.lst []) hl
    have nl:=b7.apart hl
    have hl0:=b7.free hl
    walk_at "vc"
    refine ⟨m,rfl,by omega,by omega,j6 (fun i σ H'=>BB p H H'∧∃ (ss:List Str) (x9 x10:Option V),σ=[some (.ref p),some (.int m),some (.str L26),some (.int way),some (.int shift),some (.int step),some (.str stem),some (.int (ah:Int)),some (.ref l),x9,x10]∧H' l=some (.lst (ss.map V.str))∧ss.length=i∧∀ (j:Nat) s,ss[j]?=some s→jC s=true∧s.cps.toList[ah]?=some (97 + ((shift + step * (j:Int)) % 26).toNat))
     ⟨b8,[],none,none,rfl,qc,rfl,by simp⟩ (fun i σ H8 hi hp=>?_) fun σ H8 hp=>?_⟩
    ·obtain ⟨b9,ss,x9,x10,rfl,hss,hsl',hk⟩:=hp
     walk_at "vc"
     refine qgz (Nat.le_trans (Nat.le_of_eq lstem) (by decide)) ?_
     walk_at "vc"
     refine qbO (.inl ⟨by omega,by omega⟩) ?_
     walk_at "vc"
     refine vI (by decide) ?_
     walk_at "vc"
     rw [Int.zero_add]
     refine letter (Int.emod_nonneg _ (by decide)) (Int.emod_lt_of_pos _ (by decide)) ?_
     refine qfy (by rw [hsl];show _ + 1≤_;exact Nat.le_of_lt (qh (by omega))) ?_
     have eNm:(Txt.slice stem none (some (ah:Int))++(⟨#[97 + ((shift + step * (i:Int)) % 26).toNat]⟩:Str)).cps.toList=stem.cps.toList.take ah++[97 + ((shift + step * (i:Int)) % 26).toNat]:=by rw [qaO,qak]
     have lNm:(Txt.slice stem none (some (ah:Int))++(⟨#[97 + ((shift + step * (i:Int)) % 26).toNat]⟩:Str)).length≤6:=by
      have:(Txt.slice stem none (some (ah:Int))++(⟨#[97 + ((shift + step * (i:Int)) % 26).toNat]⟩:Str)).length=(Txt.slice stem none (some (ah:Int))++(⟨#[97 + ((shift + step * (i:Int)) % 26).toNat]⟩:Str)).cps.toList.length:=by simp [Str.length]
      rw [this,eNm]
      simp [lS]
      omega
     generalize Txt.slice stem none (some (ah:Int))++(⟨#[97 + ((shift + step * (i:Int)) % 26).toNat]⟩:Str)=nm at eNm lNm ⊢
     walk_at "vc"
     refine ⟨.inl ⟨rfl,_,SqL.of hss⟩,?_⟩
     walk_at "vc"
     refine ⟨p,_,rfl,b9.2,by omega,by omega,fun r H9 r0 r1 b10=>?_⟩
     replace hss:=b10.1 _ _ nl hss
     replace b10:=b9.trans b10
     walk_at "vc"
     refine qbO (.inl ⟨by omega,by omega⟩) ?_
     walk_at "vc"
     refine qgz (Nat.le_trans (Nat.le_of_eq lstem) (by decide)) ?_
     have hw12:way=1∨way=2:=by
      have:¬ way=0:=fun e=>hw (by subst e;rfl)
      omega
     obtain ⟨k,hk5,ek⟩:∃ k:Nat,k≤5 - ah∧r * (way - 1)=(k:Int):=by
      rcases hw12 with rfl | rfl
      ·exact ⟨0,by omega,by omega⟩
      ·exact ⟨r.toNat,by omega,by omega⟩
     rw [ek]
     refine qfy (by rw [hsl];exact Nat.le_of_lt (qh (by omega))) ?_
     refine ⟨l,_,_,rfl,rfl,hss,by rw [List.length_map,hsl'];exact qh (by omega),?_⟩
     refine ⟨b10.put hl0 nl,ss++[_],_,_,rfl,by rw [qc,List.map_append];rfl,by rw [List.length_append,hsl'];rfl,fun j s hj=>?_⟩
     by_cases hlt:j < ss.length
     ·rw [List.getElem?_append_left hlt] at hj
      exact hk j s hj
     ·rw [List.getElem?_append_right (by omega)] at hj
      have h0:j - ss.length=0:=by have:=(List.getElem?_eq_some_iff.mp hj).1;simp at this;omega
      rw [h0] at hj
      cases hj
      have hji:j=i:=by omega
      subst hji
      have eF:(nm++Txt.slice stem none (some (k:Int))).cps.toList=stem.cps.toList.take ah++[97 + ((shift + step * (j:Int)) % 26).toNat]++stem.cps.toList.take k:=by rw [qaO,eNm,qak]
      have lt26:=Int.emod_lt_of_pos (shift + step * (j:Int)) (show (0:Int) < 26 by decide)
      refine ⟨qdu eF (by simp;omega) (by simp [lS];omega) ?_,?_⟩
      ·rw [List.all_append,List.all_append,tkS,tkS,List.all_cons,qfE (by omega) (by omega)]
       rfl
      ·rw [eF,List.append_assoc,List.getElem?_append_right (by rw [List.length_take];omega)]
       have:ah - (stem.cps.toList.take ah).length=0:=by rw [List.length_take,lS];omega
       rw [this]
       rfl
    ·obtain ⟨b9,ss,x9,x10,rfl,hss,hsl',hk⟩:=hp
     walk_at "vc"
     refine q l ss _ b9 hl0 ⟨hss,nl⟩ ⟨by omega,qcy fun i j s hi hj=>?_,fun s hs=>?_⟩
     ·have ei:=(hk i s hi).2
      have ej:=(hk j s hj).2
      have li:=(List.getElem?_eq_some_iff.mp hi).1
      have lj:=(List.getElem?_eq_some_iff.mp hj).1
      rw [ei,Option.some.injEq] at ej
      have e4:(i:Int)=(j:Int):=qdv (sh:=shift) hst (by omega) (by omega) (by omega) (by omega) (by
       have p1:=Int.emod_nonneg (shift + step * (i:Int)) (show (26:Int)≠0 by decide)
       have p2:=Int.emod_nonneg (shift + step * (j:Int)) (show (26:Int)≠0 by decide)
       omega)
      omega
     ·obtain ⟨j,hj,e⟩:=List.getElem_of_mem hs
      exact (hk j s (by rw [List.getElem?_eq_getElem hj,e])).1
end
abbrev qal:Stmt:=top 26
theorem sc_l_ties:FnScope ["_law_box_here", "_law_names_here", "_law_found", "_law_base", "_law_k", "_law_j"] ["_law_box_here", "_law_names_here"] (qe qal):=⟨rfl,rfl,rfl,by decide +kernel,rfl,by decide +kernel,by decide +kernel⟩
abbrev zD:Stmt:=top 27
theorem sc_l_drawn:FnScope ["_law_box_here", "_law_most", "_law_many", "_law_names_here"] ["_law_box_here", "_law_most"] (qe zD):=⟨rfl,rfl,rfl,by decide +kernel,rfl,by decide +kernel,by decide +kernel⟩
abbrev ju:Stmt:=top 28
theorem sc_l_shuffled:FnScope ["_law_box_here", "_law_ties_here", "_law_left", "_law_found"] ["_law_box_here", "_law_ties_here"] (qe ju):=⟨rfl,rfl,rfl,by decide +kernel,rfl,by decide +kernel,by decide +kernel⟩
theorem NL.bb {p l:Addr} {H H':Hp} {ss:List Str} (h:NL p H l ss) (b:BB p H H'):NL p H' l ss:=⟨b.1 _ _ h.2 h.1,h.2⟩
theorem NL.same {p l:Addr} {H H':Hp} {ss:List Str} (h:NL p H l ss) (s:L2.Same H H'):NL p H' l ss:=⟨s _ _ h.1,h.2⟩
def PrT (p:Addr) (H:Hp) (t:Addr) (ab:Str×Str):Prop:=t≠p∧H t=some (.tup [.str ab.1,.str ab.2])
def TL (p:Addr) (H:Hp) (l:Addr) (ts:List Addr) (tps:List (Str×Str)):Prop:=H l=some (.lst (ts.map V.ref))∧l≠p∧All2 (PrT p H) ts tps
theorem TL.bb {p l:Addr} {H H':Hp} {ts:List Addr} {tps:List (Str×Str)} (h:TL p H l ts tps) (b:BB p H H'):TL p H' l ts tps:=⟨b.1 _ _ h.2.1 h.1,h.2.1,h.2.2.mono fun t ab z=>⟨z.1,b.1 _ _ z.1 z.2⟩⟩
theorem TL.same {p l:Addr} {H H':Hp} {ts:List Addr} {tps:List (Str×Str)} (h:TL p H l ts tps) (s:L2.Same H H'):TL p H' l ts tps:=⟨s _ _ h.1,h.2.1,h.2.2.mono fun t ab z=>⟨z.1,s _ _ z.2⟩⟩
theorem PrT.put {p l:Addr} {H:Hp} {t:Addr} {ab:Str×Str} {xs ys:List V} (h:PrT p H t ab) (hl:H l=some (.lst xs)):PrT p (upd H l (.lst ys)) t ab:=⟨h.1,by rw [qr (qaS h.2 hl (by intro z;cases z))];exact h.2⟩
theorem TL.more {p l t:Addr} {H:Hp} {ts:List Addr} {tps:List (Str×Str)} {ab:Str×Str} (h:TL p H l ts tps) (ht:PrT p H t ab):TL p (upd H l (.lst (ts.map V.ref++[.ref t]))) l (ts++[t]) (tps++[ab]):=
 ⟨by rw [qc,List.map_append];rfl,h.2.1,(h.2.2.mono fun _ _ z=>z.put h.1).snoc (ht.put h.1)⟩
theorem TL.other {p l l':Addr} {H:Hp} {ts:List Addr} {tps:List (Str×Str)} {xs ys:List V} (h:TL p H l ts tps) (ne:l≠l') (hl:H l'=some (.lst xs)):TL p (upd H l' (.lst ys)) l ts tps:=⟨by rw [qr ne];exact h.1,h.2.1,h.2.2.mono fun _ _ z=>z.put hl⟩
theorem qcz {α β:Type} (f:α→β):∀ (l:List α) (k:Nat),(l.map f).eraseIdx k=(l.eraseIdx k).map f
 | [],_=>rfl
 | _::_,0=>rfl
 | a::r,k + 1=>congrArg (f a::·) (qcz f r k)
theorem All2.erase {α β:Type} {R:α→β→Prop} {l:List α} {m:List β} (h:All2 R l m) (k:Nat):All2 R (l.eraseIdx k) (m.eraseIdx k):=by
 refine ⟨by rw [List.length_eraseIdx,List.length_eraseIdx,h.len],fun j a b ha hb=>?_⟩
 rw [List.getElem?_eraseIdx] at ha hb
 split at ha
 ·rename_i hlt
  rw [if_pos hlt] at hb
  exact h.at_ j a b ha hb
 ·rename_i hlt
  rw [if_neg hlt] at hb
  exact h.at_ (j + 1) a b ha hb
theorem qbI {α:Type}:∀ (l:List α) (k:Nat) (h:k < l.length),(l[k]::l.eraseIdx k).Perm l
 | [],_,h=>absurd h (Nat.not_lt_zero _)
 | a::r,0,_=>.refl _
 | a::r,k + 1,h=>(List.Perm.swap a _ _).trans (.cons a (qbI r k (Nat.lt_of_succ_lt_succ h)))
theorem TL.less {p l:Addr} {H:Hp} {ts:List Addr} {tps:List (Str×Str)} (h:TL p H l ts tps) (k:Nat):TL p (upd H l (.lst ((ts.map V.ref).eraseIdx k))) l (ts.eraseIdx k) (tps.eraseIdx k):=
 ⟨by rw [qc,qcz],h.2.1,(h.2.2.erase k).mono fun _ _ z=>z.put h.1⟩
structure TOk (ss:List Str) (tps:List (Str×Str)):Prop where
 few:tps.length≤30
 ok:∀ ab∈tps,∃ j k:Nat,j < k∧ss[j]?=some ab.1∧ss[k]?=some ab.2
 nd:tps.Nodup
def qes:Sp:=fun vs H Q _=>∃ (p n:Addr) (ss:List Str),vs=[.ref p,.ref n]∧Box H p∧NL p H n ss∧NOk ss∧∀ (l:Addr) (ts:List Addr) (tps:List (Str×Str)) (H':Hp),BB p H H'→H l=none→TL p H' l ts tps→TOk ss tps→Q (.ref l) H'
def qet:Sp:=fun vs H Q _=>∃ (p:Addr) (m:Int),vs=[.ref p,.int m]∧0≤m∧m≤14∧Box H p∧∀ (t n l:Addr) (ss:List Str) (ts:List Addr) (tps:List (Str×Str)) (H':Hp),BB p H H'→H' t=some (.tup [.ref n,.ref l])→H n=none→NL p H' n ss→NOk ss→H l=none→TL p H' l ts tps→TOk ss tps→Q (.ref t) H'
def Shuf (tps ups:List (Str×Str)):Prop:=∃ qps,ups.Perm qps∧All2 (fun a b=>b=a∨b=(a.2,a.1)) tps qps
def qfl:Sp:=fun vs H Q _=>∃ (p l:Addr) (ts:List Addr) (tps:List (Str×Str)),vs=[.ref p,.ref l]∧Box H p∧TL p H l ts tps∧tps.length≤30∧∀ (l':Addr) (us:List Addr) (ups:List (Str×Str)) (H':Hp),BB p H H'→H l'=none→TL p H' l' us ups→Shuf tps ups→Q (.ref l') H'
theorem qdw {K:W.Frag} {H:Hp} {l z:Addr} {xs:List V} {Q:VK} (hl:H l=some (.lst xs)) (hz:H z=some (.lst [])) (q:Q (.bl (!xs.isEmpty)) H):qf1 K true (.ref l) (.ref z) H Q:=by
 cases xs with
 | nil=>exact .inr (.inl ⟨l,z,true,1,rfl,rfl,by decide,EqT.lst (n:=0) (e:=fun _=>true) (SqL.of hl) (SqL.of hz) rfl fun j x y h=>by (simp at h),q⟩)
 | cons x r=>exact .inr (.inl ⟨l,z,false,1,rfl,rfl,by decide,EqT.lstL (SqL.of hl) (SqL.of hz) (by simp),q⟩)
section
variable {P:Program} {w:World} {K:W.Frag} {mg:Str→Option Value} {base:Heap} {cc:Nat→Addr} {cw:Addr}
theorem ok_ties {f:Addr} {fd:FuncData} (F:Fun K "_law_ties" "_law_ties" qal f fd) (T:Txt K mg cc cw) (D_l_take:DefOk P w K mg base CX0 1 "_law_take" ["_law_box_here", "_law_many"] qaN):FnOk P w K mg base CX0 2 f fd ["_law_box_here", "_law_names_here"] qes:=by
 refine F.ok sc_l_ties (fun vs H Q E h=>?_) fun cdv A outer s H vs Q E hr h=>?_
 ·obtain ⟨p,n,ss,rfl,_⟩:=h;rfl
 ·obtain ⟨p,n,ss,rfl,hB,hN,hO,q⟩:=h
  have few:=hO.few
  have hu:=zR hr
  refine ⟨_,(qd (qu (i:=2) sc_l_ties.nd rfl (Or.inl rfl) (qQ qb))
 (qd (qu (i:=3) sc_l_ties.nd rfl (Or.inl rfl) (qA (qB (K:=K) rfl hu) (qQ (qa qg (qa qg (qa qg (qa qg qb))))) (qp D_l_take (hm hr) qx (qa (pv 0) (qa qg qb))) (fun _ _=>rfl)))
 (qd (jP PassesOwn.never rfl (jt rfl T.b_range (qa (qm (j7 (K:=K) rfl) rfl T.b_len boot_len (qa (pv 1) qb)) qb)) (qv (i:=4) sc_l_ties.nd rfl (Or.inl rfl))
 (qf (jP PassesOwn.never rfl (jt rfl T.b_range (qa (pv 4) qb)) (qv (i:=5) sc_l_ties.nd rfl (Or.inl rfl))
 (qf (qF (PW.pt (qby (qo (zn (K:=K) rfl hu) (qp D_l_take (hm hr) qx (qa (pv 0) (qa (pv 3) qb))) qg (qy _)) (qaT (qo qdI (qm (j7 (K:=K) rfl) rfl T.b_len boot_len (qa (pv 2) qb)) qg (qy _))))) (qf (jU (qdQ (K:=K) rfl PySem.F.plainAttrs_list PySem.F.slot_list_append PySem.F.type_list_append zx (pv 2) (qa (qG (qa (qA (qB (K:=K) rfl hu) (pv 1) (pv 5) (fun _ _=>rfl)) (qa (qA (qB (K:=K) rfl hu) (pv 1) (pv 4) (fun _ _=>rfl)) qb))) qb)))) qi)))))
 (qf (qk (pv 2)))))),?_⟩
  walk_at "vc"
  refine ⟨by decide,fun l hl=>?_⟩
  have b1:=(BB.refl hB).new (o:=.lst []) hl
  have nl:=hB.apart hl
  have t1:TL p (upd H l (.lst [])) l [] []:=⟨qc,nl,All2.nil⟩
  generalize upd H l (.lst [])=H1 at b1 t1 ⊢
  walk_at "vc"
  refine ⟨by show 4≤sizeLine;decide,fun l4 h4=>?_⟩
  generalize hxs:[V.int 2,V.int 2,V.int 3,V.int 5]=xs
  have b2:=b1.new (o:=.lst xs) h4
  have n4:=b1.apart h4
  have e4:upd H1 l4 (.lst xs) l4=some (.lst xs):=qc
  replace t1:=t1.same (qE (L2.Same.refl H1) (o:=.lst xs) h4)
  generalize upd H1 l4 (.lst xs)=H2 at b2 e4 t1 ⊢
  walk_at "vc"
  refine ⟨p,4,rfl,b2.2,by decide,by decide,fun r H3 r0 r1 b3=>?_⟩
  replace e4:=b3.1 _ _ n4 e4
  replace t1:=t1.bb b3
  replace b3:=b2.trans b3
  have hl4:xs.length=4:=by rw [← hxs];rfl
  obtain ⟨v,ix,hv⟩:=qas (xs:=xs) r0 (by omega)
  obtain ⟨bs,rfl,st0,st1⟩:∃ i:Int,v=.int i∧0 < i∧i≤25:=by
   have hm:=List.mem_of_getElem? hv
   rw [← hxs] at hm
   simp only [List.mem_cons,List.not_mem_nil,or_false] at hm
   rcases hm with rfl | rfl | rfl | rfl<;>exact ⟨_,rfl,by decide,by decide⟩
  refine .inl (zX e4 ix ?_)
  clear hv ix hxs e4
  walk_at "vc"
  have hN3:H3 n=some (.lst (ss.map V.str)):=b3.1 _ _ hN.2 hN.1
  refine qar hN3 ?_
  rw [List.length_map]
  refine ⟨_,rfl,by omega,by omega,j6 (fun i σ H'=>BB p H H'∧∃ (ts:List Addr) (tps:List (Str×Str)) (x4 x5:Option V),σ=[some (.ref p),some (.ref n),some (.ref l),some (.int bs),x4,x5]∧TL p H' l ts tps∧tps.length≤30∧tps.Nodup∧∀ ab∈tps,∃ j k,j < k∧ss[j]?=some ab.1∧ss[k]?=some ab.2∧k < i)
   ⟨b3,[],[],none,none,rfl,t1,by simp,by simp,by simp⟩ (fun i σ H4 hi hp=>?_) fun σ H4 hp=>?_⟩
  ·obtain ⟨b4,ts,tps,x4,x5,rfl,t4,l30,nd,ok⟩:=hp
   have hi':i < ss.length:=by omega
   walk_at "vc"
   refine ⟨_,rfl,by omega,by omega,j6 (fun j σ H'=>BB p H H'∧∃ (ts:List Addr) (tps:List (Str×Str)) (x5:Option V),σ=[some (.ref p),some (.ref n),some (.ref l),some (.int bs),some (.int (0 + (i:Int))),x5]∧TL p H' l ts tps∧tps.length≤30∧tps.Nodup∧∀ ab∈tps,∃ a k,a < k∧ss[a]?=some ab.1∧ss[k]?=some ab.2∧(k < i∨(k=i∧a < j)))
    ⟨b4,ts,tps,_,rfl,t4,l30,nd,fun ab h=>by obtain ⟨a,k,h1,h2,h3,h4⟩:=ok ab h;exact ⟨a,k,h1,h2,h3,.inl h4⟩⟩ (fun j σ H5 hj hp=>?_) fun σ H5 hp=>?_⟩
   ·obtain ⟨b5,ts,tps,x5,rfl,t5,l30,nd,ok⟩:=hp
    have hj':j < ss.length:=by omega
    have hji:j < i:=by omega
    have keep:∀ ab∈tps,∃ a k,a < k∧ss[a]?=some ab.1∧ss[k]?=some ab.2∧(k < i∨(k=i∧a < j + 1)):=fun ab h=>by
     obtain ⟨a,k,h1,h2,h3,h4⟩:=ok ab h
     exact ⟨a,k,h1,h2,h3,by omega⟩
    walk_at "vc"
    refine ⟨p,_,rfl,b5.2,st0,by omega,fun r H6 r0 r1 b6=>?_⟩
    replace t5:=t5.bb b6
    replace b6:=b5.trans b6
    walk_at "vc"
    refine .inl (.inl (.inl ⟨rfl,rfl,?_⟩))
    walk_at "vc"
    refine qD (fun _=>?_) fun _=>?_
    ·walk_at "vc"
     refine qar t5.1 ?_
     walk_at "vc"
     refine qD (fun h30=>?_) fun _=>?_
     ·have few':ts.length < 30:=by
       have:=of_decide_eq_true h30
       rw [List.length_map] at this
       omega
      have hN6:H6 n=some (.lst (ss.map V.str)):=b6.1 _ _ hN.2 hN.1
      have at_:∀ (k:Nat),k < ss.length→∃ x,atI (ss.map V.str) (0 + (k:Int))=some (.str x)∧ss[k]?=some x:=fun k hk=>by
       rw [Int.zero_add]
       exact ⟨ss[k],jQ (by rw [List.getElem?_map,List.getElem?_eq_getElem hk];rfl),List.getElem?_eq_getElem hk⟩
      obtain ⟨x,ix,gx⟩:=at_ j hj'
      obtain ⟨y,iy,gy⟩:=at_ i hi'
      walk_at "vc"
      refine ⟨.inl ⟨rfl,_,SqL.of t5.1⟩,?_⟩
      walk_at "vc"
      refine .inl (zX hN6 ix ?_)
      walk_at "vc"
      refine .inl (zX hN6 iy ?_)
      walk_at "vc"
      refine ⟨by show 2≤sizeLine;decide,fun t ht=>?_⟩
      have nt:=b6.apart ht
      have b7:=b6.new (o:=.tup [.str x,.str y]) ht
      have t7:=t5.same (qE (L2.Same.refl H6) (o:=.tup [.str x,.str y]) ht)
      refine ⟨l,_,_,rfl,rfl,t7.1,by rw [List.length_map];exact qh (by omega),?_⟩
      refine ⟨b7.put hl nl,_,tps++[(x,y)],_,rfl,t7.more (ab:=(x,y)) ⟨nt,qc⟩,by rw [List.length_append,← t5.2.2.len];show ts.length + 1≤30;omega,?_,fun ab h=>?_⟩
      ·refine List.nodup_append.mpr ⟨nd,by simp,fun ab h cd h2 e=>?_⟩
       rw [List.mem_singleton.mp h2] at e
       subst e
       obtain ⟨a,k,h1,h2,h3,h4⟩:=ok _ h
       have e1:a=j:=qz hO.nd h2 gx
       have e2:k=i:=qz hO.nd h3 gy
       omega
      ·rcases List.mem_append.mp h with h | h
       ·exact keep ab h
       ·rw [List.mem_singleton.mp h]
        exact ⟨j,i,hji,gx,gy,.inr ⟨rfl,by omega⟩⟩
     ·exact ⟨b6,ts,tps,_,rfl,t5,l30,nd,keep⟩
    ·walk_at "vc"
     refine qD (fun h=>by cases h) fun _=>?_
     exact ⟨b6,ts,tps,_,rfl,t5,l30,nd,keep⟩
   ·obtain ⟨b5,ts,tps,x5,rfl,t5,l30,nd,ok⟩:=hp
    exact ⟨b5,ts,tps,_,_,rfl,t5,l30,nd,fun ab h=>by obtain ⟨a,k,h1,h2,h3,h4⟩:=ok ab h;exact ⟨a,k,h1,h2,h3,by omega⟩⟩
  ·obtain ⟨b4,ts,tps,x4,x5,rfl,t4,l30,nd,ok⟩:=hp
   walk_at "vc"
   exact q l ts tps _ b4 hl t4 ⟨l30,fun ab h=>by obtain ⟨a,k,h1,h2,h3,_⟩:=ok ab h;exact ⟨a,k,h1,h2,h3⟩,nd⟩
theorem ok_drawn {f:Addr} {fd:FuncData} (F:Fun K "_law_drawn" "_law_drawn" zD f fd) (D_l_take:DefOk P w K mg base CX0 1 "_law_take" ["_law_box_here", "_law_many"] qaN) (D_l_names:DefOk P w K mg base CX0 2 "_law_names" ["_law_box_here", "_law_many"] qer) (D_l_ties:DefOk P w K mg base CX0 2 "_law_ties" ["_law_box_here", "_law_names_here"] qes) :
  FnOk P w K mg base CX0 3 f fd ["_law_box_here", "_law_most"] qet:=by
 refine F.ok sc_l_drawn (fun vs H Q E h=>?_) fun cdv A outer s H vs Q E hr h=>?_
 ·obtain ⟨p,m,rfl,_⟩:=h;rfl
 ·obtain ⟨p,mm,rfl,mm0,mm1,hB,q⟩:=h
  have hu:=zR hr
  refine ⟨_,(qd (qu (i:=2) sc_l_drawn.nd rfl (Or.inl rfl) (qp D_l_take (hm hr) qx (qa (pv 0) (qa qg qb))))
 (qd (qF (qo (zn (K:=K) rfl hu) (qp D_l_take (hm hr) qx (qa (pv 0) (qa qg qb))) qg (qy _)) (qf (qu (i:=2) sc_l_drawn.nd rfl (Or.inl rfl) (qp D_l_take (hm hr) qx (qa (pv 0) (qa (qL (zu (K:=K) rfl) (pv 1) qg) qb))))) qi)
 (qd (qu (i:=3) sc_l_drawn.nd rfl (Or.inl rfl) (qp D_l_names (hm hr) qx (qa (pv 0) (qa (pv 2) qb))))
 (qf (qk (qG (qa (pv 3) (qa (qp D_l_ties (hm hr) qx (qa (pv 0) (qa (pv 3) qb))) qb)))))))),?_⟩
  walk_at "vc"
  refine ⟨p,8,rfl,hB,by decide,by decide,fun m H1 m0 m1 b1=>?_⟩
  walk_at "vc"
  refine ⟨p,8,rfl,b1.2,by decide,by decide,fun r H2 r0 r1 b2=>?_⟩
  replace b2:=b1.trans b2
  walk_at "vc"
  refine .inl (.inl (.inl ⟨rfl,rfl,?_⟩))
  walk_at "vc"
  have fin:∀ (n:Addr) (ss:List Str) (H4:Hp),BB p H H4→H n=none→NL p H4 n ss→NOk ss→qes [.ref p,.ref n] H4 (fun v H5=>2≤sizeLine∧∀ t,H5 t=none→Q (.ref t) (upd H5 t (.tup [.ref n,v]))) E0:=fun n ss H4 b4 hn0 hN hO =>
   ⟨p,n,ss,rfl,b4.2,hN,hO,fun l ts tps H5 b5 hl0 tl hT=>⟨by decide,fun t ht=>by
    have b6:=b4.trans b5
    have s6:=qE (L2.Same.refl H5) (o:=.tup [.ref n,.ref l]) ht
    have nlp:=tl.2.1
    exact q t n l ss ts tps _ (b6.new ht) qc hn0 ((hN.bb b5).same s6) hO (b4.free hl0) (tl.same s6) hT⟩⟩
  refine qD (fun _=>?_) fun _=>?_
  ·walk_at "vc"
   refine ⟨p,_,rfl,b2.2,by omega,by omega,fun m' H3 m0' m1' b3=>?_⟩
   replace b3:=b2.trans b3
   walk_at "vc"
   refine ⟨p,m',rfl,b3.2,by omega,by omega,fun n ss H4 b4 hn0 nl few=>?_⟩
   walk_at "vc"
   exact fin n ss H4 (b3.trans b4) (b3.free hn0) nl few
  ·walk_at "vc"
   refine ⟨p,m,rfl,b2.2,by omega,by omega,fun n ss H4 b4 hn0 nl few=>?_⟩
   walk_at "vc"
   exact fin n ss H4 (b2.trans b4) (b2.free hn0) nl few
theorem ok_shuf {f:Addr} {fd:FuncData} (F:Fun K "_law_shuffled" "_law_shuffled" ju f fd) (T:Txt K mg cc cw) (D_l_take:DefOk P w K mg base CX0 1 "_law_take" ["_law_box_here", "_law_many"] qaN):FnOk P w K mg base CX0 2 f fd ["_law_box_here", "_law_ties_here"] qfl:=by
 refine F.ok sc_l_shuffled (fun vs H Q E h=>?_) fun cdv A outer s H vs Q E hr h=>?_
 ·obtain ⟨p,l,ts,tps,rfl,_⟩:=h;rfl
 ·obtain ⟨p,l,ts,tps,rfl,hB,hT,few,q⟩:=h
  have hu:=zR hr
  have htl:ts.length≤30:=by rw [hT.2.2.len];exact few
  refine ⟨_,(qd (qaw (sc:=qe ju) (XN:=["_law_box_here", "_law_ties_here", "_law_left", "_law_found"]) ["_law_tie", "_law_box_here"] 1 [0] rfl rfl rfl (by decide +kernel) rfl (by decide +kernel) (i:=2) sc_l_shuffled.nd rfl rfl
  (jh (K:=K) rfl (pv 1)) (fun _ _ _ _=>(qv (i:=0) (show (["_law_tie", "_law_box_here"]:List Str).Nodup by decide +kernel) rfl (Or.inl rfl))) je
  (fun _ _ _ _=>zK)
  (fun _ _ _ _=>(qA (qB (K:=K) rfl hu) (qQ (qa (pv 0) (qa (qdi (K:=K) rfl (pv 0) (jF (qdH qbA qg))) qb))) (qp D_l_take (hm hr) qx (qa (pv 1) (qa qg qb))) (fun _ _=>rfl))))
 (qd (qu (i:=3) sc_l_shuffled.nd rfl (Or.inl rfl) (qQ qb))
 (qd (qcY PassesOwn.never (qo (zZ (K:=K) rfl hu) (pv 2) (qQ qb) (qy _))
 (qf (jU (qdQ (K:=K) rfl PySem.F.plainAttrs_list PySem.F.slot_list_append PySem.F.type_list_append zx (pv 3) (qa (qdQ (K:=K) rfl PySem.F.plainAttrs_list PySem.F.slot_list_pop PySem.F.type_list_pop mtR_popAt (pv 2) (qa (qp D_l_take (hm hr) qx (qa (pv 0) (qa (qm (j7 (K:=K) rfl) rfl T.b_len boot_len (qa (pv 2) qb)) qb))) qb)) qb)))))
 (qf (qk (pv 3)))))),?_⟩
  walk_at "vc"
  refine .inl ⟨⟨_,SqL.of hT.1⟩,qY (K:=K) (a:=l) (xs:=ts.map V.ref) (fun i ys H'=>BB p H H'∧∃ (us:List Addr) (ups:List (Str×Str)),ys=us.map V.ref∧us.length=i∧All2 (PrT p H') us ups∧All2 (fun a b=>b=a∨b=(a.2,a.1)) (tps.take i) ups) ⟨BB.refl hB,[],[],rfl,rfl,All2.nil,by simpa using All2.nil⟩
   (fun i ys H' _ h=>SqL.of (h.1.1 _ _ hT.2.1 hT.1)) (fun i x ys H1 hx hp=>?_) fun ys H1 hp=>?_⟩
  ·obtain ⟨b1,us,ups,rfl,hul,hP,hA⟩:=hp
   rw [List.getElem?_map] at hx
   cases ht:ts[i]? with
   | none=>rw [ht] at hx;cases hx
   | some t =>
    rw [ht] at hx
    cases hx
    have hil:i < ts.length:=(List.getElem?_eq_some_iff.mp ht).1
    have hil':i < tps.length:=by rw [← hT.2.2.len];exact hil
    have gi:tps[i]?=some tps[i]:=List.getElem?_eq_getElem hil'
    generalize tps[i]=ab at gi
    obtain ⟨nt,et⟩:=(hT.bb b1).2.2.at_ i t ab ht gi
    have htk:tps.take (i + 1)=tps.take i++[ab]:=by rw [List.take_add_one,gi];rfl
    obtain ⟨a,b⟩:=ab
    dsimp only at et
    walk_at "vc"
    refine qbC ?_
    walk_at "vc"
    refine vU ?_
    walk_at "vc"
    refine ⟨rfl,t,_,_,rfl,SqT.of et,fun t2 h2=>?_⟩
    have b2:=b1.new (o:=.tup [.str b,.str a]) h2
    have n2:=b1.apart h2
    have s2:=qE (L2.Same.refl H1) (o:=.tup [.str b,.str a]) h2
    have e2:upd H1 t2 (.tup [.str b,.str a]) t2=some (.tup [.str b,.str a]):=qc
    replace et:=s2 _ _ et
    replace hP:=hP.mono (S:=PrT p (upd H1 t2 (.tup [.str b,.str a]))) fun t ab z=>⟨z.1,s2 _ _ z.2⟩
    generalize upd H1 t2 (.tup [.str b,.str a])=H2 at b2 e2 et hP ⊢
    clear s2
    walk_at "vc"
    refine ⟨by show 2≤sizeLine;decide,fun L h3=>?_⟩
    have b3:=b2.new (o:=.lst [.ref t,.ref t2]) h3
    have n3:=b2.apart h3
    have s3:=qE (L2.Same.refl H2) (o:=.lst [.ref t,.ref t2]) h3
    have e3:upd H2 L (.lst [.ref t,.ref t2]) L=some (.lst [.ref t,.ref t2]):=qc
    replace et:=s3 _ _ et
    replace e2:=s3 _ _ e2
    replace hP:=hP.mono (S:=PrT p (upd H2 L (.lst [.ref t,.ref t2]))) fun t ab z=>⟨z.1,s3 _ _ z.2⟩
    generalize upd H2 L (.lst [.ref t,.ref t2])=H3 at b3 e2 e3 et hP ⊢
    clear s3
    walk_at "vc"
    refine ⟨p,2,rfl,b3.2,by decide,by decide,fun r H4 r0 r1 b4=>?_⟩
    replace et:=b4.1 _ _ nt et
    replace e2:=b4.1 _ _ n2 e2
    replace e3:=b4.1 _ _ n3 e3
    replace hP:=hP.mono (S:=PrT p H4) fun t ab z=>⟨z.1,b4.1 _ _ z.1 z.2⟩
    replace b4:=b3.trans b4
    have fin:∀ u cd,PrT p H4 u cd→(cd=(a,b)∨cd=(b,a))→(us.map V.ref).length < sizeLine∧(BB p H H4∧∃ (vs:List Addr) (vps:List (Str×Str)),us.map V.ref++[V.ref u]=vs.map V.ref∧vs.length=i + 1∧All2 (PrT p H4) vs vps∧All2 (fun a b=>b=a∨b=(a.2,a.1)) (tps.take (i + 1)) vps):=fun u cd hu hcd =>
     ⟨by rw [List.length_map,hul];exact qh (by omega),b4,us++[u],ups++[cd],by rw [List.map_append];rfl,by rw [List.length_append,hul];rfl,hP.snoc hu,by rw [htk];exact hA.snoc hcd⟩
    have hr2:r=0∨r=1:=by omega
    rcases hr2 with rfl | rfl
    ·exact .inl (zX (v:=.ref t) e3 (jQ (j:=0) rfl) (fin t (a,b) ⟨nt,et⟩ (.inl rfl)))
    ·exact .inl (zX (v:=.ref t2) e3 (jQ (j:=1) rfl) (fin t2 (b,a) ⟨n2,e2⟩ (.inr rfl)))
  ·obtain ⟨b1,us,qps,rfl,hul,hP,hA⟩:=hp
   rw [List.length_map] at hul hA
   have etk:tps.take ts.length=tps:=by rw [hT.2.2.len,List.take_length]
   rw [etk] at hA
   refine ⟨by rw [List.length_map];exact Nat.le_of_lt (qh (by omega)),fun l1 h1=>?_⟩
   have b2:=b1.new (o:=.lst (us.map V.ref)) h1
   have n1:=b1.apart h1
   have z1:=b1.free h1
   have s1':=qE (L2.Same.refl H1) (o:=.lst (us.map V.ref)) h1
   have t1:TL p (upd H1 l1 (.lst (us.map V.ref))) l1 us qps:=⟨qc,n1,hP.mono fun t ab z=>⟨z.1,s1' _ _ z.2⟩⟩
   generalize upd H1 l1 (.lst (us.map V.ref))=H2 at b2 t1 ⊢
   clear s1'
   walk_at "vc"
   refine ⟨by decide,fun l2 h2=>?_⟩
   have b3:=b2.new (o:=.lst []) h2
   have n2:=b2.apart h2
   have z2:=b2.free h2
   have n12:l1≠l2:=qw t1.1 h2
   have t3:=t1.same (qE (L2.Same.refl H2) (o:=.lst []) h2)
   have t2:TL p (upd H2 l2 (.lst [])) l2 [] []:=⟨qc,n2,All2.nil⟩
   generalize upd H2 l2 (.lst [])=H3 at b3 t2 t3 ⊢
   walk_at "vc"
   refine ⟨fun m σ H'=>∃ (us vs:List Addr) (ups vps:List (Str×Str)),m=us.length∧σ=[some (.ref p),some (.ref l),some (.ref l1),some (.ref l2)]∧BB p H H'∧TL p H' l1 us ups∧TL p H' l2 vs vps∧us.length + vs.length≤30∧(vps++ups).Perm qps,⟨_,us,[],qps,[],rfl,rfl,b3,t3,t2,by simp;omega,by simp⟩,fun m σ H4 hW=>?_⟩
   obtain ⟨us,vs,ups,vps,rfl,rfl,b4,u4,v4,hsum,hperm⟩:=hW
   walk_at "vc"
   refine ⟨by decide,fun z hz=>?_⟩
   have sz:=qE (L2.Same.refl H4) (o:=.lst []) hz
   have b5:=b4.new (o:=.lst []) hz
   have u5:=u4.same sz
   have v5:=v4.same sz
   have e5:upd H4 z (.lst []) z=some (.lst []):=qc
   generalize upd H4 z (.lst [])=H5 at b5 u5 v5 e5 ⊢
   refine qdw u5.1 e5 ?_
   walk_at "vc"
   cases us with
   | nil =>
    refine qD (fun h=>by cases h) fun _=>?_
    walk_at "vc"
    have eu:ups=[]:=List.eq_nil_of_length_eq_zero (by rw [← u5.2.2.len];rfl)
    rw [eu,List.append_nil] at hperm
    exact q l2 vs vps H5 b5 z2 v5 ⟨qps,hperm,hA⟩
   | cons u0 ur =>
    refine qD (fun _=>?_) (fun h=>absurd rfl h)
    refine ⟨fun σ' H'=>∃ (us vs:List Addr) (ups vps:List (Str×Str)),us.length=ur.length∧σ'=[some (.ref p),some (.ref l),some (.ref l1),some (.ref l2)]∧BB p H H'∧TL p H' l1 us ups∧TL p H' l2 vs vps∧us.length + vs.length≤30∧(vps++ups).Perm qps,fun σ' H' ⟨us',vs',ups',vps',e,rest⟩=>⟨_,by rw [List.length_cons,← e];exact Nat.lt_succ_self _,us',vs',ups',vps',rfl,rest⟩,?_⟩
    walk_at "vc"
    refine ⟨.inl ⟨rfl,_,SqL.of v5.1⟩,?_⟩
    walk_at "vc"
    refine ⟨.inl ⟨rfl,_,SqL.of u5.1⟩,?_⟩
    walk_at "vc"
    refine qar u5.1 ?_
    walk_at "vc"
    rw [List.length_map]
    rw [List.length_cons] at hsum
    refine ⟨p,_,rfl,b5.2,by (rw [List.length_cons];omega),by (rw [List.length_cons];omega),fun r H6 r0 r1 b6=>?_⟩
    have u6:=u5.bb b6
    have v6:=v5.bb b6
    replace b6:=b5.trans b6
    obtain ⟨k,rfl⟩:=Int.eq_ofNat_of_zero_le r0
    have hk:k < (u0::ur).length:=by rw [List.length_cons];rw [List.length_cons] at r1;omega
    have hkp:k < ups.length:=by rw [← u5.2.2.len];exact hk
    have gk:((u0::ur).map V.ref)[k]?=some (.ref ((u0::ur)[k])):=by rw [List.getElem?_map,List.getElem?_eq_getElem hk];rfl
    have hk9:(k:Int) < 2 ^ 62:=by rw [List.length_cons] at hk;omega
    refine ⟨l1,_,_,k,_,rfl,rfl,u6.1,by omega,by omega,(qcL (qcT (by rw [List.length_map];exact hk))).1,gk,?_⟩
    have pk:=u6.2.2.at_ k ((u0::ur)[k]) ups[k] (List.getElem?_eq_getElem hk) (List.getElem?_eq_getElem hkp)
    have u7:=u6.less k
    have v7:=v6.other (ys:=((u0::ur).map V.ref).eraseIdx k) n12.symm u6.1
    have b7:=b6.put (o:=.lst (((u0::ur).map V.ref).eraseIdx k)) z1 n1
    have pk7:=pk.put (ys:=((u0::ur).map V.ref).eraseIdx k) u6.1
    generalize upd H6 l1 (.lst (((u0::ur).map V.ref).eraseIdx k))=H7 at u7 v7 b7 pk7 ⊢
    have hlen:((u0::ur).eraseIdx k).length=ur.length:=by rw [List.length_eraseIdx_of_lt hk,List.length_cons];omega
    refine ⟨l2,_,_,rfl,rfl,v7.1,by rw [List.length_map];exact qh (by omega),?_⟩
    refine ⟨_,_,_,_,hlen,rfl,b7.put z2 n2,u7.other n12 v7.1,v7.more pk7,?_,?_⟩
    ·rw [hlen,List.length_append,List.length_singleton]
     omega
    ·rw [List.append_assoc]
     exact (List.Perm.append_left vps (qbI ups k hkp)).trans hperm
end
abbrev jX:Stmt:=top 30
theorem sc_l_rising:FnScope ["_law_names_here", "_law_ties_here", "_law_found", "_law_one"] ["_law_names_here", "_law_ties_here"] (qe jX):=⟨rfl,rfl,rfl,by decide +kernel,rfl,by decide +kernel,by decide +kernel⟩
theorem eqV_self {v:V} (h:zt v=true):eqV v v=true:=by
 cases v<;>first | rfl | (simp [eqV];done) | cases h
theorem qdx (n:Nat):(List.range n).all (fun _=>true)=true:=by simp
theorem zN {K:W.Frag} {H:Hp} {a b:Addr} {s t s' t':Str} (hb:H b=some (.tup [.str s',.str t'])) (ha:H a=some (.tup [.str s,.str t])):EqD K H 1 (.ref b) (.ref a) (decide ((s',t')=(s,t))):=by
 by_cases e:b=a
 ·subst e
  rw [hb] at ha
  cases ha
  rw [decide_eq_true rfl]
  exact .self
 ·have z:=EqT.tup (K:=K) (H:=H) (n:=0) (e:=fun j=>if j=0 then eqV (.str s') (.str s) else eqV (.str t') (.str t)) (SqT.of hb) (SqT.of ha) fun j x y hx hy=>by
   match j,hx,hy with
   | 0,hx,hy=>cases hx;cases hy;exact .flat rfl rfl
   | 1,hx,hy=>cases hx;cases hy;exact .flat rfl rfl
  have ev:((List.range (min [V.str s',V.str t'].length [V.str s,V.str t].length)).all (fun j=>if j=0 then eqV (.str s') (.str s) else eqV (.str t') (.str t))&&[V.str s',V.str t'].length==[V.str s,V.str t].length)=decide ((s',t')=(s,t)):=by
   show ((s'==s)&&((t'==t)&&true)&&true)=_
   rw [Bool.eq_iff_iff]
   simp
  rw [ev] at z
  exact .deep z e
def PL (H:Hp) (l:Addr) (ts:List Addr) (tps:List (Str×Str)):Prop:=H l=some (.lst (ts.map V.ref))∧All2 (fun t ab=>H t=some (.tup [.str ab.1,.str ab.2])) ts tps
theorem PL.same {l:Addr} {H H':Hp} {ts:List Addr} {tps:List (Str×Str)} (h:PL H l ts tps) (s:L2.Same H H'):PL H' l ts tps:=⟨s _ _ h.1,h.2.mono fun _ _ z=>s _ _ z⟩
theorem TL.pl {p l:Addr} {H:Hp} {ts:List Addr} {tps:List (Str×Str)} (h:TL p H l ts tps):PL H l ts tps:=⟨h.1,h.2.2.mono fun _ _ z=>z.2⟩
def qdN (H:Hp) (z:V):Option (Str×Str):=match z with
 | .ref t=>(match H t with
  | some (.tup [.str a,.str b])=>some (a,b)
  | _=>none)
 | _=>none
theorem qbW {H:Hp} {t:Addr} {a b:Str} (h:H t=some (.tup [.str a,.str b])):qdN H (.ref t)=some (a,b):=by
 unfold qdN
 dsimp only
 rw [h]
theorem any_in {H:Hp} {ts:List Addr} {tps:List (Str×Str)} (h:All2 (fun t ab=>H t=some (.tup [.str ab.1,.str ab.2])) ts tps) (st:Str×Str):((ts.map V.ref).any fun z=>decide (qdN H z=some st))=decide (st∈tps):=by
 rw [Bool.eq_iff_iff,List.any_eq_true,decide_eq_true_iff]
 constructor
 ·rintro ⟨z,hz,e⟩
  obtain ⟨t,ht,rfl⟩:=List.mem_map.mp hz
  obtain ⟨ab,hab,r⟩:=h.mem ht
  have e:=of_decide_eq_true e
  rw [qbW r] at e
  cases e
  exact hab
 ·intro hm
  obtain ⟨k,hk,e⟩:=List.getElem_of_mem hm
  have hk':k < ts.length:=by rw [h.len];exact hk
  have r:=h.at_ k ts[k] tps[k] (List.getElem?_eq_getElem hk') (List.getElem?_eq_getElem hk)
  refine ⟨.ref ts[k],List.mem_map.mpr ⟨_,List.getElem_mem hk',rfl⟩,decide_eq_true ?_⟩
  rw [qbW r,e]
theorem qeu {K:W.Frag} {H:Hp} {l a:Addr} {ts:List Addr} {tps:List (Str×Str)} {s t:Str} {Q:VK} (h:PL H l ts tps) (ha:H a=some (.tup [.str s,.str t])) (q:Q (.bl (decide ((s,t)∈tps))) H):qgA K false (.ref a) (.ref l) H Q:=by
 refine .inr (.inr ⟨l,ts.map V.ref,fun z=>decide (qdN H z=some (s,t)),1,rfl,SqL.of h.1,by decide,fun z hz=>?_,?_⟩)
 ·obtain ⟨b,hb,rfl⟩:=List.mem_map.mp hz
  obtain ⟨ab,_,r⟩:=h.2.mem hb
  have e:=zN (K:=K) r ha
  have ee:decide (qdN H (.ref b)=some (s,t))=decide ((ab.1,ab.2)=(s,t)):=by
   rw [qbW r]
   apply decide_eq_decide.mpr
   rw [Option.some.injEq]
  show EqD K H 1 (.ref b) (.ref a) (decide (qdN H (.ref b)=some (s,t)))
  rw [ee]
  exact e
 ·rw [any_in h.2]
  exact q
def ji (ss:List Str) (tps:List (Str×Str)) (one:Str):List (Str×Str):=(ss.filter fun o=>decide ((one,o)∈tps)).map fun o=>(one,o)
def jd (ss:List Str) (tps:List (Str×Str)) (l:List Str):List (Str×Str):=l.flatMap (ji ss tps)
def zb (ss:List Str) (tps:List (Str×Str)) (pl:Str):List Str:=ss.filter fun o=>decide ((pl,o)∈tps)||decide ((o,pl)∈tps)
def qfF:Sp:=fun vs H Q _=>∃ (n l:Addr) (ss:List Str) (ts:List Addr) (tps:List (Str×Str)),vs=[.ref n,.ref l]∧H n=some (.lst (ss.map V.str))∧ss.length≤14∧PL H l ts tps ∧
 ∀ (r:Addr) (us:List Addr) (H':Hp),L2.Same H H'→H r=none→H' r=some (.lst (us.map V.ref))→us.length≤196→All2 (PrAt H H' r) us (jd ss tps ss)→Q (.ref r) H'
theorem jY {ss:List Str} {i:Nat} {y:V} (hy:(ss.map V.str)[i]?=some y):∃ s,ss[i]?=some s∧y=.str s:=by
 rw [List.getElem?_map] at hy
 cases h:ss[i]? with
 | none=>rw [h] at hy;cases hy
 | some s=>rw [h] at hy;cases hy;exact ⟨s,rfl,rfl⟩
section
variable {P:Program} {w:World} {K:W.Frag} {mg:Str→Option Value} {base:Heap} {cc:Nat→Addr} {cw:Addr}
theorem qev {H:Hp} {a b:Addr} {xs ys:List V} {n:Nat} (ha:H a=some (.lst xs)) (hb:H b=some (.lst ys)) (hl:xs.length=ys.length) (h:∀ (j:Nat) x y,xs[j]?=some x→ys[j]?=some y→EqD K H n x y true):EqT K H (n + 1) a b true:=by
 have z:=EqT.lst (K:=K) (H:=H) (n:=n) (e:=fun _=>true) (SqL.of ha) (SqL.of hb) hl h
 rw [qdx] at z
 exact z
theorem eqT_pl {H:Hp} {l r:Addr} {ts us:List Addr} {tps:List (Str×Str)} (h:PL H l ts tps) (g:PL H r us tps):EqT K H 2 l r true:=by
 refine qev h.1 g.1 (by rw [List.length_map,List.length_map,h.2.len,g.2.len]) fun j x y hx hy=>?_
 rw [List.getElem?_map] at hx hy
 cases hx':ts[j]? with
 | none=>rw [hx'] at hx;cases hx
 | some t =>
  cases hy':us[j]? with
  | none=>rw [hy'] at hy;cases hy
  | some u =>
   rw [hx'] at hx
   rw [hy'] at hy
   cases hx
   cases hy
   have hj:j < tps.length:=by rw [← h.2.len];exact (List.getElem?_eq_some_iff.mp hx').1
   have e:=zN (K:=K) (h.2.at_ j t tps[j] hx' (List.getElem?_eq_getElem hj)) (g.2.at_ j u tps[j] hy' (List.getElem?_eq_getElem hj))
   rw [decide_eq_true rfl] at e
   exact e
theorem ok_ris {f:Addr} {fd:FuncData} (F:Fun K "_law_rising" "_law_rising" jX f fd):FnOk P w K mg base CX0 1 f fd ["_law_names_here", "_law_ties_here"] qfF:=by
 refine F.ok sc_l_rising (fun vs H Q E h=>?_) fun cdv A outer s H vs Q E hr h=>?_
 ·obtain ⟨n,l,ss,ts,tps,rfl,_⟩:=h;rfl
 ·obtain ⟨n,l,ss,ts,tps,rfl,hn,few,hpl,q⟩:=h
  have hu:=zR hr
  refine ⟨_,(qd (qu (i:=2) sc_l_rising.nd rfl (Or.inl rfl) (qQ qb))
 (qd (jP PassesOwn.never rfl (jh (K:=K) rfl (pv 0)) (qv (i:=3) sc_l_rising.nd rfl (Or.inr rfl))
 (qf (jU (qdQ (K:=K) rfl PySem.F.plainAttrs_list PySem.F.slot_list_extend PySem.F.type_list_extend qbH (pv 2) (qa (jW (sc:=qe jX) (XN:=["_law_names_here", "_law_ties_here", "_law_found", "_law_one"]) ["_law_other", "_law_one", "_law_ties_here"] 1 [3,1] rfl rfl rfl (by decide +kernel) rfl (by decide +kernel)
  (jh (K:=K) rfl (pv 0)) (fun _ _ _ _=>(qv (i:=0) (show (["_law_other", "_law_one", "_law_ties_here"]:List Str).Nodup by decide +kernel) rfl (Or.inl rfl))) je
  (fun _ _ _ _=>(jx (qo (qax (K:=K) rfl hu) (qG (qa (pv 1) (qa (pv 0) qb))) (pv 2) (by with_unfolding_all rfl))))
  (fun _ _ _ _=>(qG (qa (pv 1) (qa (pv 0) qb))))) qb)))))
 (qf (qk (pv 2))))),?_⟩
  walk_at "vc"
  refine ⟨by decide,fun r hr0=>?_⟩
  have s0:=qE (L2.Same.refl H) (o:=.lst []) hr0
  walk_at "vc"
  refine .inl ⟨⟨_,SqL.of (s0 _ _ hn)⟩,qab (K:=K) (fun i σ H'=>∃ (us:List Addr) (x3:Option V),σ=[some (.ref n),some (.ref l),some (.ref r),x3]∧L2.Same H H'∧H' r=some (.lst (us.map V.ref))∧us.length≤i * 14∧All2 (PrAt H H' r) us (jd ss tps (ss.take i)))
   ⟨[],none,rfl,s0,qc,by simp,All2.nil⟩ (fun i σ H' _ hp=>by obtain ⟨_,_,_,z,_⟩:=hp;exact SqL.of (z _ _ hn)) (fun i y σ H1 hy hp=>?_) fun σ H1 hp=>?_⟩
  ·obtain ⟨us,x3,rfl,s1,hr1,hlen,hall⟩:=hp
   obtain ⟨one,gi,rfl⟩:=jY hy
   have htk:ss.take (i + 1)=ss.take i++[one]:=by rw [List.take_add_one,gi];rfl
   have hi14:i < ss.length:=(List.getElem?_eq_some_iff.mp gi).1
   walk_at "vc"
   refine ⟨.inl ⟨rfl,_,SqL.of hr1⟩,?_⟩
   walk_at "vc"
   refine .inl ⟨⟨_,SqL.of (s1 _ _ hn)⟩,qY (K:=K) (fun k ys H'=>L2.Same H1 H'∧∃ vs:List Addr,ys=vs.map V.ref∧vs.length≤k∧All2 (PrAt H1 H' r) vs (((ss.take k).filter fun o=>decide ((one,o)∈tps)).map fun o=>(one,o)))
    ⟨L2.Same.refl H1,[],rfl,Nat.le_refl _,All2.nil⟩ (fun k ys H' _ hp=>SqL.of (hp.1 _ _ (s1 _ _ hn))) (fun k y ys H2 hy hp=>?_) fun ys H2 hp=>?_⟩
   ·obtain ⟨s2,vs,rfl,hvl,hv⟩:=hp
    obtain ⟨o,gk,rfl⟩:=jY hy
    have hk14:k < ss.length:=(List.getElem?_eq_some_iff.mp gk).1
    have htk2:ss.take (k + 1)=ss.take k++[o]:=by rw [List.take_add_one,gk];rfl
    walk_at "vc"
    refine ⟨by show 2≤sizeLine;decide,fun a ha=>?_⟩
    have s3:=qE (L2.Same.refl H2) (o:=.tup [.str one,.str o]) ha
    have ea:upd H2 a (.tup [.str one,.str o]) a=some (.tup [.str one,.str o]):=qc
    generalize upd H2 a (.tup [.str one,.str o])=H3 at s3 ea ⊢
    walk_at "vc"
    refine qeu (((hpl.same s1).same s2).same s3) ea ?_
    walk_at "vc"
    refine qD (fun hm=>?_) fun hm=>?_
    ·walk_at "vc"
     refine ⟨by show 2≤sizeLine;decide,fun t ht=>?_⟩
     have s4:=qE (L2.Same.refl H3) (o:=.tup [.str one,.str o]) ht
     have nt:t≠r:=fun e=>by rw [e,s3 _ _ (s2 _ _ hr1)] at ht;cases ht
     refine ⟨by rw [List.length_map];exact qh (by omega),(s2.trans s3).trans s4,vs++[t],by rw [List.map_append];rfl,by rw [List.length_append];show vs.length + 1≤_;omega,?_⟩
     have e1:([o].filter fun o=>decide ((one,o)∈tps)).map (fun o=>(one,o))=[(one,o)]:=by simp [of_decide_eq_true hm]
     rw [htk2,List.filter_append,List.map_append,e1]
     exact (hv.mono fun t' ab h=>h.same (s3.trans s4)).snoc ⟨(s2.trans s3).free ht,nt,qc⟩
    ·have e1:([o].filter fun o=>decide ((one,o)∈tps)).map (fun o=>(one,o))=[]:=by
      have:¬ (one,o)∈tps:=fun z=>hm (decide_eq_true z)
      simp [this]
     refine ⟨s2.trans s3,vs,rfl,by omega,?_⟩
     rw [htk2,List.filter_append,List.map_append,e1,List.append_nil]
     exact hv.mono fun t' ab h=>h.same s3
   ·obtain ⟨s2,vs,rfl,hvl,hv⟩:=hp
    rw [List.length_map] at hvl
    have etk:ss.take (ss.map V.str).length=ss:=by rw [List.length_map,List.take_length]
    rw [etk] at hv
    refine ⟨by rw [List.length_map];exact Nat.le_of_lt (qh (by omega)),fun b hb=>?_⟩
    walk_at "vc"
    have nb:r≠b:=qw (s2 _ _ hr1) hb
    have s3:=qE (L2.Same.refl H2) (o:=.lst (vs.map V.ref)) hb
    have hi2:i * 14≤14 * 14:=Nat.mul_le_mul_right 14 (by omega)
    refine ⟨r,b,_,_,rfl,rfl,s3 _ _ (s2 _ _ hr1),qc,by rw [List.length_map,List.length_map];exact Nat.le_of_lt (qh (by omega)),?_⟩
    refine ⟨us++vs,_,rfl,qfe ((s1.trans s2).trans s3) hr0,by rw [qc,List.map_append],by rw [List.length_append,Nat.add_mul];omega,?_⟩
    have step:∀ (l1:List Addr) (m1:List (Str×Str)) (l2:List Addr) (m2:List (Str×Str)) (R:Addr→Str×Str→Prop),All2 R l1 m1→All2 R l2 m2→All2 R (l1++l2) (m1++m2):=fun l1 m1 l2 m2 R h1 h2=>by
     refine ⟨by rw [List.length_append,List.length_append,h1.len,h2.len],fun k a b ha hb=>?_⟩
     by_cases hk:k < l1.length
     ·rw [List.getElem?_append_left hk] at ha
      rw [List.getElem?_append_left (by rw [← h1.len];exact hk)] at hb
      exact h1.at_ k a b ha hb
     ·rw [List.getElem?_append_right (by omega)] at ha
      rw [List.getElem?_append_right (by rw [← h1.len];omega),← h1.len] at hb
      exact h2.at_ _ a b ha hb
    have e2:jd ss tps (ss.take (i + 1))=jd ss tps (ss.take i)++(ss.filter fun o=>decide ((one,o)∈tps)).map fun o=>(one,o):=by
     unfold jd
     rw [htk,List.flatMap_append]
     congr 1
     simp [ji]
    rw [e2]
    refine step _ _ _ _ _ (hall.mono fun t ab h=>⟨h.1,h.2.1,?_⟩) (hv.mono fun t ab h=>⟨s1.free h.1,h.2.1,?_⟩)
    ·rw [qr h.2.1];exact s3 _ _ (s2 _ _ h.2.2)
    ·rw [qr h.2.1];exact s3 _ _ h.2.2
  ·obtain ⟨us,x3,rfl,s1,hr1,hlen,hall⟩:=hp
   have etk:ss.take (ss.map V.str).length=ss:=by rw [List.length_map,List.take_length]
   rw [etk] at hall
   rw [List.length_map] at hlen
   walk_at "vc"
   exact q r us H1 s1 hr0 hr1 (by have:ss.length * 14≤14 * 14:=Nat.mul_le_mul_right 14 few;omega) hall
end
def Adj (ss:List Str) (ns:List Nat) (tps:List (Str×Str)):Prop:=∀ a b s t,ss[a]?=some s→ss[b]?=some t→((ns.getD a 0).testBit b=true↔((s,t)∈tps∨(t,s)∈tps))
theorem mem_bes {ss:List Str} {tps:List (Str×Str)} {pl t:Str}:t∈zb ss tps pl↔t∈ss∧((pl,t)∈tps∨(t,pl)∈tps):=by
 unfold zb
 rw [List.mem_filter,Bool.or_eq_true,decide_eq_true_iff,decide_eq_true_iff]
theorem zw {ss:List Str} {s:Str} (h:s∈ss):ss[ss.idxOf s]?=some s:=by
 have hl:=List.idxOf_lt_length_of_mem h
 rw [List.getElem?_eq_getElem hl,List.getElem_idxOf]
section
variable {P:Program} {w:World} {K:W.Frag} {mg:Str→Option Value} {base:Heap} {cc:Nat→Addr} {cw:Addr}
structure Wk (ss:List Str) (ns:List Nat) (k:Nat) (name:Str) (ps qs:List Str):Prop where
 nd:ps.Nodup
 has:name∈ps
 rch:∀ s∈ps,s∈ss∧Rch ns k (ss.idxOf s)
 sub:∀ s∈qs,s∈ps
end
theorem place_no {ss:List Str} {v:V} (h:j8 v=false):qt ss v=false:=by
 unfold qt
 rw [if_neg (by rw [h];exact Bool.false_ne_true)]
section
variable {P:Program} {w:World} {K:W.Frag} {mg:Str→Option Value} {base:Heap} {cc:Nat→Addr} {cw:Addr}
theorem qa8 {H:Hp} {n:Nat} {x:V} (h:zt x=true):EqD K H n x x true:=by
 have e:=EqD.flat (K:=K) (H:=H) (n:=n) h h
 rw [eqV_self h] at e
 exact e
theorem Th.eqD {p:Addr} {H:Hp} {n m:Nat} {v:V} (h:Th p H n v):EqD K H m v v true:=by
 cases h with
 | flat f l=>exact qa8 f
 | lst e ne h l=>exact .self
 | tup e ne h l=>exact .self
 | dct e ne=>exact .self
theorem eqT_same {H:Hp} {a b:Addr} {xs:List V} {n:Nat} (ha:H a=some (.lst xs)) (hb:H b=some (.lst xs)) (h:∀ x∈xs,EqD K H n x x true):EqT K H (n + 1) a b true:=
 qev ha hb rfl fun j x y h1 h2=>by
  rw [h1] at h2
  cases h2
  exact h x (List.mem_of_getElem? h1)
end
theorem bes_of {ss:List Str} {ns:List Nat} {dps:List (Str×Str)} (hw:WOk ss ns) (ha:Adj ss ns dps) {k:Nat} {s:Str} (gk:ss[k]?=some s):inB ss 0 (ns.getD k 0)=zb ss dps s:=by
 rw [qag hw.nd]
 unfold zb
 apply List.filter_congr
 intro t ht
 rw [Bool.eq_iff_iff,Bool.or_eq_true,decide_eq_true_iff,decide_eq_true_iff]
 exact ha _ _ s t gk (zw ht)
theorem bits_of {ss:List Str} {ns:List Nat} {dps:List (Str×Str)} (hw:WOk ss ns) (ha:Adj ss ns dps) {k b:Nat} {s:Str} (gk:ss[k]?=some s) (hb:b < 2 ^ ss.length) (h:∀ j t,ss[j]?=some t→b.testBit j=decide (t∈zb ss dps s)):b=ns.getD k 0:=by
 apply Nat.eq_of_testBit_eq
 intro j
 by_cases hj:j < ss.length
 ·have gj:ss[j]?=some ss[j]:=List.getElem?_eq_getElem hj
  rw [h j _ gj,Bool.eq_iff_iff,decide_eq_true_iff,mem_bes,ha _ _ s _ gk gj]
  exact ⟨fun z=>z.2,fun z=>⟨List.getElem_mem hj,z⟩⟩
 ·have hj':ss.length≤j:=by omega
  rw [Nat.testBit_lt_two_pow (Nat.lt_of_lt_of_le hb (Nat.pow_le_pow_right (by decide) hj')),Nat.testBit_lt_two_pow (Nat.lt_of_lt_of_le (hw.lt k) (Nat.pow_le_pow_right (by decide) hj'))]
section
variable {P:Program} {w:World} {K:W.Frag} {mg:Str→Option Value} {base:Heap} {cc:Nat→Addr} {cw:Addr}
theorem qdy {H:Hp} {m:Nat} {ss:List Str}:∀ x∈ss.map V.str,EqD K H m x x true:=fun x hx=>by
 obtain ⟨s,_,rfl⟩:=List.mem_map.mp hx
 exact qa8 rfl
theorem qdz {H:Hp} {a b:Addr} {ss:List Str} {n:Nat} (ha:H a=some (.lst (ss.map V.str))) (hb:H b=some (.lst (ss.map V.str))):EqT K H (n + 1) a b true:=eqT_same ha hb qdy
theorem qbX {H:Hp} {a b:Addr} {xs ys:List V} {n:Nat} (ha:H a=some (.tup xs)) (hb:H b=some (.tup ys)) (hl:xs.length=ys.length) (h:∀ (j:Nat) x y,xs[j]?=some x→ys[j]?=some y→EqD K H n x y true):EqT K H (n + 1) a b true:=by
 have z:=EqT.tup (K:=K) (H:=H) (n:=n) (e:=fun _=>true) (SqT.of ha) (SqT.of hb) h
 rw [qdx,hl,beq_self_eq_true] at z
 exact z
theorem qew {H:Hp} {a b:Addr} {n:Nat} (h:EqT K H n a b true):EqD K H n (.ref a) (.ref b) true:=by
 by_cases e:a=b
 ·subst e;exact .self
 ·exact .deep h e
theorem eqT_prs {H:Hp} {l r:Addr} {ts us:List Addr} {tps:List (Str×Str)} (hl:H l=some (.tup (ts.map V.ref))) (hr:H r=some (.tup (us.map V.ref))) (h:All2 (fun t ab=>H t=some (.tup [.str ab.1,.str ab.2])) ts tps) (g:All2 (fun t ab=>H t=some (.tup [.str ab.1,.str ab.2])) us tps):EqT K H 2 l r true:=by
 refine qbX hl hr (by rw [List.length_map,List.length_map,h.len,g.len]) fun j x y hx hy=>?_
 rw [List.getElem?_map] at hx hy
 cases hx':ts[j]? with
 | none=>rw [hx'] at hx;cases hx
 | some t =>
  cases hy':us[j]? with
  | none=>rw [hy'] at hy;cases hy
  | some u =>
   rw [hx'] at hx
   rw [hy'] at hy
   cases hx
   cases hy
   have hj:j < tps.length:=by rw [← h.len];exact (List.getElem?_eq_some_iff.mp hx').1
   have e:=zN (K:=K) (h.at_ j t tps[j] hx' (List.getElem?_eq_getElem hj)) (g.at_ j u tps[j] hy' (List.getElem?_eq_getElem hj))
   rw [decide_eq_true rfl] at e
   exact e
end
theorem vAsgT {te:TE} {K:W.Frag} {n:Nat} {gs:TGs} {D:Ends} {σ:L2.St} {H:Hp} (h:te σ H fun x H1=>qgr K n gs x σ H1 D.nx):qfI te (qgr K n gs) D σ H:=h
def UN (x y:Str×Str):Prop:=x≠y∧x≠(y.2,y.1)
theorem UN.symm {x y:Str×Str} (h:UN x y):UN y x:=⟨fun e=>h.1 e.symm,fun e=>h.2 (by rw [e])⟩
theorem TOk.un {ss:List Str} {tps:List (Str×Str)} (hn:ss.Nodup) (h:TOk ss tps):tps.Pairwise UN:=by
 have nd:=h.nd
 refine List.Pairwise.imp_of_mem (fun {a b} ha hb (hne:a≠b)=>⟨hne,fun e=>?_⟩) nd
 obtain ⟨j,k,h1,h2,h3⟩:=h.ok a ha
 obtain ⟨j',k',g1,g2,g3⟩:=h.ok b hb
 rw [e] at h2 h3
 have e1:=qz hn h2 g3
 have e2:=qz hn h3 g2
 omega
theorem Shuf.un {ss:List Str} {tps ups:List (Str×Str)} (hn:ss.Nodup) (h:TOk ss tps) (sh:Shuf tps ups):ups.Pairwise UN:=by
 obtain ⟨qps,hp,hA⟩:=sh
 have hu:=h.un hn
 refine hp.symm.pairwise ?_ fun h=>h.symm
 refine List.pairwise_iff_getElem.mpr fun i j hi hj hij=>?_
 have hi':i < tps.length:=by rw [hA.len];exact hi
 have hj':j < tps.length:=by rw [hA.len];exact hj
 have hu':=List.pairwise_iff_getElem.mp hu i j hi' hj' hij
 have ai:=hA.at_ i tps[i] qps[i] (List.getElem?_eq_getElem hi') (List.getElem?_eq_getElem hi)
 have aj:=hA.at_ j tps[j] qps[j] (List.getElem?_eq_getElem hj') (List.getElem?_eq_getElem hj)
 generalize tps[i]=a at hu' ai
 generalize tps[j]=b at hu' aj
 generalize qps[i]=c at ai
 generalize qps[j]=d at aj
 obtain ⟨a1,a2⟩:=a
 obtain ⟨b1,b2⟩:=b
 obtain ⟨h1,h2⟩:=hu'
 rcases ai with rfl | rfl<;>rcases aj with rfl | rfl<;>refine ⟨fun e=>?_,fun e=>?_⟩<;>dsimp only at e h1 h2<;>rw [Prod.mk.injEq] at e<;>simp only [ne_eq,Prod.mk.injEq] at h1 h2<;>first | exact h1 ⟨e.1,e.2⟩ | exact h2 ⟨e.1,e.2⟩ | exact h1 ⟨e.2,e.1⟩ | exact h2 ⟨e.2,e.1⟩
theorem Shuf.mem {tps ups:List (Str×Str)} (sh:Shuf tps ups) (s t:Str):((s,t)∈ups∨(t,s)∈ups)↔((s,t)∈tps∨(t,s)∈tps):=by
 obtain ⟨qps,hp,hA⟩:=sh
 rw [hp.mem_iff,hp.mem_iff]
 constructor
 ·have key:∀ c∈qps,c∈tps∨(c.2,c.1)∈tps:=fun c hc=>by
   obtain ⟨k,hk,e⟩:=List.getElem_of_mem hc
   have hk':k < tps.length:=by rw [hA.len];exact hk
   have a:=hA.at_ k tps[k] qps[k] (List.getElem?_eq_getElem hk') (List.getElem?_eq_getElem hk)
   rw [e] at a
   rcases a with a | a
   ·rw [a];exact .inl (List.getElem_mem hk')
   ·rw [a];exact .inr (List.getElem_mem hk')
  rintro (h | h)
  ·exact key _ h
  ·rcases key _ h with h | h
   ·exact .inr h
   ·exact .inl h
 ·have key:∀ c∈tps,c∈qps∨(c.2,c.1)∈qps:=fun c hc=>by
   obtain ⟨d,hd,r⟩:=hA.mem hc
   rcases r with r | r
   ·rw [← r];exact .inl hd
   ·rw [← r];exact .inr hd
  rintro (h | h)
  ·exact key _ h
  ·rcases key _ h with h | h
   ·exact .inr h
   ·exact .inl h
theorem Shuf.good {ss:List Str} {tps ups:List (Str×Str)} (h:TOk ss tps) (sh:Shuf tps ups):∀ ab∈ups,ab.1∈ss∧ab.2∈ss∧(ss.Nodup→ab.1≠ab.2):=fun ab hab=>by
 have:=(sh.mem ab.1 ab.2).mp (.inl hab)
 rcases this with h' | h'
 ·obtain ⟨j,k,h1,h2,h3⟩:=h.ok _ h'
  exact ⟨List.mem_of_getElem? h2,List.mem_of_getElem? h3,fun nd e=>by dsimp only at h2 h3;rw [e] at h2;have:=qz nd h2 h3;omega⟩
 ·obtain ⟨j,k,h1,h2,h3⟩:=h.ok _ h'
  exact ⟨List.mem_of_getElem? h3,List.mem_of_getElem? h2,fun nd e=>by dsimp only at h2 h3;rw [e] at h3;have:=qz nd h2 h3;omega⟩
theorem Shuf.len {tps ups:List (Str×Str)} (sh:Shuf tps ups):ups.length=tps.length:=by
 obtain ⟨qps,hp,hA⟩:=sh
 rw [hp.length_eq,hA.len]
theorem qcU:∀ (l acc:List Str),(∀ s∈l,jC s=true)→l.Nodup→(∀ s∈l,s∉acc)→qdm (l.map V.str) acc=none
 | [],_,_,_,_=>rfl
 | s::r,acc,hn,nd,hd=>by
  rw [List.map_cons,qcs,if_pos (show j8 (.str s)=true from hn s List.mem_cons_self),if_neg (show ¬ qC (.str s)∈acc from hd s List.mem_cons_self)]
  show qdm (r.map V.str) (acc++[s])=none
  rw [List.nodup_cons] at nd
  refine qcU r _ (fun t ht=>hn t (List.mem_cons_of_mem _ ht)) nd.2 fun t ht hm=>?_
  rcases List.mem_append.mp hm with h | h
  ·exact hd t (List.mem_cons_of_mem _ ht) h
  ·have:t=s:=List.mem_singleton.mp h
   rw [this] at ht
   exact nd.1 ht
theorem tieV_ok {H:Hp} {ss:List Str} {t:Addr} {a b:Str} (e:H t=some (.tup [.str a,.str b])) (ha:qt ss (.str a)=true) (hb:qt ss (.str b)=true) (hne:a≠b):zM H ss (.ref t)=some (a,b):=by
 rw [qdl e,if_pos]
 ·rfl
 ·unfold qdM
  rw [ha,hb]
  simp [qC,hne]
theorem qfm {H:Hp} {ss:List Str}:∀ (us:List Addr) (ups seen:List (Str×Str)),us.length=ups.length→(∀ (k:Nat) t ab,us[k]?=some t→ups[k]?=some ab→zM H ss (.ref t)=some ab)→(seen++ups).Pairwise UN→goT H ss (us.map V.ref) seen=none
 | [],_,_,_,_,_=>rfl
 | u::us,[],_,hl,_,_=>by cases hl
 | u::us,ab::ups,seen,hl,hc,hp=>by
  rw [List.map_cons,qdn (hc 0 u ab rfl rfl),if_neg]
  ·refine qfm us ups (seen++[ab]) (Nat.succ.inj hl) (fun k t cd h1 h2=>hc (k + 1) t cd (by simpa using h1) (by simpa using h2)) ?_
   rw [List.append_assoc]
   exact hp
  ·rw [List.pairwise_append] at hp
   rintro (h | h)
   ·exact (hp.2.2 ab h ab List.mem_cons_self).1 rfl
   ·exact (hp.2.2 _ h ab List.mem_cons_self).2 rfl
theorem qex {H:Hp} {ss:List Str}:∀ (us:List Addr) (ups:List (Str×Str)),us.length=ups.length→(∀ (k:Nat) t ab,us[k]?=some t→ups[k]?=some ab→zM H ss (.ref t)=some ab)→(us.map V.ref).filterMap (zM H ss)=ups
 | [],[],_,_=>rfl
 | [],_::_,hl,_=>by cases hl
 | _::_,[],hl,_=>by cases hl
 | u::us,ab::ups,hl,hc=>by
  rw [List.map_cons,List.filterMap_cons,hc 0 u ab rfl rfl]
  exact congrArg (ab::·) (qex us ups (Nat.succ.inj hl) fun k t cd h1 h2=>hc (k + 1) t cd (by simpa using h1) (by simpa using h2))
theorem qbq (ss:List Str):(ss.map V.str).map qC=ss:=by
 rw [List.map_map]
 exact List.map_id ss
theorem make_ok {H:Hp} {ss:List Str} {v v2:V} {us:List Addr} {tps ups:List (Str×Str)} (hO:NOk ss) (hT:TOk ss tps) (sh:Shuf tps ups) (hc:All2 (fun t ab=>H t=some (.tup [.str ab.1,.str ab.2])) us ups) :
  qeI H v (some (ss.map V.str)) v2 (some (us.map V.ref))=none∧(us.map V.ref).filterMap (zM H ss)=ups:=by
 have pl:∀ s,s∈ss→qt ss (.str s)=true:=fun s hs=>qah hs (hO.nm s hs)
 have tv:∀ (k:Nat) t ab,us[k]?=some t→ups[k]?=some ab→zM H ss (.ref t)=some ab:=fun k t ab h1 h2=>by
  obtain ⟨g1,g2,g3⟩:=sh.good hT ab (List.mem_of_getElem? h2)
  exact tieV_ok (hc.at_ k t ab h1 h2) (pl _ g1) (pl _ g2) (g3 hO.nd)
 have hN:qfg v (some (ss.map V.str))=none:=by
  show (if 14 < (ss.map V.str).length then _ else qdm (ss.map V.str) [])=none
  rw [if_neg (by rw [List.length_map];have:=hO.few;omega)]
  exact qcU ss [] hO.nm hO.nd (by simp)
 refine ⟨?_,qex us ups hc.len tv⟩
 unfold qeI
 rw [hN]
 show qei H ((ss.map V.str).map qC) v2 (some (us.map V.ref))=none
 rw [qbq]
 show (if 30 < (us.map V.ref).length then _ else (goT H ss (us.map V.ref) []).map _)=none
 rw [if_neg (by rw [List.length_map,hc.len,sh.len];have:=hT.few;omega),qfm us ups [] hc.len tv (by simpa using sh.un hO.nd hT)]
 rfl
theorem qdA {ss:List Str} {ns:List Nat} {tps ups:List (Str×Str)} (sh:Shuf tps ups) (hb:zQ ss ns ups):Adj ss ns tps:=fun a b s t ga gb=>by
 rw [hb.2.2 a b s t ga gb,decide_eq_true_iff]
 exact sh.mem s t
theorem qbY {ss:List Str} {tps:List (Str×Str)} (hT:TOk ss tps) (s t:Str):(s,t)∈jd ss tps ss↔(s,t)∈tps:=by
 unfold jd
 rw [List.mem_flatMap]
 constructor
 ·rintro ⟨one,_,h⟩
  unfold ji at h
  obtain ⟨o,ho,e⟩:=List.mem_map.mp h
  cases e
  exact of_decide_eq_true (List.mem_filter.mp ho).2
 ·intro h
  obtain ⟨j,k,h1,h2,h3⟩:=hT.ok _ h
  refine ⟨s,List.mem_of_getElem? h2,?_⟩
  unfold ji
  exact List.mem_map.mpr ⟨t,List.mem_filter.mpr ⟨List.mem_of_getElem? h3,decide_eq_true h⟩,rfl⟩
theorem Adj.ris {ss:List Str} {ns:List Nat} {tps:List (Str×Str)} (hT:TOk ss tps) (h:Adj ss ns tps):Adj ss ns (jd ss tps ss):=fun a b s t ga gb=>by
 rw [qbY hT,qbY hT]
 exact h a b s t ga gb
theorem qcA (ss:List Str):(List.range ss.length).map (fun i=>ss.getD i "")=ss:=by
 apply List.ext_getElem?
 intro i
 rw [List.getElem?_map]
 by_cases h:i < ss.length
 ·rw [List.getElem?_range h,List.getElem?_eq_getElem h]
  simp [List.getD,h]
 ·rw [List.getElem?_eq_none (by simpa using h),List.getElem?_eq_none (by omega)]
  rfl
theorem qbZ {ss:List Str} {ns:List Nat} {tps:List (Str×Str)} (hw:WOk ss ns) (hT:TOk ss tps) (ha:Adj ss ns tps):qa3 ss ns ss.length=jd ss tps ss:=by
 have e:jd ss tps ss=(List.range ss.length).flatMap fun i=>ji ss tps (ss.getD i ""):=by
  unfold jd
  conv=>lhs;rw [← qcA ss]
  rw [List.flatMap_map]
  rw [qcA]
 rw [e]
 unfold qa3
 have key:∀ i∈List.range ss.length,qfC ss ns i=ji ss tps (ss.getD i ""):=fun i hi=>by
  have hi:i < ss.length:=List.mem_range.mp hi
  have gi:ss[i]?=some (ss.getD i ""):=by simp [List.getD,hi]
  unfold qfC ji
  congr 1
  rw [qag hw.nd,List.filter_filter]
  apply List.filter_congr
  intro o ho
  have go:=zw ho
  rw [Bool.eq_iff_iff,Bool.and_eq_true,decide_eq_true_iff,decide_eq_true_iff,ha i _ _ o gi go]
  constructor
  ·rintro ⟨h1,h2 | h2⟩
   ·exact h2
   ·obtain ⟨j,k,l1,l2,l3⟩:=hT.ok _ h2
    have e1:=qz hw.nd l2 go
    have e2:=qz hw.nd l3 gi
    omega
  ·intro h
   obtain ⟨j,k,l1,l2,l3⟩:=hT.ok _ h
   have e1:=qz hw.nd l2 gi
   have e2:=qz hw.nd l3 go
   exact ⟨by omega,.inl h⟩
 have fmc:∀ l:List Nat,(∀ i∈l,qfC ss ns i=ji ss tps (ss.getD i ""))→l.flatMap (qfC ss ns)=l.flatMap fun i=>ji ss tps (ss.getD i ""):=fun l=>by
  induction l with
  | nil=>intro _;rfl
  | cons a r ih =>
   intro h
   rw [List.flatMap_cons,List.flatMap_cons,h a List.mem_cons_self,ih fun i hi=>h i (List.mem_cons_of_mem _ hi)]
 exact fmc _ key
theorem BB.out {p:Addr} {H H1 H2:Hp} (s:L2.Same H H1) (hp:H p=none) (b:BB p H1 H2):L2.Same H H2:=fun c o e=>b.1 c o (fun z=>by subst z;rw [hp] at e;cases e) (s c o e)
theorem But.out {x:Addr} {H H0 H':Hp} (b:But x H0 H') (s:L2.Same H H0) (hx:H x=none):L2.Same H H':=fun c o e=>b c o (fun z=>by subst z;rw [hx] at e;cases e) (s c o e)
def qeU (K:W.Frag):Sp:=fun vs H Q _=>∃ (a:Addr) (ns:List Int),vs=[.ref a]∧SqL K H a (ns.map V.int)∧ns.length≤63∧∀ H',Q (.bl true) H'
section
variable {P:Program} {w:World} {K:W.Frag} {mg:Str→Option Value} {base:Heap} {cc:Nat→Addr} {cw:Addr}
end
def qeV (l:Str):Str:=(PySem.Txt.partition l ":").1
def pMid (l:Str):Str:=(PySem.Txt.partition l ":").2.1
def pTail (l:Str):Str:=(PySem.Txt.partition l ":").2.2
def wds (l:Str):List Str:=PySem.Txt.split (pTail l) " "
def fw:List Str→Nat→List Str→Sum Nat (List Str)
 | [],_,acc=>.inr acc
 | l::r,k,acc=>if pMid l=""∨jC (qeV l)=false∨qeV l∈acc∨14≤k then .inl k else fw r (k + 1) (acc++[qeV l])
def bel (ss:List Str):List Str→Nat→Bool
 | [],_=>true
 | w::r,k=>if w∈ss∧k < ss.idxOf w then bel ss r (ss.idxOf w) else false
def qg2 (l:Str):List (Str×Str):=(wds l).tail.map fun o=>(qeV l,o)
def ti (ss:List Str):List Str→Nat→List (Str×Str)→Sum Nat (List (Str×Str))
 | [],_,acc=>.inr acc
 | l::r,k,acc=>if (wds l).headD ""≠""∨bel ss (wds l).tail k=false∨30 < (acc++qg2 l).length then .inl k else ti ss r (k + 1) (acc++qg2 l)
theorem qey {α:Type} {xs:List α} {i:Nat} {x:α} (hx:xs[i]?=some x):xs.drop i=x::xs.drop (i + 1):=by
 have hil:i < xs.length:=(List.getElem?_eq_some_iff.mp hx).1
 rw [List.drop_eq_getElem_cons hil,(List.getElem?_eq_some_iff.mp hx).2]
section
variable {P:Program} {w:World} {K:W.Frag} {mg:Str→Option Value} {base:Heap} {cc:Nat→Addr} {cw:Addr}
end
section
variable {P:Program} {w:World} {K:W.Frag} {mg:Str→Option Value} {base:Heap} {cc:Nat→Addr} {cw:Addr}
end
theorem Shuf.self (tps:List (Str×Str)):Shuf tps tps:=⟨tps,List.Perm.refl _,rfl,fun k a b h1 h2=>by rw [h1] at h2;cases h2;exact .inl rfl⟩
theorem WebN.old {H0 H1:Hp} {cw:Addr} {H:Hp} {x:Addr} {ss:List Str} {ns:List Nat} (h:WebN H1 cw H x ss ns) (s:L2.Same H0 H1):WebN H0 cw H x ss ns:=by
 obtain ⟨dx,d,ol,n,h1,h2,h3,h4,h5,a2,a3,a4⟩:=h
 exact ⟨dx,d,ol,n,h1,h2,h3,h4,h5,s.free a2,s.free a3,s.free a4⟩
theorem qam {cc:Nat→Addr} {cw:Addr} {G:Hp} {c1 l' x dx:Addr} {ss:List Str} {us:List Addr} {tps ups:List (Str×Str)} {Q:VK} {E:XK} (h1:G c1=some (.lst (ss.map V.str))) (h2:G l'=some (.lst (us.map V.ref))) (hA:All2 (fun t ab=>G t=some (.tup [.str ab.1,.str ab.2])) us ups)
  (hO:NOk ss) (hT:TOk ss tps) (sh:Shuf tps ups) (hx0:G x=none) (hdx:G dx=none) (hne:x≠dx) (q:∀ ns H',L2.Same G H'→WebN G cw H' x ss ns→zQ ss ns ups→Q .non H') :
  qbx cc cw [.ref x,.ref c1,.ref l'] (upd (upd G dx (.own x)) x (.ins cw dx [])) Q E:=by
 have s0:L2.Same G (upd (upd G dx (.own x)) x (.ins cw dx [])):=qE (qE (L2.Same.refl G) hdx) (by rw [qr hne];exact hx0)
 have hl0:=hA.mono fun t ab z=>s0 _ _ z
 have mk0:=make_ok (H:=upd (upd G dx (.own x)) x (.ins cw dx [])) (v:=.ref c1) (v2:=.ref l') hO hT sh hl0
 have nx:∀ {a:Addr} {o:HO},G a=some o→a≠x:=fun e z=>by rw [z,hx0] at e;cases e
 refine ⟨x,x,dx,.ref c1,some (ss.map V.str),.ref l',some (us.map V.ref),rfl,qc,.lst (s0 _ _ h1) (nx h1) (fun v hv=>?_) (by rw [List.length_map];have:=hO.few;omega),.lst (s0 _ _ h2) (nx h2) (fun v hv=>?_) (by rw [List.length_map,hA.len,sh.len];have:=hT.few;omega),(fun r e=>by rw [mk0.1] at e;cases e),fun _ ns H' b hWN hbits=>?_⟩
 ·obtain ⟨s,hs,rfl⟩:=List.mem_map.mp hv
  exact Th.flat rfl fun z e=>by cases e;have:=zC (hO.nm _ hs);omega
 ·obtain ⟨u,hu',rfl⟩:=List.mem_map.mp hv
  obtain ⟨ab,hab,eu⟩:=hA.mem hu'
  obtain ⟨g1,g2,_⟩:=sh.good hT ab hab
  refine (Th.tup (n:=1) (s0 _ _ eu) (nx eu) (fun z hz=>?_) (by show 2≤1000;decide))
  simp only [List.mem_cons,List.not_mem_nil,or_false] at hz
  rcases hz with rfl | rfl
  ·exact Th.flat rfl fun z e=>by cases e;have:=zC (hO.nm _ g1);omega
  ·exact Th.flat rfl fun z e=>by cases e;have:=zC (hO.nm _ g2);omega
 ·have e1:((some (ss.map V.str)).getD []).map qC=ss:=qbq ss
  rw [e1] at hbits hWN
  have e2:((some (us.map V.ref)).getD []).filterMap (zM (upd (upd G dx (.own x)) x (.ins cw dx [])) ss)=ups:=mk0.2
  rw [e2] at hbits
  exact q ns H' (b.out s0 hx0) (hWN.old s0) hbits
section
variable {P:Program} {w:World} {K:W.Frag} {mg:Str→Option Value} {base:Heap} {cc:Nat→Addr} {cw:Addr}
end
abbrev q8:Stmt:=qT (top 14) 13
theorem sc_Web_without:FnScope ["self", "places", "out", "place", "names", "kept"] ["self", "places"] (qe q8):=⟨rfl,rfl,rfl,by decide +kernel,rfl,by decide +kernel,by decide +kernel⟩
structure WG (ss:List Str) (ns:List Nat) (dps:List (Str×Str)):Prop where
 tok:TOk ss dps
 adj:Adj ss ns dps
 due:qa3 ss ns ss.length=dps
def qa0 (ss:List Str):List V→Option V
 | []=>none
 | x::r=>if qt ss x=true then qa0 ss r else some x
def ze (ss:List Str) (xs:List V):List Str:=ss.filter fun s=>!decide (s∈xs.map qC)
def zf (dps:List (Str×Str)) (ks:List Str):List (Str×Str):=dps.filter fun t=>decide (t.1∈ks)&&decide (t.2∈ks)
theorem qdB {a b:Str}:∀ {l:List Str} {j k:Nat},l[j]?=some a→l[k]?=some b→j < k→[a,b].Sublist l
 | [],_,_,h,_,_=>by simp at h
 | x::r,0,k + 1,h1,h2,_=>by
  have e:x=a:=by simpa using h1
  subst e
  have h2:r[k]?=some b:=by simpa using h2
  exact (List.singleton_sublist.mpr (List.mem_of_getElem? h2)).cons₂ x
 | x::r,j + 1,k + 1,h1,h2,h=>(qdB (l:=r) (by simpa using h1) (by simpa using h2) (by omega)).cons x
theorem qdC {a b:Str}:∀ {l:List Str},[a,b].Sublist l→∃ j k:Nat,j < k∧l[j]?=some a∧l[k]?=some b
 | [],h=>by cases h
 | x::r,h=>by
  cases h with
  | cons _ h =>
   obtain ⟨j,k,h1,h2,h3⟩:=qdC h
   exact ⟨j + 1,k + 1,by omega,by simpa using h2,by simpa using h3⟩
  | cons_cons _ h =>
   have hb:=List.singleton_sublist.mp h
   obtain ⟨k,hk⟩:=List.getElem?_of_mem hb
   exact ⟨0,k + 1,by omega,rfl,by simpa using hk⟩
theorem NOk.keep {ss:List Str} (h:NOk ss) (p:Str→Bool):NOk (ss.filter p):=⟨Nat.le_trans (List.length_filter_le _ _) h.few,h.nd.filter _,fun s hs=>h.nm s (List.mem_filter.mp hs).1⟩
theorem TOk.keep {ss:List Str} {dps:List (Str×Str)} (h:TOk ss dps) (p:Str→Bool):TOk (ss.filter p) (zf dps (ss.filter p)):=by
 refine ⟨Nat.le_trans (List.length_filter_le _ _) h.few,fun ab hab=>?_,h.nd.filter _⟩
 obtain ⟨hm,hc⟩:=List.mem_filter.mp hab
 rw [Bool.and_eq_true,decide_eq_true_iff,decide_eq_true_iff] at hc
 obtain ⟨j,k,h1,h2,h3⟩:=h.ok ab hm
 have hs:=(qdB h2 h3 h1).filter p
 have pa:=(List.mem_filter.mp hc.1).2
 have pb:=(List.mem_filter.mp hc.2).2
 rw [List.filter_cons_of_pos pa,List.filter_cons_of_pos pb,List.filter_nil] at hs
 exact qdC hs
theorem qaA {q:Str×Str→Bool} {f:Str→List (Str×Str)}:∀ l:List Str,(l.flatMap f).filter q=l.flatMap fun a=>(f a).filter q
 | []=>rfl
 | a::r=>by rw [List.flatMap_cons,List.flatMap_cons,List.filter_append,qaA r]
theorem qbr {g:Str→List (Str×Str)} {p:Str→Bool}:∀ l:List Str,(∀ a∈l,p a=false→g a=[])→l.flatMap g=(l.filter p).flatMap g
 | [],_=>rfl
 | a::r,h=>by
  rw [List.flatMap_cons,List.filter_cons,qbr r fun x hx=>h x (List.mem_cons_of_mem _ hx)]
  cases e:p a
  ·rw [h a List.mem_cons_self e];rfl
  ·rfl
theorem qan {g h:Str→List (Str×Str)}:∀ l:List Str,(∀ a∈l,g a=h a)→l.flatMap g=l.flatMap h
 | [],_=>rfl
 | a::r,e=>by rw [List.flatMap_cons,List.flatMap_cons,e a List.mem_cons_self,qan r fun x hx=>e x (List.mem_cons_of_mem _ hx)]
theorem qb0 {ss:List Str} {dps:List (Str×Str)} (hr:jd ss dps ss=dps) (p:Str→Bool):jd (ss.filter p) (zf dps (ss.filter p)) (ss.filter p)=zf dps (ss.filter p):=by
 have e1:zf dps (ss.filter p)=zf (jd ss dps ss) (ss.filter p):=by rw [hr]
 conv=>rhs;rw [e1]
 unfold jd zf
 rw [qaA]
 rw [qbr (p:=p) ss fun a ha hp=>?_]
 ·refine qan _ fun a ha=>?_
  unfold ji
  rw [List.filter_map,List.filter_filter]
  congr 1
  rw [List.filter_filter]
  refine List.filter_congr fun o ho=>?_
  rw [Bool.eq_iff_iff]
  have hao:a∈List.filter p ss:=ha
  simp only [Bool.and_eq_true,decide_eq_true_iff,Function.comp,List.mem_filter]
  constructor
  ·rintro ⟨⟨h1,h2,h3⟩,h4⟩
   exact ⟨⟨List.mem_filter.mp hao,ho,h4⟩,h1⟩
  ·rintro ⟨⟨h1,h2,h3⟩,h4⟩
   exact ⟨⟨h4,List.mem_filter.mp hao,ho,h3⟩,h3⟩
 ·unfold ji
  rw [List.filter_eq_nil_iff]
  intro t ht hc
  obtain ⟨o,_,rfl⟩:=List.mem_map.mp ht
  rw [Bool.and_eq_true,decide_eq_true_iff] at hc
  have:=(List.mem_filter.mp hc.1).2
  rw [hp] at this
  cases this
def OutK (ss:List Str) (kvs:List (Key×V)) (xs:List V):Prop:=∀ (j:Nat) (s:Str),ss[j]?=some s→(qaC kvs (.inl (j:Int):Key)).isSome=decide (s∈xs.map qC)
def qez (cc:Nat→Addr) (cw:Addr):Sp:=fun vs H Q E=>∃ (p x:Addr) (ss:List Str) (ns:List Nat) (dps:List (Str×Str)) (v:V) (o:Option (List V)),vs=[.ref x,v]∧WebAt cw H x ss ns∧WG ss ns dps∧Arg p H v o∧(o=none→Rz cc H E (2,v))∧(∀ xs y,o=some xs→qa0 ss xs=some y→Rz cc H E (2,y)) ∧
 ∀ xs,o=some xs→qa0 ss xs=none→∀ (x':Addr) (ns':List Nat) (H':Hp),L2.Same H H'→H x'=none→WebN H cw H' x' (ze ss xs) ns'→zQ (ze ss xs) ns' (zf dps (ze ss xs))→Q (.ref x') H'
section
variable {P:Program} {w:World} {K:W.Frag} {mg:Str→Option Value} {base:Heap} {cc:Nat→Addr} {cw:Addr}
theorem ok_wout {f:Addr} {fd:FuncData} (F:Fun K "without" "Web.without" q8 f fd) (T:Txt K mg cc cw) (D_Web_number_of:MethOk P w K mg base (CX1 P w) 4 cw "number_of" ["self", "place"] (qek cc cw)) (D_Web_ties:MethOk P w K mg base CX0 7 cw "ties" ["self"] (qfD cw))
  (D_Web:MakeOk P w K mg base (CX1 P w) 5 cw "Web" ["self", "names", "ties"] (qbx cc cw)) (D_NoPlace:XMakeOk P w K mg base 2 (cc 2) "NoPlace" ["self", "found"] (spX (cc 2) (qay 2))):FnOk P w K mg base (CX1 P w) 8 f fd ["self", "places"] (qez cc cw):=by
 refine F.ok1 sc_Web_without (fun vs H Q E h=>?_) fun cdv A outer s H vs Q E hr h=>?_
 ·obtain ⟨p,x,ss,ns,dps,v,o,rfl,_⟩:=h;rfl
 ·obtain ⟨p,x,ss,ns,dps,v,o,rfl,hW,hG,ha,hz,hz2,q⟩:=h
  have hu:=zR hr
  obtain ⟨dx,d,ol,n,hx,hd,ho,hn,hw⟩:=id hW
  have few:=hw.few
  have num:∀ (H1:Hp) (y:Str) (i:Nat),L2.Same H H1→ss[i]?=some y→DGet H1 d (.str y) (some (.int (i:Nat))):=fun H1 y i s1 gi=>by
   obtain ⟨j,hj,gj,vj⟩:=j9 (i:=0) (List.mem_of_getElem? gi)
   rw [Nat.zero_add] at vj
   have hji:j=i:=qz hw.nd gj gi
   subst hji
   have:=DGet.k (k:=Sum.inr y) (s1 _ _ hd)
   rw [vj] at this
   exact this
  refine ⟨_,(qd (qF (jr (qP (qm (qbS (K:=K) rfl) rfl T.b_isinstance boot_isinstance (qa (pv 1) (qa (qG (qa (jO (v:=.ty "list") rfl T.b_list boot_list rfl) (qa (jO (v:=.ty "tuple") rfl T.b_tuple boot_tuple rfl) qb))) qb))))) (qf (jR (K:=K) rfl qR (qaI D_NoPlace (hm hr) (qa (pv 1) qb)))) qi)
 (qd (qu (i:=2) sc_Web_without.nd rfl (Or.inr rfl) qbN)
 (qd (jP PassesOwn.leaving rfl (jh (K:=K) rfl (pv 1)) (qv (i:=3) sc_Web_without.nd rfl (Or.inl rfl))
 (qf (qbb zS (qbz (pv 2) (jS D_Web_number_of (hm hr) qR (pv 0) (qa (pv 3) qb)) (qbF hu)))))
 (qd (qu (i:=4) sc_Web_without.nd rfl (Or.inr rfl) (jW (sc:=qe q8) (XN:=["self", "places", "out", "place", "names", "kept"]) ["name", "out", "self"] 1 [2,0] rfl rfl rfl (by decide +kernel) rfl (by decide +kernel)
  (jh (K:=K) rfl (jk (K:=K) rfl (pv 0) rfl)) (fun _ _ _ _=>(qv (i:=0) (show (["name", "out", "self"]:List Str).Nodup by decide +kernel) rfl (Or.inl rfl))) je
  (fun _ _ _ _=>(jx (qo (qaf (K:=K) rfl hu) (qA (qB (K:=K) rfl hu) (jk (K:=K) rfl (pv 2) rfl) (pv 0) (fun _ _=>rfl)) (pv 1) (by with_unfolding_all rfl))))
  (fun _ _ _ _=>(pv 0))))
 (qd (qaw (sc:=qe q8) (XN:=["self", "places", "out", "place", "names", "kept"]) ["tie", "names"] 1 [4] rfl rfl rfl (by decide +kernel) rfl (by decide +kernel) (i:=5) sc_Web_without.nd rfl rfl
  (jh (K:=K) rfl (qZ D_Web_ties (hm hr) (pv 0))) (fun _ _ _ _=>(qv (i:=0) (show (["tie", "names"]:List Str).Nodup by decide +kernel) rfl (Or.inl rfl))) je
  (fun _ _ _ _=>(jx (PW.pt (qby (qo (qax (K:=K) rfl hu) (qA (qB (K:=K) rfl hu) (pv 0) qg (fun _ _=>rfl)) (pv 1) (by with_unfolding_all rfl)) (qaT (qo (qax (K:=K) rfl hu) (qA (qB (K:=K) rfl hu) (pv 0) qg (fun _ _=>rfl)) (pv 1) (by with_unfolding_all rfl)))))))
  (fun _ _ _ _=>(pv 0)))
 (qf (qk (qa6 D_Web (hm hr) qR (qa (pv 4) (qa (pv 5) qb)))))))))),?_⟩
  walk_at "vc"
  refine ⟨by show 2≤sizeLine;decide,fun g hg=>?_⟩
  have s0:=qE (L2.Same.refl H) (o:=.tup [.ty "list",.ty "tuple"]) hg
  walk_at "vc"
  refine (ha.same s0).isi qc ?_
  walk_at "vc"
  cases o with
  | none =>
   refine qD (fun _=>?_) (fun h=>absurd rfl h)
   walk_at "vc"
   exact qM (T.xat 2 (by decide)) ((hz rfl).later s0)
  | some xs =>
   refine qD (fun h=>by cases h) fun _=>?_
   obtain ⟨fewx,hth⟩:=ha.few
   walk_at "vc"
   intro od hod
   have s1:=qE s0 (o:=.dK []) hod
   have hod0:H od=none:=s0.free hod
   walk_at "vc"
   refine qbU ha s1 (fun i σ H'=>∃ (kvs:List (Key×V)) (x3:Option V),σ=[some (.ref x),some v,some (.ref od),x3,none,none]∧L2.Same H H'∧H' od=some (.dK kvs)∧kvs.length≤i∧OutK ss kvs (xs.take i)∧qa0 ss xs=qa0 ss (xs.drop i)) ⟨[],none,rfl,s1,qc,Nat.le_refl _,fun j s' _=>by simp [qaC],rfl⟩ (fun i σ H' hp=>by obtain ⟨_,_,_,z,_⟩:=hp;exact z) (fun i y σ H1 hy hp=>?_) fun σ H1 hp=>?_
   ·obtain ⟨kvs,x3,rfl,s2,hk,hkl,hout,hfr⟩:=hp
    have hil:i < xs.length:=(List.getElem?_eq_some_iff.mp hy).1
    have htk:xs.take (i + 1)=xs.take i++[y]:=by rw [List.take_add_one,hy];rfl
    rw [qey hy] at hfr
    have hfr:qa0 ss xs=if qt ss y=true then qa0 ss (xs.drop (i + 1)) else some y:=hfr
    walk_at "vc"
    refine ⟨x,dx,_,rfl,s2 _ _ hx,js (by decide +kernel),?_⟩
    walk_at "vc"
    refine ⟨p,2,x,ss,ns,y,rfl,hW.same s2,(hth y (List.mem_of_getElem? hy)).same s2,(fun h=>(hz2 xs y rfl (by rw [hfr,if_neg (by rw [h];exact Bool.false_ne_true)])).later s2),fun j gj hpl H2 s12=>?_⟩
    rw [if_pos hpl] at hfr
    walk_at "vc"
    refine .inr ⟨od,_,rfl,DPut.k (k:=Sum.inl (j:Int)) (s12 _ _ hk) (qh (by omega)),?_⟩
    refine ⟨_,_,rfl,qfe (s2.trans s12) hod0,qc,?_,fun j' s' gj'=>?_,hfr⟩
    ·have:=qav kvs (Sum.inl (j:Int):Key) (V.bl true)
     omega
    ·rw [valV_put,htk,List.map_append]
     by_cases e:j'=j
     ·subst e
      rw [if_pos rfl]
      have:s'=qC y:=by rw [gj'] at gj;exact Option.some.inj gj
      simp [this]
     ·rw [if_neg (fun z=>e (by have:=Sum.inl.inj z;omega)),hout j' s' gj']
      have hne:¬ s'=qC y:=fun z=>e (qz hw.nd (by rw [z] at gj';exact gj') gj)
      simp [hne]
   ·obtain ⟨kvs,x3,rfl,s2,hk,hkl,hout,hfr⟩:=hp
    rw [List.drop_length] at hfr
    rw [List.take_length] at hout
    have hfr:qa0 ss xs=none:=hfr
    have q:=q xs rfl hfr
    have eks:ze ss xs=ss.filter fun s=>!decide (s∈xs.map qC):=rfl
    walk_at "vc"
    refine .inl ⟨x,cw,dx,_,.ref ol,rfl,s2 _ _ hx,T.wcl,T.wo,j4,?_⟩
    refine .inl ⟨⟨_,SqL.of (s2 _ _ ho)⟩,qY (K:=K) (fun i ys H'=>H'=H1∧ys=((ss.take i).filter fun s=>!decide (s∈xs.map qC)).map V.str) ⟨rfl,by simp⟩ (fun i ys H' _ hp=>by rw [hp.1];exact SqL.of (s2 _ _ ho)) (fun i y ys H' hy hp=>?_) fun ys H' hp=>?_⟩
    ·obtain ⟨rfl,rfl⟩:=hp
     obtain ⟨sy,gi,rfl⟩:=jY hy
     have hi:i < ss.length:=(List.getElem?_eq_some_iff.mp gi).1
     have htk:ss.take (i + 1)=ss.take i++[sy]:=by rw [List.take_add_one,gi];rfl
     walk_at "vc"
     refine .inl ⟨x,cw,dx,_,.ref d,rfl,s2 _ _ hx,T.wcl,T.wn,zj,?_⟩
     walk_at "vc"
     refine .inr ⟨d,.int i,rfl,num _ sy i s2 gi,?_⟩
     walk_at "vc"
     refine .inr (.inl ⟨od,_,rfl,DGet.k (k:=Sum.inl (i:Int)) hk,?_⟩)
     rw [hout i sy gi]
     walk_at "vc"
     refine qD (fun hb=>?_) fun hb=>?_
     ·walk_at "vc"
      have hb':sy∉xs.map qC:=by simpa using hb
      refine ⟨by rw [List.length_map];exact qh (Nat.le_trans (List.length_filter_le _ _) (by rw [List.length_take];omega)),rfl,?_⟩
      have ef:([sy].filter fun s=>!decide (s∈xs.map qC))=[sy]:=by rw [List.filter_cons_of_pos (by rw [decide_eq_false hb'];rfl)];rfl
      rw [htk,List.filter_append,List.map_append,ef]
      rfl
     ·have hb':sy∈xs.map qC:=by simpa using hb
      refine ⟨rfl,?_⟩
      have ef:([sy].filter fun s=>!decide (s∈xs.map qC))=[]:=by rw [List.filter_cons_of_neg (by rw [decide_eq_true hb'];decide)];rfl
      rw [htk,List.filter_append,List.map_append,ef]
      simp
    ·obtain ⟨rfl,rfl⟩:=hp
     have etk:ss.take (ss.map V.str).length=ss:=by rw [List.length_map,List.take_length]
     rw [etk,← eks]
     have hO:NOk (ze ss xs):=NOk.keep ⟨hw.few,hw.nd,hw.nm⟩ _
     have hT:TOk (ze ss xs) (zf dps (ze ss xs)):=TOk.keep hG.tok _
     generalize ze ss xs=ks at q hO hT ⊢
     refine ⟨by rw [List.length_map];exact Nat.le_of_lt (qh (by have:=hO.few;omega)),fun c hc=>?_⟩
     have s3:=qE s2 (o:=.lst (ks.map V.str)) hc
     have ec:upd H' c (.lst (ks.map V.str)) c=some (.lst (ks.map V.str)):=qc
     generalize upd H' c (.lst (ks.map V.str))=H3 at s3 ec ⊢
     walk_at "vc"
     refine ⟨x,dx,_,rfl,s3 _ _ hx,js (by decide +kernel),?_⟩
     walk_at "vc"
     refine ⟨x,ss,ns,rfl,hW.same s3,fun l ts H4 s34 hl0 hl hts hall=>?_⟩
     rw [hG.due] at hall
     have s4:=s3.trans s34
     have ec4:=s34 _ _ ec
     have hpr:All2 (fun t ab=>H4 t=some (.tup [.str ab.1,.str ab.2])) ts dps:=hall.mono fun _ _ z=>z.2.2
     have hdl:ts.length=dps.length:=hpr.len
     have h30:=hG.tok.few
     refine .inl ⟨⟨_,SqL.of hl⟩,qY (K:=K) (fun i ys H'=>H'=H4∧∃ us:List Addr,ys=us.map V.ref∧us.length≤i∧All2 (fun t ab=>H4 t=some (.tup [.str ab.1,.str ab.2])) us (zf (dps.take i) ks)) ⟨rfl,[],rfl,Nat.le_refl _,All2.nil⟩ (fun i ys H' _ hp=>by rw [hp.1];exact SqL.of hl) (fun i y ys H' hy hp=>?_) fun ys H' hp=>?_⟩
     ·obtain ⟨rfl,us,rfl,hul,hus⟩:=hp
      rw [List.getElem?_map] at hy
      cases hx':ts[i]? with
      | none=>rw [hx'] at hy;cases hy
      | some t =>
       rw [hx'] at hy
       cases hy
       have hi:i < dps.length:=by rw [← hdl];exact (List.getElem?_eq_some_iff.mp hx').1
       have gi:dps[i]?=some dps[i]:=List.getElem?_eq_getElem hi
       have et:=hpr.at_ i t dps[i] hx' gi
       generalize dps[i]=ab at gi et
       have htk:dps.take (i + 1)=dps.take i++[ab]:=by rw [List.take_add_one,gi];rfl
       have ekt:zf (dps.take (i + 1)) ks=zf (dps.take i) ks++(if decide (ab.1∈ks)&&decide (ab.2∈ks) then [ab] else []):=by
        unfold zf
        rw [htk,List.filter_append]
        congr 1
        rw [List.filter_cons]
        rfl
       rw [ekt]
       walk_at "vc"
       refine .inl (qaR et rfl ?_)
       walk_at "vc"
       refine .inl ⟨c,_,rfl,.inl (SqL.of ec4),rfl,jl ks,?_⟩
       rw [zc]
       walk_at "vc"
       refine qD (fun hb=>?_) fun hb=>?_
       ·have hb1:ab.1∈ks:=by simpa using hb
        walk_at "vc"
        refine .inl (qaR et rfl ?_)
        walk_at "vc"
        refine .inl ⟨c,_,rfl,.inl (SqL.of ec4),rfl,jl ks,?_⟩
        rw [zc]
        walk_at "vc"
        refine qD (fun hb=>?_) fun hb=>?_
        ·have hb2:ab.2∈ks:=by simpa using hb
         walk_at "vc"
         refine ⟨by rw [List.length_map];exact qh (by omega),rfl,us++[t],by rw [List.map_append];rfl,by rw [List.length_append];show us.length + 1≤_;omega,?_⟩
         rw [if_pos (by simp [hb1,hb2])]
         exact hus.snoc et
        ·have hb2:ab.2∉ks:=by simpa using hb
         refine ⟨rfl,us,rfl,by omega,?_⟩
         rw [if_neg (by simp [hb2]),List.append_nil]
         exact hus
       ·have hb1:ab.1∉ks:=by simpa using hb
        refine qD (fun h=>by cases h) fun _=>?_
        refine ⟨rfl,us,rfl,by omega,?_⟩
        rw [if_neg (by simp [hb1]),List.append_nil]
        exact hus
     ·obtain ⟨rfl,us,rfl,hul,hus⟩:=hp
      have etk:dps.take (ts.map V.ref).length=dps:=by rw [List.length_map,hdl,List.take_length]
      rw [etk] at hus
      rw [List.length_map] at hul
      refine ⟨by rw [List.length_map];exact Nat.le_of_lt (qh (by omega)),fun e he=>?_⟩
      have s45:=qE (L2.Same.refl H') (o:=.lst (us.map V.ref)) he
      have s5:=s4.trans s45
      walk_at "vc"
      intro x' dx' hx' hdx' hne'
      exact qam (s45 _ _ ec4) qc (hus.mono fun _ _ z=>s45 _ _ z) hO hT (Shuf.self _) hx' hdx' hne'.symm fun ns' H6 s56 hWN hb=>⟨rfl,q x' ns' H6 (s5.trans s56) (s5.free hx') (hWN.old s5) hb⟩
end
abbrev qW:Stmt:=qT (top 14) 14
theorem sc_Web_with_place:FnScope ["self", "place"] ["self", "place"] (qe qW):=⟨rfl,rfl,rfl,by decide +kernel,rfl,by decide +kernel,by decide +kernel⟩
theorem qeA {cc:Nat→Addr} {cw:Addr} {G:Hp} {c1 l' x dx:Addr} {xs:List V} {ys:List V} {r:Nat×V} {Q:VK} {E:XK} (h1:G c1=some (.lst xs)) (h2:G l'=some (.lst ys)) (hx:∀ v∈xs,Th x G 2 v) (hy:∀ v∈ys,Th x G 2 v) (lx:xs.length≤1000) (ly:ys.length≤1000)
  (hx0:G x=none) (hdx:G dx=none) (hne:x≠dx) (ho:∀ G',L2.Same G G'→qeI G' (.ref c1) (some xs) (.ref l') (some ys)=some r) (q:Rz cc G E r) :
  qbx cc cw [.ref x,.ref c1,.ref l'] (upd (upd G dx (.own x)) x (.ins cw dx [])) Q E:=by
 have s0:L2.Same G (upd (upd G dx (.own x)) x (.ins cw dx [])):=qE (qE (L2.Same.refl G) hdx) (by rw [qr hne];exact hx0)
 have nx:∀ {a:Addr} {o:HO},G a=some o→a≠x:=fun e z=>by rw [z,hx0] at e;cases e
 have ho:=ho _ s0
 refine ⟨x,x,dx,.ref c1,some xs,.ref l',some ys,rfl,qc,.lst (s0 _ _ h1) (nx h1) (fun v hv=>(hx v hv).same s0) lx,.lst (s0 _ _ h2) (nx h2) (fun v hv=>(hy v hv).same s0) ly,(fun r' e=>?_),fun e=>by rw [ho] at e;cases e⟩
 rw [ho] at e
 cases e
 intro dy H' b hy'
 exact q dy H' (b.out s0 hx0) hy'
theorem TOk.more {ss:List Str} {dps:List (Str×Str)} (h:TOk ss dps) (s:Str):TOk (ss++[s]) dps:=⟨h.few,fun ab hab=>by
 obtain ⟨j,k,h1,h2,h3⟩:=h.ok ab hab
 exact ⟨j,k,h1,by rw [List.getElem?_append_left (List.getElem?_eq_some_iff.mp h2).1];exact h2,by rw [List.getElem?_append_left (List.getElem?_eq_some_iff.mp h3).1];exact h3⟩,h.nd⟩
theorem zd {p:Addr} {H:Hp} {n:Nat} {s:Str} (h:jC s=true):Th p H n (.str s):=Th.flat rfl fun z e=>by cases e;have:=zC h;omega
theorem qcV {p t:Addr} {H:Hp} {a b:Str} (e:H t=some (.tup [.str a,.str b])) (ne:t≠p) (ha:jC a=true) (hb:jC b=true):Th p H 2 (.ref t):=
 Th.tup (n:=1) e ne (fun z hz=>by
  simp only [List.mem_cons,List.not_mem_nil,or_false] at hz
  rcases hz with rfl | rfl
  ·exact zd ha
  ·exact zd hb) (by show 2≤1000;decide)
def qfG (cc:Nat→Addr) (cw:Addr):Sp:=fun vs H Q E=>∃ (p x:Addr) (k:Nat) (ss:List Str) (ns:List Nat) (dps:List (Str×Str)) (v:V),vs=[.ref x,v]∧WebAt cw H x ss ns∧WG ss ns dps∧Th p H k v∧(j8 v=false→Rz cc H E (0,v))∧(j8 v=true→qC v∈ss→Rz cc H E (1,v)) ∧
 (j8 v=true→qC v∉ss→ss.length=14→Rz cc H E (4,.int 15)) ∧
 (j8 v=true→qC v∉ss→ss.length < 14→∀ (x':Addr) (ns':List Nat) (H':Hp),L2.Same H H'→H x'=none→WebN H cw H' x' (ss++[qC v]) ns'→zQ (ss++[qC v]) ns' dps→Q (.ref x') H')
section
variable {P:Program} {w:World} {K:W.Frag} {mg:Str→Option Value} {base:Heap} {cc:Nat→Addr} {cw:Addr}
theorem ok_wpl {f:Addr} {fd:FuncData} (F:Fun K "with_place" "Web.with_place" qW f fd) (T:Txt K mg cc cw) (D_is_name:DefOk P w K mg base CX0 1 "is_name" ["thing"] qdk) (D_Web_has_place:MethOk P w K mg base CX0 3 cw "has_place" ["self", "thing"] (qfA cw)) (D_Web_ties:MethOk P w K mg base CX0 7 cw "ties" ["self"] (qfD cw))
  (D_Web:MakeOk P w K mg base (CX1 P w) 5 cw "Web" ["self", "names", "ties"] (qbx cc cw)) (D_NoName:XMakeOk P w K mg base 2 (cc 0) "NoName" ["self", "found"] (spX (cc 0) (qay 0))) (D_Twice:XMakeOk P w K mg base 2 (cc 1) "Twice" ["self", "name"] (spX (cc 1) (qay 1))):FnOk P w K mg base (CX1 P w) 8 f fd ["self", "place"] (qfG cc cw):=by
 refine F.ok1 sc_Web_with_place (fun vs H Q E h=>?_) fun cdv A outer s H vs Q E hr h=>?_
 ·obtain ⟨p,x,k,ss,ns,dps,v,rfl,_⟩:=h;rfl
 ·obtain ⟨p,x,k,ss,ns,dps,v,rfl,hW,hG,hv,z0,z1,z4,q⟩:=h
  have hu:=zR hr
  obtain ⟨dx,d,ol,n,hx,hd,ho,hn,hw⟩:=id hW
  have few:=hw.few
  refine ⟨_,(qd (qF (jr (qP (qp D_is_name (hm hr) qx (qa (pv 1) qb)))) (qf (jR (K:=K) rfl qR (qaI D_NoName (hm hr) (qa (pv 1) qb)))) qi)
 (qd (qF (qP (jT D_Web_has_place (hm hr) (pv 0) (qa (pv 1) qb))) (qf (jR (K:=K) rfl qR (qaI D_Twice (hm hr) (qa (pv 1) qb)))) qi)
 (qf (qk (qa6 D_Web (hm hr) qR (qa (qL (zu (K:=K) rfl) (jk (K:=K) rfl (pv 0) rfl) (qQ (qa (pv 1) qb))) (qa (qZ D_Web_ties (hm hr) (pv 0)) qb))))))),?_⟩
  walk_at "vc"
  refine ⟨p,k,v,rfl,hv,fun H1 s1=>?_⟩
  walk_at "vc"
  refine qD (fun h=>?_) fun h=>?_
  ·walk_at "vc"
   exact qM (T.xat 0 (by decide)) ((z0 (by simpa using h)).later s1)
  have hnm:j8 v=true:=by simpa using h
  walk_at "vc"
  refine ⟨x,dx,_,rfl,s1 _ _ hx,js (by decide +kernel),?_⟩
  walk_at "vc"
  refine ⟨p,k,x,ss,ns,v,rfl,hW.same s1,hv.same s1,fun H2 s12=>?_⟩
  have s2:=s1.trans s12
  have epl:qt ss v=decide (qC v∈ss):=by unfold qt;rw [if_pos hnm]
  rw [epl]
  walk_at "vc"
  refine qD (fun h=>?_) fun h=>?_
  ·walk_at "vc"
   exact qM (T.xat 1 (by decide)) ((z1 hnm (by simpa using h)).later s2)
  have hnew:qC v∉ss:=by simpa using h
  obtain ⟨ev,_,_⟩:=qJ hnm
  have hns:jC (qC v)=true:=by rw [ev] at hnm;exact hnm
  generalize hsv:qC v=sv at *
  subst ev
  walk_at "vc"
  refine .inl ⟨x,cw,dx,_,.ref ol,rfl,s2 _ _ hx,T.wcl,T.wo,j4,?_⟩
  walk_at "vc"
  refine ⟨by show 1≤sizeLine;decide,fun c hc=>?_⟩
  have s23:=qE (L2.Same.refl H2) (o:=.lst [.str sv]) hc
  have ec:upd H2 c (.lst [.str sv]) c=some (.lst [.str sv]):=qc
  generalize upd H2 c (.lst [.str sv])=H3 at s23 ec ⊢
  have s3:=s2.trans s23
  walk_at "vc"
  refine .inl ⟨ol,c,_,_,rfl,rfl,s3 _ _ ho,ec,by rw [List.length_map];exact Nat.le_of_lt (qh (by simp;omega)),fun e he=>?_⟩
  have s34:=qE (L2.Same.refl H3) (o:=.lst (ss.map V.str++[.str sv])) he
  have ee:upd H3 e (.lst (ss.map V.str++[.str sv])) e=some (.lst ((ss++[sv]).map V.str)):=by rw [qc,List.map_append];rfl
  generalize upd H3 e (.lst (ss.map V.str++[.str sv]))=H4 at s34 ee ⊢
  have s4:=s3.trans s34
  walk_at "vc"
  refine ⟨x,dx,_,rfl,s4 _ _ hx,js (by decide +kernel),?_⟩
  walk_at "vc"
  refine ⟨x,ss,ns,rfl,hW.same s4,fun l ts H5 s45 hl0 hl hts hall=>?_⟩
  rw [hG.due] at hall
  have s5:=s4.trans s45
  have hpr:All2 (fun t ab=>H5 t=some (.tup [.str ab.1,.str ab.2])) ts dps:=hall.mono fun _ _ z=>z.2.2
  walk_at "vc"
  intro x' dx' hx' hdx' hne'
  by_cases h14:ss.length=14
  ·refine qeA (r:=(4,.int 15)) (s45 _ _ ee) hl (fun v hv=>?_) (fun v hv=>?_) (by rw [List.length_map,List.length_append];simp;omega) (by rw [List.length_map];omega) hx' hdx' hne'.symm (fun G' _=>?_) ((z4 hnm hnew h14).later s5)
   ·obtain ⟨s',hs',rfl⟩:=List.mem_map.mp hv
    rcases List.mem_append.mp hs' with z | z
    ·exact zd (hw.nm _ z)
    ·rw [List.mem_singleton.mp z];exact zd hns
   ·obtain ⟨t,ht,rfl⟩:=List.mem_map.mp hv
    obtain ⟨ab,hab,et⟩:=hpr.mem ht
    obtain ⟨j,k',_,g1,g2⟩:=hG.tok.ok ab hab
    exact qcV et (fun z=>by rw [z,hx'] at et;cases et) (hw.nm _ (List.mem_of_getElem? g1)) (hw.nm _ (List.mem_of_getElem? g2))
   ·have hl15:((ss++[sv]).map V.str).length=15:=by rw [List.length_map,List.length_append,h14];rfl
    have e1:qfg (.ref e) (some ((ss++[sv]).map V.str))=some (4,.int 15):=by
     show (if 14 < ((ss++[sv]).map V.str).length then some ((4:Nat),V.int (((ss++[sv]).map V.str).length:Nat)) else _)=_
     rw [hl15]
     rfl
    unfold qeI
    rw [e1]
  ·have hO:NOk (ss++[sv]):=⟨by rw [List.length_append];simp;omega,by
    rw [List.nodup_append]
    exact ⟨hw.nd,by simp,fun a ha b hb e=>by rw [List.mem_singleton.mp hb] at e;exact hnew (e ▸ ha)⟩,fun s' hs'=>by
    rcases List.mem_append.mp hs' with z | z
    ·exact hw.nm _ z
    ·rw [List.mem_singleton.mp z];exact hns⟩
   exact qam (s45 _ _ ee) hl hpr hO (hG.tok.more sv) (Shuf.self _) hx' hdx' hne'.symm fun ns' H6 s56 hWN hb=>⟨rfl,q hnm hnew (by omega) x' ns' H6 (s5.trans s56) (s5.free hx') (hWN.old s5) hb⟩
end
abbrev jq:Stmt:=qT (top 14) 15
theorem sc_Web_with_tie:FnScope ["self", "one", "other"] ["self", "one", "other"] (qe jq):=⟨rfl,rfl,rfl,by decide +kernel,rfl,by decide +kernel,by decide +kernel⟩
abbrev qN:Stmt:=qT (top 14) 16
theorem sc_Web_without_tie:FnScope ["self", "one", "other", "kept"] ["self", "one", "other"] (qe qN):=⟨rfl,rfl,rfl,by decide +kernel,rfl,by decide +kernel,by decide +kernel⟩
theorem qdD:∀ {l m:List (Str×Str)},l.Nodup→(∀ x∈l,x∈m)→l.length≤m.length
 | [],_,_,_=>Nat.zero_le _
 | x::r,m,hn,h=>by
  obtain ⟨h1,h2⟩:=List.nodup_cons.mp hn
  have hx:=h x List.mem_cons_self
  have ih:=qdD (l:=r) (m:=m.erase x) h2 fun y hy=>(List.mem_erase_of_ne (fun e=>h1 (by rw [← e];exact hy))).mpr (h y (List.mem_cons_of_mem _ hy))
  rw [List.length_erase_of_mem hx] at ih
  have:0 < m.length:=List.length_pos_of_mem hx
  simp only [List.length_cons]
  omega
theorem ris_nd {ss:List Str} (tps:List (Str×Str)) (hn:ss.Nodup):(jd ss tps ss).Nodup:=by
 unfold jd
 show List.Pairwise _ _
 rw [List.pairwise_flatMap]
 refine ⟨fun a _=>?_,List.Pairwise.imp (fun {a b} hab x hx y hy e=>?_) hn⟩
 ·exact List.Pairwise.map _ (fun x y hxy e=>hxy (Prod.mk.inj e).2) (hn.filter _)
 ·unfold ji at hx hy
  obtain ⟨o,_,rfl⟩:=List.mem_map.mp hx
  obtain ⟨o',_,rfl⟩:=List.mem_map.mp hy
  exact hab (Prod.mk.inj e).1
theorem TOk.ris {ss:List Str} {tps:List (Str×Str)} (hn:ss.Nodup) (hT:TOk ss tps):TOk ss (jd ss tps ss):=by
 have hnd:=ris_nd tps hn
 have hsub:∀ ab∈jd ss tps ss,ab∈tps:=fun ab h=>(qbY hT ab.1 ab.2).mp h
 exact ⟨Nat.le_trans (qdD hnd hsub) hT.few,fun ab h=>hT.ok ab (hsub ab h),hnd⟩
theorem ris_ris {ss:List Str} {tps:List (Str×Str)} (hT:TOk ss tps):jd ss (jd ss tps ss) ss=jd ss tps ss:=by
 have key:∀ one,ji ss (jd ss tps ss) one=ji ss tps one:=fun one=>by
  unfold ji
  congr 1
  apply List.filter_congr
  intro o _
  rw [decide_eq_decide]
  exact qbY hT one o
 have e:ji ss (jd ss tps ss)=ji ss tps:=funext key
 show ss.flatMap (ji ss (jd ss tps ss))=ss.flatMap (ji ss tps)
 rw [e]
theorem WG.ris {ss:List Str} {ns:List Nat} {dps:List (Str×Str)} (hw:WOk ss ns) (h:WG ss ns dps):jd ss dps ss=dps:=(qbZ hw h.tok h.adj).symm.trans h.due
theorem WG.of {ss:List Str} {ns:List Nat} {tps ups:List (Str×Str)} (hw:WOk ss ns) (hT:TOk ss tps) (sh:Shuf tps ups) (hb:zQ ss ns ups) (hr:jd ss tps ss=tps):WG ss ns tps:=
 ⟨hT,qdA sh hb,(qbZ hw hT (qdA sh hb)).trans hr⟩
theorem WG.ofR {ss:List Str} {ns:List Nat} {tps ups:List (Str×Str)} (hw:WOk ss ns) (hT:TOk ss tps) (sh:Shuf tps ups) (hb:zQ ss ns ups):WG ss ns (jd ss tps ss):=
 ⟨hT.ris hw.nd,Adj.ris hT (qdA sh hb),qbZ hw hT (qdA sh hb)⟩
theorem WebN.ok {H0:Hp} {cw x:Addr} {H:Hp} {ss:List Str} {ns:List Nat} (h:WebN H0 cw H x ss ns):WOk ss ns:=by
 obtain ⟨_,_,_,_,_,_,_,_,z,_⟩:=h;exact z
theorem WebAt.ok {cw x:Addr} {H:Hp} {ss:List Str} {ns:List Nat} (h:WebAt cw H x ss ns):WOk ss ns:=by
 obtain ⟨_,_,_,_,_,_,_,_,z⟩:=h;exact z
theorem ris_filter {ss:List Str} {dps:List (Str×Str)} (hr:jd ss dps ss=dps) (q:Str×Str→Bool):jd ss (dps.filter q) ss=dps.filter q:=by
 have e1:dps.filter q=(jd ss dps ss).filter q:=by rw [hr]
 conv=>rhs;rw [e1]
 unfold jd
 rw [qaA]
 refine qan _ fun a ha=>?_
 unfold ji
 rw [List.filter_map,List.filter_filter]
 congr 1
 refine List.filter_congr fun o ho=>?_
 rw [Bool.eq_iff_iff]
 simp only [Bool.and_eq_true,decide_eq_true_iff,Function.comp,List.mem_filter]
 exact ⟨fun ⟨h1,h2⟩=>⟨h2,h1⟩,fun ⟨h1,h2⟩=>⟨h2,h1⟩⟩
theorem TOk.filter {ss:List Str} {dps:List (Str×Str)} (h:TOk ss dps) (q:Str×Str→Bool):TOk ss (dps.filter q):=
 ⟨Nat.le_trans (List.length_filter_le _ _) h.few,fun ab hab=>h.ok ab (List.mem_filter.mp hab).1,h.nd.filter _⟩
theorem qdE {ss:List Str} {dps:List (Str×Str)} (hT:TOk ss dps) (hr:jd ss dps ss=dps) {s:Str} (hs:s∉ss):jd (ss++[s]) dps (ss++[s])=dps:=by
 have n1:∀ o,(s,o)∉dps:=fun o h=>by
  obtain ⟨j,k,_,g1,_⟩:=hT.ok _ h
  exact hs (List.mem_of_getElem? g1)
 have n2:∀ o,(o,s)∉dps:=fun o h=>by
  obtain ⟨j,k,_,_,g1⟩:=hT.ok _ h
  exact hs (List.mem_of_getElem? g1)
 have e1:ji (ss++[s]) dps s=[]:=by
  unfold ji
  rw [List.filter_eq_nil_iff.mpr fun o _ h=>n1 o (of_decide_eq_true h)]
  rfl
 have e2:∀ a,ji (ss++[s]) dps a=ji ss dps a:=fun a=>by
  unfold ji
  rw [List.filter_append,List.filter_cons_of_neg (by rw [decide_eq_false (n2 a)];exact Bool.false_ne_true),List.filter_nil,List.append_nil]
 unfold jd
 rw [List.flatMap_append,List.flatMap_cons,e1,List.flatMap_nil,List.append_nil,List.append_nil,qan (h:=ji ss dps) ss fun a _=>e2 a]
 exact hr
def jv (dps:List (Str×Str)) (a b:Str):Bool:=decide ((a,b)∈dps∨(b,a)∈dps)
def upT (ss:List Str) (a b:Str):Str×Str:=if ss.idxOf a < ss.idxOf b then (a,b) else (b,a)
def qeB (ss:List Str) (dps:List (Str×Str)) (a b:Str):List (Str×Str):=jd ss (dps++[upT ss a b]) ss
def qaP (dps:List (Str×Str)) (a b:Str):List (Str×Str):=dps.filter fun t=>!(decide (t=(a,b))||decide (t=(b,a)))
theorem up_tok {ss:List Str} {dps:List (Str×Str)} {a b:Str} (hT:TOk ss dps) (h30:dps.length < 30) (ha:a∈ss) (hb:b∈ss) (hab:a≠b) (hn:jv dps a b=false):TOk ss (dps++[upT ss a b]):=by
 have hn':=of_decide_eq_false hn
 have hi:ss.idxOf a≠ss.idxOf b:=fun e=>by
  have g1:=zw ha
  have g2:=zw hb
  rw [e,g2] at g1
  exact hab (Option.some.inj g1).symm
 refine ⟨by rw [List.length_append];simp;omega,fun t ht=>?_,?_⟩
 ·rcases List.mem_append.mp ht with z | z
  ·exact hT.ok t z
  ·rw [List.mem_singleton.mp z]
   unfold upT
   split
   ·rename_i hlt;exact ⟨_,_,hlt,zw ha,zw hb⟩
   ·rename_i hlt
    have hlt':ss.idxOf b < ss.idxOf a:=by omega
    exact ⟨_,_,hlt',zw hb,zw ha⟩
 ·rw [List.nodup_append]
  refine ⟨hT.nd,by simp,fun x hx y hy e=>?_⟩
  rw [List.mem_singleton.mp hy] at e
  subst e
  unfold upT at hx
  split at hx
  ·exact hn' (.inl hx)
  ·exact hn' (.inr hx)
theorem qeC {ss:List Str} {dps:List (Str×Str)} {a b:Str}:Shuf (dps++[upT ss a b]) (dps++[(a,b)]):=by
 refine ⟨_,List.Perm.refl _,(All2.snoc ⟨rfl,fun k x y h1 h2=>by rw [h1] at h2;cases h2;exact .inl rfl⟩ ?_)⟩
 unfold upT
 split
 ·exact .inl rfl
 ·exact .inr rfl
def RzT (cc:Nat→Addr) (H:Hp) (E:XK) (v u:V):Prop:=∀ dx t H',L2.Same H H'→H t=none→H' t=some (.tup [v,u])→H' dx=some (.xd [(qay 3,.ref t)])→E (.ref (cc 3)) (some dx) H'
def qga (cc:Nat→Addr) (cw:Addr):Sp:=fun vs H Q E=>∃ (p x:Addr) (k:Nat) (ss:List Str) (ns:List Nat) (dps:List (Str×Str)) (v u:V),vs=[.ref x,v,u]∧WebAt cw H x ss ns∧WG ss ns dps∧Th p H k v∧Th p H k u∧(qt ss v=false→Rz cc H E (2,v))∧(qt ss v=true→qt ss u=false→Rz cc H E (2,u)) ∧
 (qt ss v=true→qt ss u=true→(jv dps (qC v) (qC u)||decide (qC v=qC u))=true→RzT cc H E v u) ∧
 (qt ss v=true→qt ss u=true→(jv dps (qC v) (qC u)||decide (qC v=qC u))=false→dps.length=30→Rz cc H E (4,.int 31)) ∧
 (qt ss v=true→qt ss u=true→(jv dps (qC v) (qC u)||decide (qC v=qC u))=false→dps.length < 30→∀ (x':Addr) (ns':List Nat) (H':Hp),L2.Same H H'→H x'=none→WebN H cw H' x' ss ns'→WG ss ns' (qeB ss dps (qC v) (qC u))→Q (.ref x') H')
def qgb (cc:Nat→Addr) (cw:Addr):Sp:=fun vs H Q E=>∃ (p x:Addr) (k:Nat) (ss:List Str) (ns:List Nat) (dps:List (Str×Str)) (v u:V),vs=[.ref x,v,u]∧WebAt cw H x ss ns∧WG ss ns dps∧Th p H k v∧Th p H k u∧(qt ss v=false→Rz cc H E (2,v))∧(qt ss v=true→qt ss u=false→Rz cc H E (2,u)) ∧
 (qt ss v=true→qt ss u=true→jv dps (qC v) (qC u)=false→RzT cc H E v u) ∧
 (qt ss v=true→qt ss u=true→jv dps (qC v) (qC u)=true→∀ (x':Addr) (ns':List Nat) (H':Hp),L2.Same H H'→H x'=none→WebN H cw H' x' ss ns'→WG ss ns' (qaP dps (qC v) (qC u))→Q (.ref x') H')
theorem qcB {ss:List Str} {ns:List Nat} {dps:List (Str×Str)} (hA:Adj ss ns dps) {j i:Nat} {a b:Str} (gj:ss[j]?=some a) (gi:ss[i]?=some b):(ns.getD j 0).testBit i=jv dps a b:=by
 rw [Bool.eq_iff_iff]
 unfold jv
 rw [decide_eq_true_iff]
 exact hA j i a b gj gi
section
variable {P:Program} {w:World} {K:W.Frag} {mg:Str→Option Value} {base:Heap} {cc:Nat→Addr} {cw:Addr}
theorem ok_wti {f:Addr} {fd:FuncData} (F:Fun K "with_tie" "Web.with_tie" jq f fd) (T:Txt K mg cc cw) (D_Web_tied:MethOk P w K mg base (CX1 P w) 6 cw "tied" ["self", "one", "other"] (qel cc cw)) (D_Web_ties:MethOk P w K mg base CX0 7 cw "ties" ["self"] (qfD cw))
  (D_Web:MakeOk P w K mg base (CX1 P w) 5 cw "Web" ["self", "names", "ties"] (qbx cc cw)) (D_NoTie:XMakeOk P w K mg base 2 (cc 3) "NoTie" ["self", "found"] (spX (cc 3) (qay 3))):FnOk P w K mg base (CX1 P w) 8 f fd ["self", "one", "other"] (qga cc cw):=by
 refine F.ok1 sc_Web_with_tie (fun vs H Q E h=>?_) fun cdv A outer s H vs Q E hr h=>?_
 ·obtain ⟨p,x,k,ss,ns,dps,v,u,rfl,_⟩:=h;rfl
 ·obtain ⟨p,x,k,ss,ns,dps,v,u,rfl,hW,hG,hv,hu',z2,z2',zT,z4,q⟩:=h
  have hu:=zR hr
  obtain ⟨dx,d,ol,n,hx,hd,ho,hn,hw⟩:=id hW
  have few:=hw.few
  refine ⟨_,(qd (qF (PW.pt (qbv (qP (jS D_Web_tied (hm hr) qR (pv 0) (qa (pv 1) (qa (pv 2) qb)))) (qaB (qo (zn (K:=K) rfl hu) (pv 1) (pv 2) (qy _))))) (qf (jR (K:=K) rfl qR (qaI D_NoTie (hm hr) (qa (qG (qa (pv 1) (qa (pv 2) qb))) qb)))) qi)
 (qf (qk (qa6 D_Web (hm hr) qR (qa (jk (K:=K) rfl (pv 0) rfl) (qa (qL (zu (K:=K) rfl) (qZ D_Web_ties (hm hr) (pv 0)) (qQ (qa (qG (qa (pv 1) (qa (pv 2) qb))) qb))) qb)))))),?_⟩
  walk_at "vc"
  refine ⟨x,dx,_,rfl,hx,js (by decide +kernel),?_⟩
  walk_at "vc"
  refine ⟨p,k,x,ss,ns,v,u,rfl,hW,hv,hu',z2,z2',fun j i gj gi hp hp2 H1 s1=>?_⟩
  rw [qcB hG.adj gj gi]
  obtain ⟨nv,iv⟩:=qK hp
  obtain ⟨nu,iu⟩:=qK hp2
  obtain ⟨ev,_,_⟩:=qJ nv
  obtain ⟨eu,_,_⟩:=qJ nu
  replace zT:=zT hp hp2
  replace z4:=z4 hp hp2
  replace q:=q hp hp2
  have hns:jC (qC v)=true:=by rw [ev] at nv;exact nv
  have hnu:jC (qC u)=true:=by rw [eu] at nu;exact nu
  generalize qC v=a at *
  generalize qC u=b at *
  subst ev eu
  walk_at "vc"
  have bad:(jv dps a b||decide (a=b))=true→∀ {H2:Hp},L2.Same H H2→∀ t,H2 t=none→∀ dy H',L2.Same (upd H2 t (.tup [V.str a,V.str b])) H'→H' dy=some (.xd [(qay 3,.ref t)])→E (.ref (cc 3)) (some dy) H':=fun hb H2 s2 t ht dy H' s' hy =>
   zT hb dy t H' ((qE s2 ht).trans s') (s2.free ht) (s' _ _ qc) hy
  refine qD (fun h=>?_) fun h=>?_
  ·walk_at "vc"
   refine qbC ?_
   walk_at "vc"
   refine ⟨by show 2≤sizeLine;decide,fun t ht=>?_⟩
   walk_at "vc"
   exact qM (T.xat 3 (by decide)) (bad (by rw [h];rfl) s1 t ht)
  ·walk_at "vc"
   refine .inl (.inl (.inl ⟨rfl,rfl,?_⟩))
   walk_at "vc"
   refine qD (fun h2=>?_) fun h2=>?_
   ·walk_at "vc"
    refine ⟨by show 2≤sizeLine;decide,fun t ht=>?_⟩
    walk_at "vc"
    have e2:a=b:=by
     have h2:eqV (V.str a) (V.str b)=true:=by simpa using h2
     rw [qbT] at h2
     exact of_decide_eq_true h2
    exact qM (T.xat 3 (by decide)) (bad (by rw [decide_eq_true e2,Bool.or_true]) s1 t ht)
   have hab:a≠b:=fun e=>h2 (by subst e;simp [eqV])
   have hth:jv dps a b=false:=by simpa using h
   have hbd:(jv dps a b||decide (a=b))=false:=by rw [hth,decide_eq_false hab];rfl
   replace z4:=z4 hbd
   replace q:=q hbd
   walk_at "vc"
   refine .inl ⟨x,cw,dx,_,.ref ol,rfl,s1 _ _ hx,T.wcl,T.wo,j4,?_⟩
   walk_at "vc"
   refine ⟨x,dx,_,rfl,s1 _ _ hx,js (by decide +kernel),?_⟩
   walk_at "vc"
   refine ⟨x,ss,ns,rfl,hW.same s1,fun l ts H2 s12 hl0 hl hts hall=>?_⟩
   rw [hG.due] at hall
   have s2:=s1.trans s12
   have hpr:All2 (fun t ab=>H2 t=some (.tup [.str ab.1,.str ab.2])) ts dps:=hall.mono fun _ _ z=>z.2.2
   have h30:=hG.tok.few
   have hdl:=hpr.len
   walk_at "vc"
   refine ⟨by show 2≤sizeLine;decide,fun t ht=>?_⟩
   have s23:=qE (L2.Same.refl H2) (o:=.tup [V.str a,V.str b]) ht
   have et:upd H2 t (.tup [V.str a,V.str b]) t=some (.tup [V.str a,V.str b]):=qc
   generalize upd H2 t (.tup [V.str a,V.str b])=H3 at s23 et ⊢
   walk_at "vc"
   refine ⟨by show 1≤sizeLine;decide,fun c hc=>?_⟩
   have s34:=qE (L2.Same.refl H3) (o:=.lst [V.ref t]) hc
   have ec:upd H3 c (.lst [V.ref t]) c=some (.lst [V.ref t]):=qc
   generalize upd H3 c (.lst [V.ref t])=H4 at s34 ec ⊢
   have s24:=s23.trans s34
   walk_at "vc"
   refine .inl ⟨l,c,_,_,rfl,rfl,s24 _ _ hl,ec,by rw [List.length_map];exact Nat.le_of_lt (qh (by show ts.length + 1≤1000;omega)),fun e he=>?_⟩
   have s45:=qE (L2.Same.refl H4) (o:=.lst (ts.map V.ref++[.ref t])) he
   have ee:upd H4 e (.lst (ts.map V.ref++[.ref t])) e=some (.lst ((ts++[t]).map V.ref)):=by rw [qc,List.map_append];rfl
   generalize upd H4 e (.lst (ts.map V.ref++[.ref t]))=H5 at s45 ee ⊢
   have s25:=s24.trans s45
   have s5:=s2.trans s25
   have hpr5:All2 (fun t ab=>H5 t=some (.tup [.str ab.1,.str ab.2])) (ts++[t]) (dps++[(a,b)]):=(hpr.mono fun _ _ z=>s25 _ _ z).snoc (s45 _ _ (s34 _ _ et))
   walk_at "vc"
   intro x' dx' hx' hdx' hne'
   by_cases h30':dps.length=30
   ·refine qeA (r:=(4,.int 31)) (s5 _ _ ho) ee (fun v hv=>?_) (fun v hv=>?_) (by rw [List.length_map];omega) (by rw [List.length_map,List.length_append];simp;omega) hx' hdx' hne'.symm (fun G' _=>?_) ((z4 h30').later s5)
    ·obtain ⟨s',hs',rfl⟩:=List.mem_map.mp hv
     exact zd (hw.nm _ hs')
    ·obtain ⟨t',ht',rfl⟩:=List.mem_map.mp hv
     obtain ⟨ab,hab',et'⟩:=hpr5.mem ht'
     have nx:t'≠x':=fun z=>by rw [z,hx'] at et';cases et'
     rcases List.mem_append.mp hab' with z | z
     ·obtain ⟨j,k',_,g1,g2⟩:=hG.tok.ok ab z
      exact qcV et' nx (hw.nm _ (List.mem_of_getElem? g1)) (hw.nm _ (List.mem_of_getElem? g2))
     ·rw [List.mem_singleton.mp z] at et'
      exact qcV et' nx hns hnu
    ·have hlen:((ts++[t]).map V.ref).length=31:=by rw [List.length_map,List.length_append,hdl,h30'];rfl
     have e1:qfg (.ref ol) (some (ss.map V.str))=none:=by
      show (if 14 < (ss.map V.str).length then _ else qdm (ss.map V.str) [])=none
      rw [if_neg (by rw [List.length_map];omega)]
      exact qcU ss [] hw.nm hw.nd fun s _ h=>by cases h
     have e2:∀ sx,qei G' sx (.ref e) (some ((ts++[t]).map V.ref))=some (4,.int 31):=fun sx=>by
      show (if 30 < ((ts++[t]).map V.ref).length then some ((4:Nat),V.int (((ts++[t]).map V.ref).length:Nat)) else _)=_
      rw [hlen]
      rfl
     unfold qeI
     rw [e1]
     exact e2 _
   ·have hO:NOk ss:=⟨hw.few,hw.nd,hw.nm⟩
    have hT:=up_tok hG.tok (by omega) iv iu hab hth
    exact qam (s5 _ _ ho) ee hpr5 hO hT qeC hx' hdx' hne'.symm fun ns' H6 s56 hWN hb=>⟨rfl,q (by omega) x' ns' H6 (s5.trans s56) (s5.free hx') (hWN.old s5) (WG.ofR hWN.ok hT qeC hb)⟩
theorem ok_wot {f:Addr} {fd:FuncData} (F:Fun K "without_tie" "Web.without_tie" qN f fd) (T:Txt K mg cc cw) (D_Web_tied:MethOk P w K mg base (CX1 P w) 6 cw "tied" ["self", "one", "other"] (qel cc cw)) (D_Web_ties:MethOk P w K mg base CX0 7 cw "ties" ["self"] (qfD cw))
  (D_Web:MakeOk P w K mg base (CX1 P w) 5 cw "Web" ["self", "names", "ties"] (qbx cc cw)) (D_NoTie:XMakeOk P w K mg base 2 (cc 3) "NoTie" ["self", "found"] (spX (cc 3) (qay 3))):FnOk P w K mg base (CX1 P w) 8 f fd ["self", "one", "other"] (qgb cc cw):=by
 refine F.ok1 sc_Web_without_tie (fun vs H Q E h=>?_) fun cdv A outer s H vs Q E hr h=>?_
 ·obtain ⟨p,x,k,ss,ns,dps,v,u,rfl,_⟩:=h;rfl
 ·obtain ⟨p,x,k,ss,ns,dps,v,u,rfl,hW,hG,hv,hu',z2,z2',zT,q⟩:=h
  have hu:=zR hr
  obtain ⟨dx,d,ol,n,hx,hd,ho,hn,hw⟩:=id hW
  have few:=hw.few
  refine ⟨_,(qd (qF (jr (qP (jS D_Web_tied (hm hr) qR (pv 0) (qa (pv 1) (qa (pv 2) qb))))) (qf (jR (K:=K) rfl qR (qaI D_NoTie (hm hr) (qa (qG (qa (pv 1) (qa (pv 2) qb))) qb)))) qi)
 (qd (qaw (sc:=qe qN) (XN:=["self", "one", "other", "kept"]) ["tie", "one", "other"] 1 [1,2] rfl rfl rfl (by decide +kernel) rfl (by decide +kernel) (i:=3) sc_Web_without_tie.nd rfl rfl
  (jh (K:=K) rfl (qZ D_Web_ties (hm hr) (pv 0))) (fun _ _ _ _=>(qv (i:=0) (show (["tie", "one", "other"]:List Str).Nodup by decide +kernel) rfl (Or.inl rfl))) je
  (fun _ _ _ _=>(jx (qo (k_notinT (K:=K) rfl hu) (pv 0) (qG (qa (qG (qa (pv 1) (qa (pv 2) qb))) (qa (qG (qa (pv 2) (qa (pv 1) qb))) qb))) (by with_unfolding_all rfl))))
  (fun _ _ _ _=>(pv 0)))
 (qf (qk (qa6 D_Web (hm hr) qR (qa (jk (K:=K) rfl (pv 0) rfl) (qa (pv 3) qb))))))),?_⟩
  walk_at "vc"
  refine ⟨x,dx,_,rfl,hx,js (by decide +kernel),?_⟩
  walk_at "vc"
  refine ⟨p,k,x,ss,ns,v,u,rfl,hW,hv,hu',z2,z2',fun j i gj gi hp hp2 H1 s1=>?_⟩
  rw [qcB hG.adj gj gi]
  obtain ⟨nv,iv⟩:=qK hp
  obtain ⟨nu,iu⟩:=qK hp2
  obtain ⟨ev,_,_⟩:=qJ nv
  obtain ⟨eu,_,_⟩:=qJ nu
  replace zT:=zT hp hp2
  replace q:=q hp hp2
  generalize qC v=a at *
  generalize qC u=b at *
  subst ev eu
  walk_at "vc"
  refine qD (fun h=>?_) fun h=>?_
  ·walk_at "vc"
   refine ⟨by show 2≤sizeLine;decide,fun t ht=>?_⟩
   walk_at "vc"
   exact qM (T.xat 3 (by decide)) fun dy H' s' hy=>zT (by simpa using h) dy t H' ((qE s1 ht).trans s') (s1.free ht) (s' _ _ qc) hy
  have hth:jv dps a b=true:=by simpa using h
  replace q:=q hth
  walk_at "vc"
  refine ⟨x,dx,_,rfl,s1 _ _ hx,js (by decide +kernel),?_⟩
  walk_at "vc"
  refine ⟨x,ss,ns,rfl,hW.same s1,fun l ts H2 s12 hl0 hl hts hall=>?_⟩
  rw [hG.due] at hall
  have s2:=s1.trans s12
  have hpr:All2 (fun t ab=>H2 t=some (.tup [.str ab.1,.str ab.2])) ts dps:=hall.mono fun _ _ z=>z.2.2
  have h30:=hG.tok.few
  have hdl:=hpr.len
  refine .inl ⟨⟨_,SqL.of hl⟩,qY (K:=K) (fun i ys H'=>L2.Same H2 H'∧∃ us:List Addr,ys=us.map V.ref∧us.length≤i∧All2 (fun t ab=>H2 t=some (.tup [.str ab.1,.str ab.2])) us (qaP (dps.take i) a b)) ⟨L2.Same.refl H2,[],rfl,Nat.le_refl _,All2.nil⟩ (fun i ys H' _ hp=>SqL.of (hp.1 _ _ hl)) (fun i y ys H' hy hp=>?_) fun ys H' hp=>?_⟩
  ·obtain ⟨s3,us,rfl,hul,hus⟩:=hp
   rw [List.getElem?_map] at hy
   cases hx':ts[i]? with
   | none=>rw [hx'] at hy;cases hy
   | some t =>
    rw [hx'] at hy
    cases hy
    have hi:i < dps.length:=by rw [← hdl];exact (List.getElem?_eq_some_iff.mp hx').1
    have gi:dps[i]?=some dps[i]:=List.getElem?_eq_getElem hi
    have et:=hpr.at_ i t dps[i] hx' gi
    generalize dps[i]=ab at gi et
    have htk:dps.take (i + 1)=dps.take i++[ab]:=by rw [List.take_add_one,gi];rfl
    have ekt:qaP (dps.take (i + 1)) a b=qaP (dps.take i) a b++(if (!(decide (ab=(a,b))||decide (ab=(b,a))))=true then [ab] else []):=by
     unfold qaP
     rw [htk,List.filter_append]
     congr 1
     rw [List.filter_cons]
     rfl
    rw [ekt]
    walk_at "vc"
    refine ⟨by show 2≤sizeLine;decide,fun c1 h1=>?_⟩
    have s34:=qE (L2.Same.refl H') (o:=.tup [V.str a,V.str b]) h1
    have e1:upd H' c1 (.tup [V.str a,V.str b]) c1=some (.tup [V.str a,V.str b]):=qc
    generalize upd H' c1 (.tup [V.str a,V.str b])=H4 at s34 e1 ⊢
    walk_at "vc"
    refine ⟨by show 2≤sizeLine;decide,fun c2 h2=>?_⟩
    have hne:¬ (V.ref c2=V.ref c1):=fun z=>by
     have z:=V.ref.inj z
     rw [z,e1] at h2
     cases h2
    have s45:=qE (L2.Same.refl H4) (o:=.tup [V.str b,V.str a]) h2
    have e2:upd H4 c2 (.tup [V.str b,V.str a]) c2=some (.tup [V.str b,V.str a]):=qc
    replace e1:=s45 _ _ e1
    generalize upd H4 c2 (.tup [V.str b,V.str a])=H5 at s45 e1 e2 ⊢
    walk_at "vc"
    refine ⟨by show 2≤sizeLine;decide,fun c3 h3=>?_⟩
    have s56:=qE (L2.Same.refl H5) (o:=.tup [V.ref c1,V.ref c2]) h3
    have e3:upd H5 c3 (.tup [V.ref c1,V.ref c2]) c3=some (.tup [V.ref c1,V.ref c2]):=qc
    replace e1:=s56 _ _ e1
    replace e2:=s56 _ _ e2
    generalize upd H5 c3 (.tup [V.ref c1,V.ref c2])=H6 at s56 e1 e2 e3 ⊢
    have s6:=s3.trans (s34.trans (s45.trans s56))
    have et6:=s6 _ _ et
    walk_at "vc"
    refine ⟨c3,_,(fun z=>if z=.ref c1 then decide ((a,b)=ab) else decide ((b,a)=ab)),1,rfl,SqT.of e3,by decide,fun z hz=>?_,?_⟩
    ·simp only [List.mem_cons,List.not_mem_nil,or_false] at hz
     rcases hz with rfl | rfl
     ·dsimp only
      rw [if_pos rfl]
      exact zN e1 et6
     ·dsimp only
      rw [if_neg hne]
      exact zN e2 et6
    ·have hb:(!([V.ref c1,V.ref c2].any fun z=>if z=.ref c1 then decide ((a,b)=ab) else decide ((b,a)=ab)))=!(decide (ab=(a,b))||decide (ab=(b,a))):=by
      rw [List.any_cons,List.any_cons,List.any_nil,if_pos rfl,if_neg hne,Bool.or_false]
      congr 1
      rw [show decide ((a,b)=ab)=decide (ab=(a,b)) from decide_eq_decide.mpr eq_comm,show decide ((b,a)=ab)=decide (ab=(b,a)) from decide_eq_decide.mpr eq_comm]
     rw [hb]
     walk_at "vc"
     refine qD (fun hb'=>?_) fun hb'=>?_
     ·walk_at "vc"
      rw [if_pos hb']
      refine ⟨by rw [List.length_map];exact qh (by omega),s6,us++[t],by rw [List.map_append];rfl,by rw [List.length_append];show us.length + 1≤_;omega,hus.snoc et⟩
     ·rw [if_neg hb',List.append_nil]
      exact ⟨s6,us,rfl,by omega,hus⟩
  ·obtain ⟨s3,us,rfl,hul,hus⟩:=hp
   have etk:dps.take (ts.map V.ref).length=dps:=by rw [List.length_map,hdl,List.take_length]
   rw [etk] at hus
   rw [List.length_map] at hul
   refine ⟨by rw [List.length_map];exact Nat.le_of_lt (qh (by omega)),fun e he=>?_⟩
   have s45:=qE (L2.Same.refl H') (o:=.lst (us.map V.ref)) he
   have s25:=s3.trans s45
   have s5:=s2.trans s25
   walk_at "vc"
   refine .inl ⟨x,cw,dx,_,.ref ol,rfl,s5 _ _ hx,T.wcl,T.wo,j4,?_⟩
   walk_at "vc"
   intro x' dx' hx' hdx' hne'
   have hO:NOk ss:=⟨hw.few,hw.nd,hw.nm⟩
   have hT:TOk ss (qaP dps a b):=hG.tok.filter _
   have hR:jd ss (qaP dps a b) ss=qaP dps a b:=ris_filter (hG.ris hw) _
   exact qam (s5 _ _ ho) qc (hus.mono fun _ _ z=>s25 _ _ z) hO hT (Shuf.self _) hx' hdx' hne'.symm fun ns' H6 s56 hWN hb=>⟨rfl,q x' ns' H6 (s5.trans s56) (s5.free hx') (hWN.old s5) (WG.of hWN.ok hT (Shuf.self _) hb hR)⟩
end
abbrev zE:Stmt:=top 32
theorem sc_l_asked:FnScope ["_law_web", "_law_way", "_law_things", "_law_told_here", "e"] ["_law_web", "_law_way", "_law_things"] (qe zE):=⟨rfl,rfl,rfl,by decide +kernel,rfl,by decide +kernel,by decide +kernel⟩
abbrev qao:Stmt:=top 33
theorem sc_l_said:FnScope ["_law_told_here"] ["_law_told_here"] (qe qao):=⟨rfl,rfl,rfl,by decide +kernel,rfl,by decide +kernel,by decide +kernel⟩
inductive Res
 | no (i:Nat) (y:V)
 | tie (v u:V)
 | web (ss:List Str) (dps:List (Str×Str))
def qgc (i:Nat):Str:=if i=0 then "name" else if i=1 then "twice" else if i=2 then "place" else if i=3 then "tie" else "many"
def Got (cc:Nat→Addr) (cw:Addr) (H:Hp) (a:Addr):Res→Prop
 | .no i y=>i < 5∧∃ dy,IsX H a (cc i) (some dy)∧H dy=some (.xd [(qay i,y)])
 | .tie v u=>∃ dy t,IsX H a (cc 3) (some dy)∧H dy=some (.xd [(qay 3,.ref t)])∧H t=some (.tup [v,u])
 | .web ss dps=>∃ ns,WebAt cw H a ss ns∧WG ss ns dps
def PT2 (H:Hp) (t2:Addr) (ts:List Addr) (dps:List (Str×Str)):Prop:=H t2=some (.tup (ts.map V.ref))∧All2 (fun t ab=>H t=some (.tup [.str ab.1,.str ab.2])) ts dps
def Says (H:Hp) (t:Addr):Res→Prop
 | .no i y=>H t=some (.tup [.str (qgc i),y])
 | .tie v u=>∃ t',H t=some (.tup [.str "tie",.ref t'])∧H t'=some (.tup [v,u])
 | .web ss dps=>∃ t1 t2 ts,H t=some (.tup [.ref t1,.ref t2])∧H t1=some (.tup (ss.map V.str))∧PT2 H t2 ts dps
theorem Says.same {H H':Hp} {t:Addr}:∀ {r:Res},Says H t r→L2.Same H H'→Says H' t r
 | .no i y,h,s=>s _ _ h
 | .tie v u,⟨t',h1,h2⟩,s=>⟨t',s _ _ h1,s _ _ h2⟩
 | .web ss dps,⟨t1,t2,ts,h1,h2,h3,h4⟩,s=>⟨t1,t2,ts,s _ _ h1,s _ _ h2,s _ _ h3,h4.mono fun _ _ z=>s _ _ z⟩
def qgd (ss:List Str) (dps:List (Str×Str)) (v:V):Option (List V)→Res
 | none=>.no 2 v
 | some xs=>match qa0 ss xs with
  | some y=>.no 2 y
  | none=>.web (ze ss xs) (zf dps (ze ss xs))
def qdR (ss:List Str) (dps:List (Str×Str)) (v:V):Res:=if j8 v=true then (if qC v∈ss then .no 1 v else if ss.length=14 then .no 4 (.int 15) else .web (ss++[qC v]) dps) else .no 0 v
def qeJ (ss:List Str) (dps:List (Str×Str)) (v u:V):Res:=if qt ss v=true then (if qt ss u=true then (if (jv dps (qC v) (qC u)||decide (qC v=qC u))=true then .tie v u else if dps.length=30 then .no 4 (.int 31) else .web ss (qeB ss dps (qC v) (qC u))) else .no 2 u) else .no 2 v
def qeK (ss:List Str) (dps:List (Str×Str)) (v u:V):Res:=if qt ss v=true then (if qt ss u=true then (if jv dps (qC v) (qC u)=true then .web ss (qaP dps (qC v) (qC u)) else .tie v u) else .no 2 u) else .no 2 v
def Ask (p:Addr) (H:Hp) (ss:List Str) (dps:List (Str×Str)) (way:Int) (th:Addr) (r:Res):Prop:=
 (way=0∧∃ v o,H th=some (.lst [v])∧Arg p H v o∧r=qgd ss dps v o)∨(way=1∧∃ v k,H th=some (.lst [v])∧Th p H k v∧r=qdR ss dps v) ∨
 (way=2∧∃ v u k,H th=some (.tup [v,u])∧Th p H k v∧Th p H k u∧r=qeJ ss dps v u)∨(way=3∧∃ v u k,H th=some (.tup [v,u])∧Th p H k v∧Th p H k u∧r=qeK ss dps v u)
def qge (cc:Nat→Addr) (cw:Addr):Sp:=fun vs H Q _=>∃ (p x th:Addr) (way:Int) (ss:List Str) (ns:List Nat) (dps:List (Str×Str)) (r:Res),vs=[.ref x,.int way,.ref th]∧WebAt cw H x ss ns∧WG ss ns dps∧Ask p H ss dps way th r∧∀ (a:Addr) (H':Hp),L2.Same H H'→Got cc cw H' a r→Q (.ref a) H'
def qfn (cc:Nat→Addr) (cw:Addr):Sp:=fun vs H Q _=>∃ (a:Addr) (r:Res),vs=[.ref a]∧Got cc cw H a r∧∀ (t:Addr) (H':Hp),L2.Same H H'→Says H' t r→Q (.ref t) H'
def GX (H:Hp) (i:Nat) (dy:Addr) (r:Res):Prop:=(∃ y,r=.no i y∧H dy=some (.xd [(qay i,y)]))∨∃ v u t,i=3∧r=.tie v u∧H dy=some (.xd [(qay 3,.ref t)])∧H t=some (.tup [v,u])
theorem GX.got {cc:Nat→Addr} {cw:Addr} {H:Hp} {i:Nat} {dy a:Addr} {r:Res} (h:GX H i dy r) (hi:i < 5) (ha:IsX H a (cc i) (some dy)):Got cc cw H a r:=by
 rcases h with ⟨y,rfl,hy⟩ | ⟨v,u,t,rfl,rfl,hy,ht⟩
 ·exact ⟨hi,dy,ha,hy⟩
 ·exact ⟨dy,t,ha,hy,ht⟩
section
variable {P:Program} {w:World} {K:W.Frag} {mg:Str→Option Value} {base:Heap} {cc:Nat→Addr} {cw:Addr}
theorem ok_ask {f:Addr} {fd:FuncData} (F:Fun K "_law_asked" "_law_asked" zE f fd) (T:Txt K mg cc cw) (D_Web_without:MethOk P w K mg base (CX1 P w) 8 cw "without" ["self", "places"] (qez cc cw)) (D_Web_with_place:MethOk P w K mg base (CX1 P w) 8 cw "with_place" ["self", "place"] (qfG cc cw))
  (D_Web_with_tie:MethOk P w K mg base (CX1 P w) 8 cw "with_tie" ["self", "one", "other"] (qga cc cw)) (D_Web_without_tie:MethOk P w K mg base (CX1 P w) 8 cw "without_tie" ["self", "one", "other"] (qgb cc cw)):FnOk P w K mg base CX0 9 f fd ["_law_web", "_law_way", "_law_things"] (qge cc cw):=by
 refine F.ok sc_l_asked (fun vs H Q E h=>?_) fun cdv A outer s H vs Q E hr h=>?_
 ·obtain ⟨p,x,th,way,ss,ns,dps,r,rfl,_⟩:=h;rfl
 ·obtain ⟨p,x,th,way,ss,ns,dps,r,rfl,hW,hG,hA,q⟩:=h
  have hu:=zR hr
  obtain ⟨dx,d,ol,n,hx,_⟩:=id hW
  have hw:=hW.ok
  have hT:=hG.tok
  have hR:=hG.ris hw
  refine ⟨_,(qd (qu (i:=3) sc_l_asked.nd rfl (Or.inl rfl) qeW)
 (qd (ps_try rfl rfl rfl qi)
 (qf (qk (pv 3))))),?_⟩
  walk_at "vc"
  refine ⟨fun σ c dxo H'=>∃ i dy,c=.ref (cc i)∧i < 5∧dxo=some dy∧L2.Same H H'∧GX H' i dy r∧σ=[some (.ref x),some (.int way),some (.ref th),some .non,none],_,fun pn xe qR=>(qf (qF (qo (zn (K:=K) rfl hu) (pv 1) qg (qy _)) (qf (qu (i:=3) sc_l_asked.nd rfl (Or.inl rfl) (jS D_Web_without (hm hr) qR (pv 0) (qa (qA (qB (K:=K) rfl hu) (pv 2) qg (fun _ _=>rfl)) qb)))) (qf (qF (qo (zn (K:=K) rfl hu) (pv 1) qg (qy _)) (qf (qu (i:=3) sc_l_asked.nd rfl (Or.inl rfl) (jS D_Web_with_place (hm hr) qR (pv 0) (qa (qA (qB (K:=K) rfl hu) (pv 2) qg (fun _ _=>rfl)) qb)))) (qf (qF (qo (zn (K:=K) rfl hu) (pv 1) qg (qy _)) (qf (qu (i:=3) sc_l_asked.nd rfl (Or.inl rfl) (jS D_Web_with_tie (hm hr) qR (pv 0) (qa (qA (qB (K:=K) rfl hu) (pv 2) qg (fun _ _=>rfl)) (qa (qA (qB (K:=K) rfl hu) (pv 2) qg (fun _ _=>rfl)) qb))))) (qf (qu (i:=3) sc_l_asked.nd rfl (Or.inl rfl) (jS D_Web_without_tie (hm hr) qR (pv 0) (qa (qA (qB (K:=K) rfl hu) (pv 2) qg (fun _ _=>rfl)) (qa (qA (qB (K:=K) rfl hu) (pv 2) qg (fun _ _=>rfl)) qb))))))))))),?_,fun a C dx' σ' H' hE ha'=>?_⟩
  ·have no:∀ {i:Nat} {y:V},i < 5→r=.no i y→Rz cc H (fun c dxo H'=>∃ i dy,c=.ref (cc i)∧i < 5∧dxo=some dy∧L2.Same H H'∧GX H' i dy r∧([some (.ref x),some (.int way),some (.ref th),some .non,none]:L2.St)=[some (.ref x),some (.int way),some (.ref th),some .non,none]) (i,y):=fun {i y} hi hrr dy H' s' hy =>
    ⟨i,dy,rfl,hi,rfl,s',.inl ⟨y,hrr,hy⟩,rfl⟩
   have nt:∀ {v u:V},r=.tie v u→RzT cc H (fun c dxo H'=>∃ i dy,c=.ref (cc i)∧i < 5∧dxo=some dy∧L2.Same H H'∧GX H' i dy r∧([some (.ref x),some (.int way),some (.ref th),some .non,none]:L2.St)=[some (.ref x),some (.int way),some (.ref th),some .non,none]) v u:=fun {v u} hrr dy t H' s' ht0 ht hy =>
    ⟨3,dy,rfl,by decide,rfl,s',.inr ⟨v,u,t,rfl,hrr,hy,ht⟩,rfl⟩
   have yes:∀ {x':Addr} {ns':List Nat} {ss':List Str} {dps':List (Str×Str)} {H':Hp},r=.web ss' dps'→L2.Same H H'→WebN H cw H' x' ss' ns'→WG ss' ns' dps'→Q (.ref x') H':=fun hrr s' hWN hWG=>q _ _ s' (by rw [hrr];exact ⟨_,hWN.web,hWG⟩)
   rcases hA with ⟨rfl,v,o,hth,ha,hrr⟩ | ⟨rfl,v,k,hth,hv,hrr⟩ | ⟨rfl,v,u,k,hth,hv,hu',hrr⟩ | ⟨rfl,v,u,k,hth,hv,hu',hrr⟩
   ·walk_at "vc"
    refine .inl (.inl (.inl ⟨rfl,rfl,?_⟩))
    walk_at "vc"
    refine qD (fun _=>?_) fun h=>absurd (by decide) h
    walk_at "vc"
    refine ⟨x,dx,_,rfl,hx,js (by decide +kernel),?_⟩
    walk_at "vc"
    refine .inl (zX hth rfl ?_)
    walk_at "vc"
    refine ⟨p,x,ss,ns,dps,v,o,rfl,hW,hG,ha,(fun e=>no (by decide) (by rw [hrr,e];rfl)),(fun xs y e e2=>no (by decide) (by rw [hrr,e];show (match qa0 ss xs with | some y=>_ | none=>_)=_;rw [e2])),fun xs e e2 x' ns' H' s' hx'0 hWN hb=>?_⟩
    walk_at "vc"
    exact yes (dps':=zf dps (ze ss xs)) (by rw [hrr,e];show (match qa0 ss xs with | some y=>_ | none=>_)=_;rw [e2]) s' hWN (WG.of hWN.ok (hT.keep _) (Shuf.self _) hb (qb0 hR _))
   ·walk_at "vc"
    refine .inl (.inl (.inl ⟨rfl,rfl,?_⟩))
    walk_at "vc"
    refine qD (fun h=>absurd h (by decide)) fun _=>?_
    walk_at "vc"
    refine .inl (.inl (.inl ⟨rfl,rfl,?_⟩))
    walk_at "vc"
    refine qD (fun _=>?_) fun h=>absurd (by decide) h
    walk_at "vc"
    refine ⟨x,dx,_,rfl,hx,js (by decide +kernel),?_⟩
    walk_at "vc"
    refine .inl (zX hth rfl ?_)
    walk_at "vc"
    unfold qdR at hrr
    refine ⟨p,x,k,ss,ns,dps,v,rfl,hW,hG,hv,(fun e=>no (by decide) (by rw [hrr,if_neg (by rw [e];exact Bool.false_ne_true)])),(fun e e2=>no (by decide) (by rw [hrr,if_pos e,if_pos e2])),(fun e e2 e3=>no (by decide) (by rw [hrr,if_pos e,if_neg e2,if_pos e3])),fun e e2 e3 x' ns' H' s' hx'0 hWN hb=>?_⟩
    walk_at "vc"
    exact yes (by rw [hrr,if_pos e,if_neg e2,if_neg (by omega)]) s' hWN (WG.of hWN.ok (hT.more _) (Shuf.self _) hb (qdE hT hR e2))
   ·walk_at "vc"
    refine .inl (.inl (.inl ⟨rfl,rfl,?_⟩))
    walk_at "vc"
    refine qD (fun h=>absurd h (by decide)) fun _=>?_
    walk_at "vc"
    refine .inl (.inl (.inl ⟨rfl,rfl,?_⟩))
    walk_at "vc"
    refine qD (fun h=>absurd h (by decide)) fun _=>?_
    walk_at "vc"
    refine .inl (.inl (.inl ⟨rfl,rfl,?_⟩))
    walk_at "vc"
    refine qD (fun _=>?_) fun h=>absurd (by decide) h
    walk_at "vc"
    refine ⟨x,dx,_,rfl,hx,js (by decide +kernel),?_⟩
    walk_at "vc"
    refine .inl (qaR hth rfl ?_)
    walk_at "vc"
    refine .inl (qaR hth rfl ?_)
    walk_at "vc"
    unfold qeJ at hrr
    refine ⟨p,x,k,ss,ns,dps,v,u,rfl,hW,hG,hv,hu',(fun e=>no (by decide) (by rw [hrr,if_neg (by rw [e];exact Bool.false_ne_true)])),(fun e e2=>no (by decide) (by rw [hrr,if_pos e,if_neg (by rw [e2];exact Bool.false_ne_true)])),(fun e e2 e3=>nt (by rw [hrr,if_pos e,if_pos e2,if_pos e3])),(fun e e2 e3 e4=>no (by decide) (by rw [hrr,if_pos e,if_pos e2,if_neg (by rw [e3];exact Bool.false_ne_true),if_pos e4])),fun e e2 e3 e4 x' ns' H' s' hx'0 hWN hg=>?_⟩
    walk_at "vc"
    exact yes (by rw [hrr,if_pos e,if_pos e2,if_neg (by rw [e3];exact Bool.false_ne_true),if_neg (by omega)]) s' hWN hg
   ·walk_at "vc"
    refine .inl (.inl (.inl ⟨rfl,rfl,?_⟩))
    walk_at "vc"
    refine qD (fun h=>absurd h (by decide)) fun _=>?_
    walk_at "vc"
    refine .inl (.inl (.inl ⟨rfl,rfl,?_⟩))
    walk_at "vc"
    refine qD (fun h=>absurd h (by decide)) fun _=>?_
    walk_at "vc"
    refine .inl (.inl (.inl ⟨rfl,rfl,?_⟩))
    walk_at "vc"
    refine qD (fun h=>absurd h (by decide)) fun _=>?_
    walk_at "vc"
    refine ⟨x,dx,_,rfl,hx,js (by decide +kernel),?_⟩
    walk_at "vc"
    refine .inl (qaR hth rfl ?_)
    walk_at "vc"
    refine .inl (qaR hth rfl ?_)
    walk_at "vc"
    unfold qeK at hrr
    refine ⟨p,x,k,ss,ns,dps,v,u,rfl,hW,hG,hv,hu',(fun e=>no (by decide) (by rw [hrr,if_neg (by rw [e];exact Bool.false_ne_true)])),(fun e e2=>no (by decide) (by rw [hrr,if_pos e,if_neg (by rw [e2];exact Bool.false_ne_true)])),(fun e e2 e3=>nt (by rw [hrr,if_pos e,if_pos e2,if_neg (by rw [e3];exact Bool.false_ne_true)])),fun e e2 e3 x' ns' H' s' hx'0 hWN hg=>?_⟩
    walk_at "vc"
    exact yes (by rw [hrr,if_pos e,if_pos e2,if_pos e3]) s' hWN hg
  ·obtain ⟨i,dy,hc,hi,rfl,s1,hX,rfl⟩:=hE
   cases hc
   refine ⟨_,(ph_as (K:=K) rfl sc_l_asked.nd (i:=4) rfl rfl rfl T.m_OnceError (qf (qu (i:=3) sc_l_asked.nd rfl (Or.inl rfl) (pv 4))) ph_nil),?_⟩
   refine ⟨true,T.mroO i hi,T.xat 5 (by decide),T.xat i (by omega),qbC ?_⟩
   walk_at "vc"
   exact q a H' s1 (hX.got hi (.inr ha'))
theorem ok_said {f:Addr} {fd:FuncData} (F:Fun K "_law_said" "_law_said" qao f fd) (T:Txt K mg cc cw) (D_Web_told:MethOk P w K mg base CX0 8 cw "told" ["self"] (qds cw)):FnOk P w K mg base CX0 9 f fd ["_law_told_here"] (qfn cc cw):=by
 refine F.ok sc_l_said (fun vs H Q E h=>?_) fun cdv A outer s H vs Q E hr h=>?_
 ·obtain ⟨a,r,rfl,_⟩:=h;rfl
 ·obtain ⟨a,r,rfl,hg,q⟩:=h
  have hu:=zR hr
  refine ⟨_,(qd (qF (qP (qm (zP (K:=K) rfl) rfl T.b_isinstance boot_isinstance (qa (pv 0) (qa (qat (v:=.ref (cc 0)) rfl T.m_NoName rfl) qb)))) (qf (qk (qG (qa jj (qa (jk (K:=K) rfl (pv 0) rfl) qb))))) qi)
 (qd (qF (qP (qm (zP (K:=K) rfl) rfl T.b_isinstance boot_isinstance (qa (pv 0) (qa (qat (v:=.ref (cc 2)) rfl T.m_NoPlace rfl) qb)))) (qf (qk (qG (qa jj (qa (jk (K:=K) rfl (pv 0) rfl) qb))))) qi)
 (qd (qF (qP (qm (zP (K:=K) rfl) rfl T.b_isinstance boot_isinstance (qa (pv 0) (qa (qat (v:=.ref (cc 3)) rfl T.m_NoTie rfl) qb)))) (qf (qk (qG (qa jj (qa (jk (K:=K) rfl (pv 0) rfl) qb))))) qi)
 (qd (qF (qP (qm (zP (K:=K) rfl) rfl T.b_isinstance boot_isinstance (qa (pv 0) (qa (qat (v:=.ref (cc 1)) rfl T.m_Twice rfl) qb)))) (qf (qk (qG (qa jj (qa (jk (K:=K) rfl (pv 0) rfl) qb))))) qi)
 (qd (qF (qP (qm (zP (K:=K) rfl) rfl T.b_isinstance boot_isinstance (qa (pv 0) (qa (qat (v:=.ref (cc 4)) rfl T.m_TooMany rfl) qb)))) (qf (qk (qG (qa jj (qa (jk (K:=K) rfl (pv 0) rfl) qb))))) qi)
 (qf (qk (qZ D_Web_told (hm hr) (pv 0))))))))),?_⟩
  have ex:(∃ ss ns dps,r=.web ss dps∧WebAt cw H a ss ns∧WG ss ns dps)∨∃ i y dy,i < 5∧IsX H a (cc i) (some dy)∧H dy=some (.xd [(qay i,y)])∧∀ t H',L2.Same H H'→H' t=some (.tup [.str (qgc i),y])→Says H' t r:=by
   cases r with
   | no i y=>obtain ⟨hi,dy,h1,h2⟩:=hg;exact .inr ⟨i,y,dy,hi,h1,h2,fun t H' _ e=>e⟩
   | tie v u=>obtain ⟨dy,t,h1,h2,h3⟩:=hg;exact .inr ⟨3,.ref t,dy,by decide,h1,h2,fun t' H' s' e=>⟨t,e,s' _ _ h3⟩⟩
   | web ss dps=>obtain ⟨ns,h1,h2⟩:=hg;exact .inl ⟨ss,ns,dps,rfl,h1,h2⟩
  rcases ex with ⟨ss,ns,dps,rfl,hW,hG⟩ | ⟨i,y,dy,hi,hX,hy,hS⟩
  ·obtain ⟨dx,d,ol,n,hx,_⟩:=id hW
   have ty:TyX K H (.ref a) (.ref cw):=.inl (T.tyW H a dx _ hx)
   walk_at "vc"
   refine zy ty rfl (T.kitWX 0 (by decide)) ?_
   walk_at "vc"
   refine qD (fun h=>by cases h) fun _=>?_
   walk_at "vc"
   refine zy ty rfl (T.kitWX 2 (by decide)) ?_
   walk_at "vc"
   refine qD (fun h=>by cases h) fun _=>?_
   walk_at "vc"
   refine zy ty rfl (T.kitWX 3 (by decide)) ?_
   walk_at "vc"
   refine qD (fun h=>by cases h) fun _=>?_
   walk_at "vc"
   refine zy ty rfl (T.kitWX 1 (by decide)) ?_
   walk_at "vc"
   refine qD (fun h=>by cases h) fun _=>?_
   walk_at "vc"
   refine zy ty rfl (T.kitWX 4 (by decide)) ?_
   walk_at "vc"
   refine qD (fun h=>by cases h) fun _=>?_
   walk_at "vc"
   refine ⟨a,dx,_,rfl,hx,js (by decide +kernel),?_⟩
   walk_at "vc"
   refine ⟨a,ss,ns,rfl,hW,fun t t1 t2 l ts H' s' e0 e1 e2 hall=>?_⟩
   rw [hG.due] at hall
   exact q t H' s' ⟨t1,t2,ts,e0,e1,e2,hall.mono fun _ _ z=>z.2.2⟩
  ·have ty:TyX K H (.ref a) (.ref (cc i)):=.inr ⟨a,cc i,some dy,rfl,rfl,hX,T.xat i (by omega),fun d hd=>by cases hd;exact ⟨_,hy⟩⟩
   have fin:∀ {tg:Str},tg=qgc i→∀ t,H t=none→Q (.ref t) (upd H t (.tup [.str tg,y])):=fun e t ht=>q t _ (qE (L2.Same.refl H) ht) (hS t _ (qE (L2.Same.refl H) ht) (by rw [qc,e]))
   walk_at "vc"
   refine zy ty rfl (T.kit i 0 hi (by decide)) ?_
   walk_at "vc"
   refine qD (fun h=>?_) fun h0=>?_
   ·have h:=of_decide_eq_true h
    subst h
    walk_at "vc"
    refine .inr ⟨a,cc 0,dy,_,y,rfl,hX,T.xat 0 (by decide),T.na 0 (by decide),hy,rfl,?_⟩
    walk_at "vc"
    exact ⟨by show 2≤sizeLine;decide,fun t ht=>fin rfl t ht⟩
   walk_at "vc"
   refine zy ty rfl (T.kit i 2 hi (by decide)) ?_
   walk_at "vc"
   refine qD (fun h=>?_) fun h2=>?_
   ·have h:=of_decide_eq_true h
    subst h
    walk_at "vc"
    refine .inr ⟨a,cc 2,dy,_,y,rfl,hX,T.xat 2 (by decide),T.na 2 (by decide),hy,rfl,?_⟩
    walk_at "vc"
    exact ⟨by show 2≤sizeLine;decide,fun t ht=>fin rfl t ht⟩
   walk_at "vc"
   refine zy ty rfl (T.kit i 3 hi (by decide)) ?_
   walk_at "vc"
   refine qD (fun h=>?_) fun h3=>?_
   ·have h:=of_decide_eq_true h
    subst h
    walk_at "vc"
    refine .inr ⟨a,cc 3,dy,_,y,rfl,hX,T.xat 3 (by decide),T.na 3 (by decide),hy,rfl,?_⟩
    walk_at "vc"
    exact ⟨by show 2≤sizeLine;decide,fun t ht=>fin rfl t ht⟩
   walk_at "vc"
   refine zy ty rfl (T.kit i 1 hi (by decide)) ?_
   walk_at "vc"
   refine qD (fun h=>?_) fun h1=>?_
   ·have h:=of_decide_eq_true h
    subst h
    walk_at "vc"
    refine .inr ⟨a,cc 1,dy,_,y,rfl,hX,T.xat 1 (by decide),T.na 1 (by decide),hy,rfl,?_⟩
    walk_at "vc"
    exact ⟨by show 2≤sizeLine;decide,fun t ht=>fin rfl t ht⟩
   have h4:i=4:=by
    simp only [decide_eq_true_iff] at h0 h1 h2 h3
    omega
   subst h4
   walk_at "vc"
   refine zy ty rfl (T.kit 4 4 hi (by decide)) ?_
   walk_at "vc"
   refine qD (fun h=>?_) fun h=>absurd (by decide) h
   walk_at "vc"
   refine .inr ⟨a,cc 4,dy,_,y,rfl,hX,T.xat 4 (by decide),T.na 4 (by decide),hy,rfl,?_⟩
   walk_at "vc"
   exact ⟨by show 2≤sizeLine;decide,fun t ht=>fin rfl t ht⟩
end
abbrev qbJ:Stmt:=top 34
theorem sc_l_in:FnScope ["_law_names_here", "_law_thing_here"] ["_law_names_here", "_law_thing_here"] (qe qbJ):=⟨rfl,rfl,rfl,by decide +kernel,rfl,by decide +kernel,by decide +kernel⟩
abbrev jA:Stmt:=top 35
theorem sc_l_place_due:FnScope ["_law_names_here", "_law_ties_here", "_law_thing_here", "_law_good"] ["_law_names_here", "_law_ties_here", "_law_thing_here"] (qe jA):=⟨rfl,rfl,rfl,by decide +kernel,rfl,by decide +kernel,by decide +kernel⟩
def qg3 (v:V):Prop:=∀ s,v=.str s→jC s=true∨s=""∨s="A"∨s="zzzzzzz"
def qgD:Sp:=fun vs H Q _=>∃ (p n:Addr) (k:Nat) (ss:List Str) (v:V),vs=[.ref n,v]∧H n=some (.lst (ss.map V.str))∧(∀ s∈ss,jC s=true)∧Th p H k v∧Q (.bl (qt ss v)) H
def qg4:Sp:=fun vs H Q _=>∃ (p n l:Addr) (k:Nat) (ss:List Str) (ts:List Addr) (dps:List (Str×Str)) (v:V),vs=[.ref n,.ref l,v]∧H n=some (.lst (ss.map V.str))∧ss.length≤14∧PL H l ts dps∧dps.length≤30∧Th p H k v∧qg3 v ∧
 ∀ (t:Addr) (H':Hp),L2.Same H H'→Says H' t (qdR ss dps v)→Q (.ref t) H'
theorem place_str {ss:List Str} {s:Str} (h:∀ s∈ss,jC s=true):qt ss (.str s)=decide (s∈ss):=by
 unfold qt
 split
 ·rfl
 ·rename_i hn
  exact (decide_eq_false fun z=>hn (h s z)).symm
theorem sg_27 {c:Nat} (h:sg c=true):97≤c∧c≤122:=by
 unfold sg at h
 split at h
 ·rename_i h1
  have e1:("a":Str).cps.toList=[97]:=by decide +kernel
  have e2:("z":Str).cps.toList=[122]:=by decide +kernel
  rw [e1] at h1
  rw [e2] at h
  simp only [Bool.not_eq_true',decide_eq_false_iff_not] at h1 h
  refine ⟨?_,?_⟩
  ·refine Nat.le_of_not_lt fun z=>h1 ?_
   exact List.Lex.rel z
  ·refine Nat.le_of_not_lt fun z=>h ?_
   exact List.Lex.rel z
 ·cases h
theorem low_facts:∀ i:Fin 26,Unicode.isAlpha (97 + i.1)=true∧Unicode.isLower (97 + i.1)=true∧Unicode.isUpper (97 + i.1)=false∧Unicode.isTitle (97 + i.1)=false:=by decide +kernel
theorem qb1 {c:Nat} (h:sg c=true):Unicode.isAlpha c=true∧Unicode.isLower c=true∧Unicode.isUpper c=false∧Unicode.isTitle c=false:=by
 obtain ⟨h1,h2⟩:=sg_27 h
 have:=low_facts ⟨c - 97,by omega⟩
 have e:97 + (c - 97)=c:=by omega
 simp only [e] at this
 exact this
theorem name_alpha {s:Str} (h:jC s=true):1≤s.length∧s.length≤6∧PySem.Txt.isalpha s=true∧PySem.Txt.islower s=true:=by
 unfold jC at h
 split at h
 ·rename_i hl
  have hall:=List.all_eq_true.mp h
  have hlen:s.length=s.cps.toList.length:=by simp [Str.length]
  have hpos:0 < s.cps.toList.length:=by omega
  refine ⟨hl.1,hl.2,?_,?_⟩
  ·unfold PySem.Txt.isalpha
   rw [Bool.and_eq_true]
   refine ⟨decide_eq_true (by have:=hl.1;omega),?_⟩
   rw [← Array.all_toList]
   exact List.all_eq_true.mpr fun c hc=>(qb1 (hall c hc)).1
  ·unfold PySem.Txt.islower
   rw [Bool.and_eq_true,← Array.any_toList,← Array.any_toList]
   refine ⟨List.any_eq_true.mpr ⟨s.cps.toList[0],List.getElem_mem hpos,(qb1 (hall _ (List.getElem_mem hpos))).2.1⟩,?_⟩
   rw [Bool.not_eq_true']
   refine List.any_eq_false.mpr fun c hc hx=>?_
   obtain ⟨_,_,h3,h4⟩:=qb1 (hall c hc)
   rw [h3,h4] at hx
   cases hx
 ·cases h
section
variable {P:Program} {w:World} {K:W.Frag} {mg:Str→Option Value} {base:Heap} {cc:Nat→Addr} {cw:Addr}
theorem ok_in {f:Addr} {fd:FuncData} (F:Fun K "_law_in" "_law_in" qbJ f fd) (T:Txt K mg cc cw):FnOk P w K mg base CX0 1 f fd ["_law_names_here", "_law_thing_here"] qgD:=by
 refine F.ok sc_l_in (fun vs H Q E h=>?_) fun cdv A outer s H vs Q E hr h=>?_
 ·obtain ⟨p,n,k,ss,v,rfl,_⟩:=h;rfl
 ·obtain ⟨p,n,k,ss,v,rfl,hn,hnm,hv,q⟩:=h
  have hu:=zR hr
  refine ⟨_,(qf (qk (qa2 (qm (zP (K:=K) rfl) rfl T.b_isinstance boot_isinstance (qa (pv 1) (qa (jO (v:=.ty "str") rfl T.b_str boot_str rfl) qb))) (qba (jV (qax (K:=K) rfl hu) (pv 1) (pv 0) (by with_unfolding_all rfl)))))),?_⟩
  obtain ⟨t,ht,ty,hs,hno,_,_,_⟩:=hv.ty (K:=K)
  walk_at "vc"
  refine zy (.inl ty) rfl (qaW K t ht "str" (by simp)) ?_
  walk_at "vc"
  refine qD (fun h=>?_) fun h=>?_
  ·obtain ⟨x,rfl,hx⟩:=hs h
   walk_at "vc"
   refine .inl ⟨n,_,rfl,.inl (SqL.of hn),rfl,jl ss,?_⟩
   rw [zc]
   rw [place_str hnm] at q
   exact q
  ·have hf:qcl t "str"=false:=by simpa using h
   rw [place_no (hno hf)] at q
   exact q
theorem ok_pd {f:Addr} {fd:FuncData} (F:Fun K "_law_place_due" "_law_place_due" jA f fd) (T:Txt K mg cc cw):FnOk P w K mg base CX0 1 f fd ["_law_names_here", "_law_ties_here", "_law_thing_here"] qg4:=by
 refine F.ok sc_l_place_due (fun vs H Q E h=>?_) fun cdv A outer s H vs Q E hr h=>?_
 ·obtain ⟨p,n,l,k,ss,ts,dps,v,rfl,_⟩:=h;rfl
 ·obtain ⟨p,n,l,k,ss,ts,dps,v,rfl,hn,few,hl,h30,hv,hodd,q⟩:=h
  have hu:=zR hr
  refine ⟨_,(qd (qu (i:=3) sc_l_place_due.nd rfl (Or.inl rfl) (qa2 (qm (zP (K:=K) rfl) rfl T.b_isinstance boot_isinstance (qa (pv 2) (qa (jO (v:=.ty "str") rfl T.b_str boot_str rfl) qb))) (qa2 (qc2 qdI qdI qg (qm (j7 (K:=K) rfl) rfl T.b_len boot_len (qa (pv 2) qb)) qg) (qa2 (qfX (K:=K) rfl PySem.F.plainAttrs_str PySem.F.slot_str_isalpha PySem.F.type_str_isalpha mt_isalpha (pv 2)) (qba (qfX (K:=K) rfl PySem.F.plainAttrs_str PySem.F.slot_str_islower PySem.F.type_str_islower mt_islower (pv 2)))))))
 (qd (qF (jr (qP (pv 3))) (qf (qk (qG (qa jj (qa (pv 2) qb))))) qi)
 (qd (qF (qo (qax (K:=K) rfl hu) (pv 2) (pv 0) (by with_unfolding_all rfl)) (qf (qk (qG (qa jj (qa (pv 2) qb))))) qi)
 (qd (qF (qo (zn (K:=K) rfl hu) (qm (j7 (K:=K) rfl) rfl T.b_len boot_len (qa (pv 0) qb)) qg (qy _)) (qf (qk (qG (qa jj (qa qg qb))))) qi)
 (qf (qk (qG (qa (qI (jy (K:=K) rfl) rfl T.b_tuple boot_tuple (qa (qL (zu (K:=K) rfl) (pv 0) (qQ (qa (pv 2) qb))) qb)) (qa (qI (jy (K:=K) rfl) rfl T.b_tuple boot_tuple (qa (pv 1) qb)) qb))))))))),?_⟩
  obtain ⟨t,ht,ty,hs,hno,_,_,_⟩:=hv.ty (K:=K)
  have fin:∀ {tg:Str} {y:V} {i:Nat} {H1:Hp},L2.Same H H1→qdR ss dps v=.no i y→tg=qgc i→∀ t,H1 t=none→Q (.ref t) (upd H1 t (.tup [.str tg,y])):=fun s1 e e2 t ht=>q t _ (qE s1 ht) (by rw [e,e2];exact qc)
  by_cases hnm:j8 v=true
  ·obtain ⟨ev,hns,_⟩:=qJ hnm
   generalize qC v=x at ev hns
   subst ev
   obtain ⟨l1,l2,al,lo⟩:=name_alpha hns
   have ts':qcl t "str"=true:=by
    cases e:qcl t "str" with
    | true=>rfl
    | false=>rw [hno e] at hnm;cases hnm
   walk_at "vc"
   refine zy (.inl ty) rfl (qaW K t ht "str" (by simp)) ?_
   rw [ts']
   walk_at "vc"
   refine qbC ?_
   walk_at "vc"
   refine qfz (Nat.le_trans (show x.length≤100000 by omega) (by decide)) ?_
   walk_at "vc"
   rw [if_pos (decide_eq_true (by omega))]
   walk_at "vc"
   rw [if_pos (decide_eq_true (by omega))]
   walk_at "vc"
   refine ⟨rfl,x,rfl,rfl,?_⟩
   rw [al]
   walk_at "vc"
   refine qbC ?_
   walk_at "vc"
   refine ⟨rfl,x,rfl,rfl,?_⟩
   rw [lo]
   walk_at "vc"
   refine qD (fun h=>by cases h) fun _=>?_
   walk_at "vc"
   refine .inl ⟨n,_,rfl,.inl (SqL.of hn),rfl,jl ss,?_⟩
   rw [zc]
   walk_at "vc"
   refine qD (fun h=>?_) fun h=>?_
   ·walk_at "vc"
    exact ⟨by show 2≤sizeLine;decide,fin (i:=1) (L2.Same.refl H) (by unfold qdR;rw [if_pos hnm,if_pos (show qC (V.str x)∈ss from of_decide_eq_true h)]) rfl⟩
   have hx:x∉ss:=fun z=>h (decide_eq_true z)
   walk_at "vc"
   refine qar hn ?_
   rw [List.length_map]
   walk_at "vc"
   refine .inl (.inl (.inl ⟨rfl,rfl,?_⟩))
   walk_at "vc"
   refine qD (fun h=>?_) fun h=>?_
   ·have h14:ss.length=14:=by
     have h:eqV (V.int (ss.length:Nat)) (V.int 14)=true:=by simpa using h
     have:=of_decide_eq_true (show decide ((ss.length:Int)=14)=true by simpa [eqV] using h)
     omega
    walk_at "vc"
    exact ⟨by show 2≤sizeLine;decide,fin (i:=4) (L2.Same.refl H) (by unfold qdR;rw [if_pos hnm,if_neg (show qC (V.str x)∉ss from hx),if_pos h14]) rfl⟩
   have h14:¬ ss.length=14:=fun e=>h (by rw [e];rfl)
   walk_at "vc"
   refine ⟨by show 1≤sizeLine;decide,fun c hc=>?_⟩
   have s1:=qE (L2.Same.refl H) (o:=.lst [V.str x]) hc
   have ec:upd H c (.lst [V.str x]) c=some (.lst [V.str x]):=qc
   generalize upd H c (.lst [V.str x])=H1 at s1 ec ⊢
   refine .inl ⟨n,c,_,_,rfl,rfl,s1 _ _ hn,ec,by rw [List.length_map];exact Nat.le_of_lt (qh (by show ss.length + 1≤1000;omega)),fun e he=>?_⟩
   have s12:=qE (L2.Same.refl H1) (o:=.lst (ss.map V.str++[V.str x])) he
   have ee:upd H1 e (.lst (ss.map V.str++[V.str x])) e=some (.lst ((ss++[x]).map V.str)):=by rw [qc,List.map_append];rfl
   generalize upd H1 e (.lst (ss.map V.str++[V.str x]))=H2 at s12 ee ⊢
   have s2:=s1.trans s12
   walk_at "vc"
   refine ⟨e,_,rfl,.inl ⟨SqL.of ee,fun t1 h1=>?_⟩⟩
   have s23:=qE (L2.Same.refl H2) (o:=.tup ((ss++[x]).map V.str)) h1
   have e1:upd H2 t1 (.tup ((ss++[x]).map V.str)) t1=some (.tup ((ss++[x]).map V.str)):=qc
   generalize upd H2 t1 (.tup ((ss++[x]).map V.str))=H3 at s23 e1 ⊢
   have s3:=s2.trans s23
   walk_at "vc"
   refine ⟨l,_,rfl,.inl ⟨SqL.of (s3 _ _ hl.1),fun t2 h2=>?_⟩⟩
   have s34:=qE (L2.Same.refl H3) (o:=.tup (ts.map V.ref)) h2
   have e2:upd H3 t2 (.tup (ts.map V.ref)) t2=some (.tup (ts.map V.ref)):=qc
   generalize upd H3 t2 (.tup (ts.map V.ref))=H4 at s34 e2 ⊢
   have s4:=s3.trans s34
   walk_at "vc"
   refine ⟨by show 2≤sizeLine;decide,fun t ht=>?_⟩
   have s45:=qE (L2.Same.refl H4) (o:=.tup [.ref t1,.ref t2]) ht
   have er:qdR ss dps (.str x)=.web (ss++[x]) dps:=by unfold qdR;rw [if_pos hnm,if_neg (show qC (V.str x)∉ss from hx),if_neg h14];rfl
   refine q t _ (s4.trans s45) ?_
   rw [er]
   exact ⟨t1,t2,ts,qc,s45 _ _ (s34 _ _ e1),s45 _ _ e2,hl.2.mono fun _ _ z=>s45 _ _ (s4 _ _ z)⟩
  ·have hnm:j8 v=false:=by simpa using hnm
   have er:qdR ss dps v=.no 0 v:=by unfold qdR;rw [if_neg (by rw [hnm];exact Bool.false_ne_true)]
   walk_at "vc"
   refine zy (.inl ty) rfl (qaW K t ht "str" (by simp)) ?_
   walk_at "vc"
   have out:∀ t,H t=none→Q (.ref t) (upd H t (.tup [.str "name",v])):=fin (i:=0) (L2.Same.refl H) er rfl
   refine qD (fun h=>?_) fun h=>?_
   ·obtain ⟨x,rfl,hx⟩:=hs h
    walk_at "vc"
    refine qfz (Nat.le_trans hx (by decide)) ?_
    walk_at "vc"
    rcases hodd x rfl with z | rfl | rfl | rfl
    ·rw [show j8 (V.str x)=true from z] at hnm;cases hnm
    ·rw [if_neg (by decide +kernel)]
     walk_at "vc"
     refine iteF ?_
     walk_at "vc"
     refine qD (fun h=>?_) fun h=>absurd (by decide +kernel) h
     walk_at "vc"
     exact ⟨by show 2≤sizeLine;decide,out⟩
    ·rw [if_pos (by decide +kernel)]
     walk_at "vc"
     rw [if_pos (by decide +kernel)]
     walk_at "vc"
     refine ⟨rfl,_,rfl,rfl,?_⟩
     walk_at "vc"
     rw [show PySem.Txt.isalpha "A"=true by decide +kernel]
     refine qbC ?_
     walk_at "vc"
     refine ⟨rfl,_,rfl,rfl,?_⟩
     rw [show PySem.Txt.islower "A"=false by decide +kernel]
     walk_at "vc"
     refine qbC ?_
     walk_at "vc"
     exact ⟨by show 2≤sizeLine;decide,out⟩
    ·rw [if_pos (by decide +kernel)]
     walk_at "vc"
     rw [if_neg (by decide +kernel)]
     walk_at "vc"
     refine qD (fun h=>?_) fun h=>absurd (by decide +kernel) h
     walk_at "vc"
     exact ⟨by show 2≤sizeLine;decide,out⟩
   ·walk_at "vc"
    refine qbC ?_
    walk_at "vc"
    exact ⟨by show 2≤sizeLine;decide,out⟩
end
abbrev qO:Stmt:=top 36
theorem sc_l_without_due:FnScope ["_law_names_here", "_law_ties_here", "_law_some_here", "_law_thing_here", "_law_left"] ["_law_names_here", "_law_ties_here", "_law_some_here"] (qe qO):=⟨rfl,rfl,rfl,by decide +kernel,rfl,by decide +kernel,by decide +kernel⟩
def qg5:Sp:=fun vs H Q _=>∃ (p n l:Addr) (ss:List Str) (ts:List Addr) (dps:List (Str×Str)) (v:V) (o:Option (List V)),vs=[.ref n,.ref l,v]∧H n=some (.lst (ss.map V.str))∧NOk ss∧PL H l ts dps∧dps.length≤30∧Arg p H v o ∧
 ∀ (t:Addr) (H':Hp),L2.Same H H'→Says H' t (qgd ss dps v o)→Q (.ref t) H'
theorem qcC {ss:List Str}:∀ {xs:List V},qa0 ss xs=none→xs=(xs.map qC).map V.str
 | [],_=>rfl
 | x::r,h=>by
  have h:(if qt ss x=true then qa0 ss r else some x)=none:=h
  split at h
  ·rename_i hp
   obtain ⟨nx,_⟩:=qK hp
   obtain ⟨e,_,_⟩:=qJ nx
   have ih:=qcC h
   rw [List.map_cons,List.map_cons,← ih,← e]
  ·cases h
theorem Arg.sq {K:W.Frag} {p:Addr} {H H':Hp} {v:V} {xs:List V} (h:Arg p H v (some xs)) (s:L2.Same H H'):∃ a,v=.ref a∧(SqL K H' a xs∨SqT K H' a xs):=by
 cases h with
 | lst e ne h l=>exact ⟨_,rfl,.inl (SqL.of (s _ _ e))⟩
 | tup e ne h l=>exact ⟨_,rfl,.inr (SqT.of (s _ _ e))⟩
section
variable {P:Program} {w:World} {K:W.Frag} {mg:Str→Option Value} {base:Heap} {cc:Nat→Addr} {cw:Addr}
theorem ok_wd {f:Addr} {fd:FuncData} (F:Fun K "_law_without_due" "_law_without_due" qO f fd) (T:Txt K mg cc cw) (D_l_in:DefOk P w K mg base CX0 1 "_law_in" ["_law_names_here", "_law_thing_here"] qgD):FnOk P w K mg base CX0 2 f fd ["_law_names_here", "_law_ties_here", "_law_some_here"] qg5:=by
 refine F.ok sc_l_without_due (fun vs H Q E h=>?_) fun cdv A outer s H vs Q E hr h=>?_
 ·obtain ⟨p,n,l,ss,ts,dps,v,o,rfl,_⟩:=h;rfl
 ·obtain ⟨p,n,l,ss,ts,dps,v,o,rfl,hn,hO,hl,h30,ha,q⟩:=h
  have hu:=zR hr
  have few:=hO.few
  have fin:∀ {tg:Str} {y:V} {i:Nat} {H1:Hp},L2.Same H H1→qgd ss dps v o=.no i y→tg=qgc i→∀ t,H1 t=none→Q (.ref t) (upd H1 t (.tup [.str tg,y])):=fun s1 e e2 t ht=>q t _ (qE s1 ht) (by rw [e,e2];exact qc)
  refine ⟨_,(qd (qF (jr (qP (qm (qbS (K:=K) rfl) rfl T.b_isinstance boot_isinstance (qa (pv 2) (qa (qG (qa (jO (v:=.ty "list") rfl T.b_list boot_list rfl) (qa (jO (v:=.ty "tuple") rfl T.b_tuple boot_tuple rfl) qb))) qb))))) (qf (qk (qG (qa jj (qa (pv 2) qb))))) qi)
 (qd (jP PassesOwn.never rfl (jh (K:=K) rfl (pv 2)) (qv (i:=3) sc_l_without_due.nd rfl (Or.inl rfl))
 (qf (qF (jr (qP (qp D_l_in (hm hr) qx (qa (pv 0) (qa (pv 3) qb))))) (qf (qk (qG (qa jj (qa (pv 3) qb))))) qi)))
 (qd (qu (i:=4) sc_l_without_due.nd rfl (Or.inr rfl) (jW (sc:=qe qO) (XN:=["_law_names_here", "_law_ties_here", "_law_some_here", "_law_thing_here", "_law_left"]) ["_law_name", "_law_some_here"] 1 [2] rfl rfl rfl (by decide +kernel) rfl (by decide +kernel)
  (jh (K:=K) rfl (pv 0)) (fun _ _ _ _=>(qv (i:=0) (show (["_law_name", "_law_some_here"]:List Str).Nodup by decide +kernel) rfl (Or.inl rfl))) je
  (fun _ _ _ _=>(jx (qo (qaf (K:=K) rfl hu) (pv 0) (pv 1) (by with_unfolding_all rfl))))
  (fun _ _ _ _=>(pv 0))))
 (qf (qk (qG (qa (qI (jy (K:=K) rfl) rfl T.b_tuple boot_tuple (qa (pv 4) qb)) (qa (qI (jy (K:=K) rfl) rfl T.b_tuple boot_tuple (qa (jW (sc:=qe qO) (XN:=["_law_names_here", "_law_ties_here", "_law_some_here", "_law_thing_here", "_law_left"]) ["_law_tie", "_law_left"] 1 [4] rfl rfl rfl (by decide +kernel) rfl (by decide +kernel)
  (jh (K:=K) rfl (pv 1)) (fun _ _ _ _=>(qv (i:=0) (show (["_law_tie", "_law_left"]:List Str).Nodup by decide +kernel) rfl (Or.inl rfl))) je
  (fun _ _ _ _=>(jx (PW.pt (qby (qo (qax (K:=K) rfl hu) (qA (qB (K:=K) rfl hu) (pv 0) qg (fun _ _=>rfl)) (pv 1) (by with_unfolding_all rfl)) (qaT (qo (qax (K:=K) rfl hu) (qA (qB (K:=K) rfl hu) (pv 0) qg (fun _ _=>rfl)) (pv 1) (by with_unfolding_all rfl)))))))
  (fun _ _ _ _=>(pv 0))) qb)) qb)))))))),?_⟩
  walk_at "vc"
  refine ⟨by show 2≤sizeLine;decide,fun g hg=>?_⟩
  have s0:=qE (L2.Same.refl H) (o:=.tup [.ty "list",.ty "tuple"]) hg
  walk_at "vc"
  refine (ha.same s0).isi qc ?_
  walk_at "vc"
  cases o with
  | none =>
   refine qD (fun _=>?_) (fun h=>absurd rfl h)
   walk_at "vc"
   exact ⟨by show 2≤sizeLine;decide,fin (i:=2) s0 rfl rfl⟩
  | some xs =>
   refine qD (fun h=>by cases h) fun _=>?_
   obtain ⟨fewx,hth⟩:=ha.few
   walk_at "vc"
   refine qbU ha s0 (fun i σ H'=>∃ (x3:Option V),σ=[some (.ref n),some (.ref l),some v,x3,none]∧L2.Same H H'∧qa0 ss xs=qa0 ss (xs.drop i)) ⟨none,rfl,s0,rfl⟩ (fun i σ H' hp=>by obtain ⟨_,_,z,_⟩:=hp;exact z) (fun i y σ H1 hy hp=>?_) fun σ H1 hp=>?_
   ·obtain ⟨x3,rfl,s1,hfr⟩:=hp
    rw [qey hy] at hfr
    have hfr:qa0 ss xs=if qt ss y=true then qa0 ss (xs.drop (i + 1)) else some y:=hfr
    walk_at "vc"
    refine ⟨p,n,2,ss,y,rfl,s1 _ _ hn,hO.nm,(hth y (List.mem_of_getElem? hy)).same s1,?_⟩
    walk_at "vc"
    refine qD (fun h=>?_) fun h=>?_
    ·walk_at "vc"
     have hp:¬ qt ss y=true:=by simpa using h
     rw [if_neg hp] at hfr
     exact ⟨by show 2≤sizeLine;decide,fin (i:=2) s1 (by show (match qa0 ss xs with | some y=>_ | none=>_)=_;rw [hfr]) rfl⟩
    ·have hp:qt ss y=true:=by simpa using h
     rw [if_pos hp] at hfr
     exact ⟨_,rfl,s1,hfr⟩
   ·obtain ⟨x3,rfl,s1,hfr⟩:=hp
    rw [List.drop_length] at hfr
    have hfr:qa0 ss xs=none:=hfr
    have exs:=qcC hfr
    have er:qgd ss dps v (some xs)=.web (ze ss xs) (zf dps (ze ss xs)):=by
     show (match qa0 ss xs with | some y=>_ | none=>_)=_
     rw [hfr]
    obtain ⟨av,ev,hsq⟩:=ha.sq (K:=K) s1
    subst ev
    have eks:ze ss xs=ss.filter fun s=>!decide (s∈xs.map qC):=rfl
    walk_at "vc"
    refine .inl ⟨⟨_,SqL.of (s1 _ _ hn)⟩,qY (K:=K) (fun i ys H'=>H'=H1∧ys=((ss.take i).filter fun s=>!decide (s∈xs.map qC)).map V.str) ⟨rfl,by simp⟩ (fun i ys H' _ hp=>by rw [hp.1];exact SqL.of (s1 _ _ hn)) (fun i y ys H' hy hp=>?_) fun ys H' hp=>?_⟩
    ·obtain ⟨rfl,rfl⟩:=hp
     obtain ⟨sy,gi,rfl⟩:=jY hy
     have hi:i < ss.length:=(List.getElem?_eq_some_iff.mp gi).1
     have htk:ss.take (i + 1)=ss.take i++[sy]:=by rw [List.take_add_one,gi];rfl
     have hfl:xs.all zt=true:=by rw [exs];exact jl _
     have hin:inV (.str sy) xs=decide (sy∈xs.map qC):=by
      have:=zc sy (xs.map qC)
      rw [← exs] at this
      exact this
     walk_at "vc"
     refine .inl ⟨av,_,rfl,hsq,rfl,hfl,?_⟩
     rw [hin]
     walk_at "vc"
     refine qD (fun hb=>?_) fun hb=>?_
     ·walk_at "vc"
      have hb':sy∉xs.map qC:=by simpa using hb
      refine ⟨by rw [List.length_map];exact qh (Nat.le_trans (List.length_filter_le _ _) (by rw [List.length_take];omega)),rfl,?_⟩
      have ef:([sy].filter fun s=>!decide (s∈xs.map qC))=[sy]:=by rw [List.filter_cons_of_pos (by rw [decide_eq_false hb'];rfl)];rfl
      rw [htk,List.filter_append,List.map_append,ef]
      rfl
     ·have hb':sy∈xs.map qC:=by simpa using hb
      refine ⟨rfl,?_⟩
      have ef:([sy].filter fun s=>!decide (s∈xs.map qC))=[]:=by rw [List.filter_cons_of_neg (by rw [decide_eq_true hb'];decide)];rfl
      rw [htk,List.filter_append,List.map_append,ef]
      simp
    ·obtain ⟨rfl,rfl⟩:=hp
     have etk:ss.take (ss.map V.str).length=ss:=by rw [List.length_map,List.take_length]
     rw [etk,← eks]
     rw [er] at q
     have hks:(ze ss xs).length≤14:=Nat.le_trans (List.length_filter_le _ _) few
     clear eks er
     generalize ze ss xs=ks at q hks ⊢
     refine ⟨by rw [List.length_map];exact Nat.le_of_lt (qh (by omega)),fun c hc=>?_⟩
     have s12:=qE (L2.Same.refl H') (o:=.lst (ks.map V.str)) hc
     have s2:=s1.trans s12
     have ec:upd H' c (.lst (ks.map V.str)) c=some (.lst (ks.map V.str)):=qc
     generalize upd H' c (.lst (ks.map V.str))=H2 at s12 s2 ec ⊢
     walk_at "vc"
     refine ⟨c,_,rfl,.inl ⟨SqL.of ec,fun t1 h1=>?_⟩⟩
     have s23:=qE (L2.Same.refl H2) (o:=.tup (ks.map V.str)) h1
     have e1:upd H2 t1 (.tup (ks.map V.str)) t1=some (.tup (ks.map V.str)):=qc
     generalize upd H2 t1 (.tup (ks.map V.str))=H3 at s23 e1 ⊢
     have s3:=s2.trans s23
     have ec3:=s23 _ _ ec
     have hl3:=hl.same s3
     have hdl:=hl3.2.len
     walk_at "vc"
     refine .inl ⟨⟨_,SqL.of hl3.1⟩,qY (K:=K) (fun i ys H'=>H'=H3∧∃ us:List Addr,ys=us.map V.ref∧us.length≤i∧All2 (fun t ab=>H3 t=some (.tup [.str ab.1,.str ab.2])) us (zf (dps.take i) ks)) ⟨rfl,[],rfl,Nat.le_refl _,All2.nil⟩ (fun i ys H' _ hp=>by rw [hp.1];exact SqL.of hl3.1) (fun i y ys H' hy hp=>?_) fun ys H' hp=>?_⟩
     ·obtain ⟨rfl,us,rfl,hul,hus⟩:=hp
      rw [List.getElem?_map] at hy
      cases hx':ts[i]? with
      | none=>rw [hx'] at hy;cases hy
      | some t =>
       rw [hx'] at hy
       cases hy
       have hi:i < dps.length:=by rw [← hdl];exact (List.getElem?_eq_some_iff.mp hx').1
       have gi:dps[i]?=some dps[i]:=List.getElem?_eq_getElem hi
       have et:=hl3.2.at_ i t dps[i] hx' gi
       generalize dps[i]=ab at gi et
       have htk:dps.take (i + 1)=dps.take i++[ab]:=by rw [List.take_add_one,gi];rfl
       have ekt:zf (dps.take (i + 1)) ks=zf (dps.take i) ks++(if decide (ab.1∈ks)&&decide (ab.2∈ks) then [ab] else []):=by
        unfold zf
        rw [htk,List.filter_append]
        congr 1
        rw [List.filter_cons]
        rfl
       rw [ekt]
       walk_at "vc"
       refine .inl (qaR et rfl ?_)
       walk_at "vc"
       refine .inl ⟨c,_,rfl,.inl (SqL.of ec3),rfl,jl ks,?_⟩
       rw [zc]
       walk_at "vc"
       refine qD (fun hb=>?_) fun hb=>?_
       ·have hb1:ab.1∈ks:=by simpa using hb
        walk_at "vc"
        refine .inl (qaR et rfl ?_)
        walk_at "vc"
        refine .inl ⟨c,_,rfl,.inl (SqL.of ec3),rfl,jl ks,?_⟩
        rw [zc]
        walk_at "vc"
        refine qD (fun hb=>?_) fun hb=>?_
        ·have hb2:ab.2∈ks:=by simpa using hb
         walk_at "vc"
         refine ⟨by rw [List.length_map];exact qh (by omega),rfl,us++[t],by rw [List.map_append];rfl,by rw [List.length_append];show us.length + 1≤_;omega,?_⟩
         rw [if_pos (by simp [hb1,hb2])]
         exact hus.snoc et
        ·have hb2:ab.2∉ks:=by simpa using hb
         refine ⟨rfl,us,rfl,by omega,?_⟩
         rw [if_neg (by simp [hb2]),List.append_nil]
         exact hus
       ·have hb1:ab.1∉ks:=by simpa using hb
        refine qD (fun h=>by cases h) fun _=>?_
        refine ⟨rfl,us,rfl,by omega,?_⟩
        rw [if_neg (by simp [hb1]),List.append_nil]
        exact hus
     ·obtain ⟨rfl,us,rfl,hul,hus⟩:=hp
      have etk:dps.take (ts.map V.ref).length=dps:=by rw [List.length_map,hdl,List.take_length]
      rw [etk] at hus
      rw [List.length_map] at hul
      refine ⟨by rw [List.length_map];exact Nat.le_of_lt (qh (by omega)),fun e he=>?_⟩
      have s34:=qE (L2.Same.refl H') (o:=.lst (us.map V.ref)) he
      have ee:upd H' e (.lst (us.map V.ref)) e=some (.lst (us.map V.ref)):=qc
      generalize upd H' e (.lst (us.map V.ref))=H4 at s34 ee ⊢
      walk_at "vc"
      refine ⟨e,_,rfl,.inl ⟨SqL.of ee,fun t2 h2=>?_⟩⟩
      have s45:=qE (L2.Same.refl H4) (o:=.tup (us.map V.ref)) h2
      have e2:upd H4 t2 (.tup (us.map V.ref)) t2=some (.tup (us.map V.ref)):=qc
      generalize upd H4 t2 (.tup (us.map V.ref))=H5 at s45 e2 ⊢
      have s35:=s34.trans s45
      walk_at "vc"
      refine ⟨by show 2≤sizeLine;decide,fun t ht=>?_⟩
      have s56:=qE (L2.Same.refl H5) (o:=.tup [.ref t1,.ref t2]) ht
      refine q t _ (s3.trans (s35.trans s56)) ?_
      exact ⟨t1,t2,us,qc,s56 _ _ (s35 _ _ e1),s56 _ _ e2,hus.mono fun _ _ z=>s56 _ _ (s35 _ _ z)⟩
end
theorem qbs {X:Cx} {st:List Stmt} {t:TS} (t':TS) (h:PSs X st t) (k:∀ D σ H,t' D σ H→t D σ H):PSs X st t':=fun pins s σ H D I q=>h pins s σ H D I (k D σ H q)
abbrev jG:Stmt:=top 37
theorem sc_l_tie_due:FnScope ["_law_names_here", "_law_ties_here", "_law_way", "_law_pair", "_law_thing_here", "_law_there"] ["_law_names_here", "_law_ties_here", "_law_way", "_law_pair"] (qe jG):=⟨rfl,rfl,rfl,by decide +kernel,rfl,by decide +kernel,by decide +kernel⟩
def qg6:Sp:=fun vs H Q _=>∃ (p n l th:Addr) (k:Nat) (way:Int) (ss:List Str) (ts:List Addr) (dps:List (Str×Str)) (v u:V),vs=[.ref n,.ref l,.int way,.ref th]∧H n=some (.lst (ss.map V.str))∧NOk ss∧PL H l ts dps∧TOk ss dps∧H th=some (.tup [v,u])∧Th p H k v∧Th p H k u ∧
 ((way=2∧∀ (t:Addr) (H':Hp),L2.Same H H'→Says H' t (qeJ ss dps v u)→Q (.ref t) H')∨(way=3∧∀ (t:Addr) (H':Hp),L2.Same H H'→Says H' t (qeK ss dps v u)→Q (.ref t) H'))
theorem TOk.irr {ss:List Str} {dps:List (Str×Str)} (hn:ss.Nodup) (h:TOk ss dps) (a:Str):jv dps a a=false:=by
 refine decide_eq_false fun z=>?_
 obtain ⟨j,k,hjk,g1,g2⟩:=h.ok _ (z.elim id id)
 have:=qz hn g1 g2
 omega
section
variable {P:Program} {w:World} {K:W.Frag} {mg:Str→Option Value} {base:Heap} {cc:Nat→Addr} {cw:Addr}
theorem ok_td {f:Addr} {fd:FuncData} (F:Fun K "_law_tie_due" "_law_tie_due" jG f fd) (T:Txt K mg cc cw) (D_l_in:DefOk P w K mg base CX0 1 "_law_in" ["_law_names_here", "_law_thing_here"] qgD) (D_l_rising:DefOk P w K mg base CX0 1 "_law_rising" ["_law_names_here", "_law_ties_here"] qfF):FnOk P w K mg base CX0 2 f fd ["_law_names_here", "_law_ties_here", "_law_way", "_law_pair"] qg6:=by
 refine F.ok sc_l_tie_due (fun vs H Q E h=>?_) fun cdv A outer s H vs Q E hr h=>?_
 ·obtain ⟨p,n,l,th,k,way,ss,ts,dps,v,u,rfl,_⟩:=h;rfl
 ·obtain ⟨p,n,l,th,k,way,ss,ts,dps,v,u,rfl,hn,hO,hl,hT,hth,hv,hu',q⟩:=h
  have hu:=zR hr
  have few:=hO.few
  have h30:=hT.few
  have hdl:=hl.2.len
  obtain ⟨TC2,hTC2⟩:∃ t:TS,t=fun D σ H'=>(∀ u H',Q u H'→D.rt u H')∧∃ x4 a b,σ=[some (.ref n),some (.ref l),some (.int way),some (.ref th),x4,some (.bl (jv dps a b))]∧L2.Same H H'∧v=.str a∧u=.str b∧qt ss v=true∧qt ss u=true:=⟨_,rfl⟩
  obtain ⟨TC6,hTC6⟩:∃ t:TS,t=fun D σ H'=>(∀ u H',Q u H'→D.rt u H')∧∃ th' x4 x5 c,σ=[some (.ref n),some (.ref l),some (.int way),some (.ref th'),x4,x5]∧L2.Same H H'∧H' th'=some (.tup [.str c.1,.str c.2])∧∀ (t:Addr) (H2:Hp),L2.Same H' H2→Says H2 t (.web ss (jd ss (dps++[c]) ss))→Q (.ref t) H2:=⟨_,rfl⟩
  refine ⟨_,(qd (jP PassesOwn.never rfl (jh (K:=K) rfl (pv 3)) (qv (i:=4) sc_l_tie_due.nd rfl (Or.inl rfl))
 (qf (qF (jr (qP (qp D_l_in (hm hr) qx (qa (pv 0) (qa (pv 4) qb))))) (qf (qk (qG (qa jj (qa (pv 4) qb))))) qi)))
 (qd (qu (i:=5) sc_l_tie_due.nd rfl (Or.inl rfl) (pe_or (jV (qax (K:=K) rfl hu) (pv 3) (pv 1) (by with_unfolding_all rfl)) (qba (jV (qax (K:=K) rfl hu) (qdi (K:=K) rfl (pv 3) (jF (qdH qbA qg))) (pv 1) (by with_unfolding_all rfl)))))
 (qbs TC2 (qd (qF (PW.pt (qbv (qo (zn (K:=K) rfl hu) (qA (qB (K:=K) rfl hu) (pv 3) qg (fun _ _=>rfl)) (qA (qB (K:=K) rfl hu) (pv 3) qg (fun _ _=>rfl)) (qy _)) (qaB (qo (zZ (K:=K) rfl hu) (pv 5) (jV (zn (K:=K) rfl hu) (pv 2) qg (qy _)) (qy _))))) (qf (qk (qG (qa jj (qa (pv 3) qb))))) qi)
 (qd (qF (qo (zn (K:=K) rfl hu) (pv 2) qg (qy _)) (qf (qk (qG (qa (qI (jy (K:=K) rfl) rfl T.b_tuple boot_tuple (qa (pv 0) qb)) (qa (qI (jy (K:=K) rfl) rfl T.b_tuple boot_tuple (qa (jW (sc:=qe jG) (XN:=["_law_names_here", "_law_ties_here", "_law_way", "_law_pair", "_law_thing_here", "_law_there"]) ["_law_tie", "_law_pair"] 1 [3] rfl rfl rfl (by decide +kernel) rfl (by decide +kernel)
  (jh (K:=K) rfl (pv 1)) (fun _ _ _ _=>(qv (i:=0) (show (["_law_tie", "_law_pair"]:List Str).Nodup by decide +kernel) rfl (Or.inl rfl))) je
  (fun _ _ _ _=>(jx (qo (qaf (K:=K) rfl hu) (pv 0) (qQ (qa (pv 1) (qa (qdi (K:=K) rfl (pv 1) (jF (qdH qbA qg))) qb))) (by with_unfolding_all rfl))))
  (fun _ _ _ _=>(pv 0))) qb)) qb))))) qi)
 (qd (qF (qo (zn (K:=K) rfl hu) (qm (j7 (K:=K) rfl) rfl T.b_len boot_len (qa (pv 1) qb)) qg (qy _)) (qf (qk (qG (qa jj (qa qg qb))))) qi)
 (qd (qF (qo qeN (qdQ (K:=K) rfl PySem.F.plainAttrs_list PySem.F.slot_list_index PySem.F.type_list_index (qcR (K:=K) rfl) (pv 0) (qa (qA (qB (K:=K) rfl hu) (pv 3) qg (fun _ _=>rfl)) qb)) (qdQ (K:=K) rfl PySem.F.plainAttrs_list PySem.F.slot_list_index PySem.F.type_list_index (qcR (K:=K) rfl) (pv 0) (qa (qA (qB (K:=K) rfl hu) (pv 3) qg (fun _ _=>rfl)) qb)) (qy _)) (qf (qu (i:=3) sc_l_tie_due.nd rfl (Or.inr rfl) (qdi (K:=K) rfl (pv 3) (jF (qdH qbA qg))))) qi)
 (qbs TC6 (qf (qk (qG (qa (qI (jy (K:=K) rfl) rfl T.b_tuple boot_tuple (qa (pv 0) qb)) (qa (qI (jy (K:=K) rfl) rfl T.b_tuple boot_tuple (qa (qp D_l_rising (hm hr) qx (qa (pv 0) (qa (qL (zu (K:=K) rfl) (pv 1) (qQ (qa (pv 3) qb))) qb))) qb)) qb))))) ?cut6))))) ?cut2))),?_⟩
  case cut6 =>
   intro D σ H1 h
   rw [hTC6] at h
   obtain ⟨hD,th',x4,x5,c,rfl,s1,hth',q⟩:=h
   walk_at "vc"
   refine ⟨n,_,rfl,.inl ⟨SqL.of (s1 _ _ hn),fun t1 h1=>?_⟩⟩
   have s12:=qE (L2.Same.refl H1) (o:=.tup (ss.map V.str)) h1
   have e1:upd H1 t1 (.tup (ss.map V.str)) t1=some (.tup (ss.map V.str)):=qc
   generalize upd H1 t1 (.tup (ss.map V.str))=H2 at s12 e1 ⊢
   walk_at "vc"
   refine ⟨by show 1≤sizeLine;decide,fun d hd=>?_⟩
   have s23:=qE (L2.Same.refl H2) (o:=.lst [V.ref th']) hd
   have ed:upd H2 d (.lst [V.ref th']) d=some (.lst [V.ref th']):=qc
   generalize upd H2 d (.lst [V.ref th'])=H3 at s23 ed ⊢
   have s13:=s12.trans s23
   have hl3:=hl.same (s1.trans s13)
   refine .inl ⟨l,d,_,_,rfl,rfl,hl3.1,ed,by rw [List.length_map];exact Nat.le_of_lt (qh (by show ts.length + 1≤1000;omega)),fun e he=>?_⟩
   have s34:=qE (L2.Same.refl H3) (o:=.lst (ts.map V.ref++[V.ref th'])) he
   have ee:upd H3 e (.lst (ts.map V.ref++[V.ref th'])) e=some (.lst ((ts++[th']).map V.ref)):=by rw [qc,List.map_append];rfl
   generalize upd H3 e (.lst (ts.map V.ref++[V.ref th']))=H4 at s34 ee ⊢
   have s14:=s13.trans s34
   have hl4:PL H4 e (ts++[th']) (dps++[c]):=⟨ee,(hl3.same s34).2.snoc (s14 _ _ hth')⟩
   walk_at "vc"
   refine ⟨n,e,ss,_,_,rfl,(s1.trans s14) _ _ hn,few,hl4,fun r us H5 s45 hr0 hr' h196 hus=>?_⟩
   walk_at "vc"
   refine ⟨r,_,rfl,.inl ⟨SqL.of hr',fun t2 h2=>?_⟩⟩
   have s56:=qE (L2.Same.refl H5) (o:=.tup (us.map V.ref)) h2
   have e2:upd H5 t2 (.tup (us.map V.ref)) t2=some (.tup (us.map V.ref)):=qc
   generalize upd H5 t2 (.tup (us.map V.ref))=H6 at s56 e2 ⊢
   walk_at "vc"
   refine ⟨by show 2≤sizeLine;decide,fun t ht=>?_⟩
   have s67:=qE (L2.Same.refl H6) (o:=.tup [.ref t1,.ref t2]) ht
   have s26:=s23.trans (s34.trans (s45.trans s56))
   exact hD _ _ (q t _ (s12.trans (s26.trans s67)) ⟨t1,t2,us,qc,s67 _ _ (s26 _ _ e1),s67 _ _ e2,hus.mono fun _ _ z=>s67 _ _ (s56 _ _ z.2.2)⟩)
  case cut2 =>
   intro D σ H1 h
   rw [hTC2] at h
   obtain ⟨hD,x4,a,b,rfl,s1,rfl,rfl,hp,hp2⟩:=h
   obtain ⟨na,ia⟩:=qK hp
   obtain ⟨nb,ib⟩:=qK hp2
   have ia:a∈ss:=ia
   have ib:b∈ss:=ib
   have hth1:=s1 _ _ hth
   have fin:∀ {H2:Hp},L2.Same H H2→∀ t,H2 t=none→L2.Same H (upd H2 t (.tup [.str "tie",.ref th]))∧Says (upd H2 t (.tup [.str "tie",.ref th])) t (.tie (.str a) (.str b)):=fun s2 t ht=>⟨qE s2 ht,th,qc,qE s2 ht _ _ hth⟩
   have eab:(if false=true then !eqV (V.str a) (V.str b) else eqV (V.str a) (V.str b))=decide (a=b):=by
    rw [if_neg Bool.false_ne_true,qbT]
   rcases q with ⟨rfl,q⟩ | ⟨rfl,q⟩
   ·unfold qeJ at q
    rw [if_pos hp,if_pos hp2] at q
    have q:∀ (t:Addr) (H':Hp),L2.Same H H'→Says H' t (if (jv dps a b||decide (a=b))=true then .tie (.str a) (.str b) else if dps.length=30 then .no 4 (.int 31) else .web ss (qeB ss dps a b))→Q (.ref t) H':=q
    walk_at "vc"
    refine .inl (qaR hth1 rfl ?_)
    walk_at "vc"
    refine .inl (qaR hth1 rfl ?_)
    walk_at "vc"
    refine .inl (.inl (.inl ⟨rfl,rfl,?_⟩))
    rw [eab]
    walk_at "vc"
    refine qD (fun h=>?_) fun h=>?_
    ·walk_at "vc"
     refine qbC ?_
     walk_at "vc"
     refine ⟨by show 2≤sizeLine;decide,fun t ht=>hD _ _ ?_⟩
     have:=fin s1 t ht
     rw [if_pos (by rw [h,Bool.or_true])] at q
     exact q t _ this.1 this.2
    have hab:a≠b:=fun e=>h (decide_eq_true e)
    walk_at "vc"
    refine .inl (.inl (.inl ⟨rfl,rfl,?_⟩))
    walk_at "vc"
    refine .inl ⟨rfl,rfl,?_⟩
    walk_at "vc"
    cases hth':jv dps a b with
    | true =>
     refine qD (fun h=>?_) fun h=>absurd (by decide) h
     walk_at "vc"
     refine ⟨by show 2≤sizeLine;decide,fun t ht=>hD _ _ ?_⟩
     have:=fin s1 t ht
     rw [if_pos (by rw [hth'];rfl)] at q
     exact q t _ this.1 this.2
    | false =>
     refine qD (fun h=>absurd h (by decide)) fun _=>?_
     rw [if_neg (by rw [hth',decide_eq_false hab];decide)] at q
     walk_at "vc"
     refine .inl (.inl (.inl ⟨rfl,rfl,?_⟩))
     walk_at "vc"
     refine qD (fun h=>absurd h (by decide)) fun _=>?_
     walk_at "vc"
     refine qar (s1 _ _ hl.1) ?_
     rw [List.length_map]
     walk_at "vc"
     refine .inl (.inl (.inl ⟨rfl,rfl,?_⟩))
     walk_at "vc"
     refine qD (fun h=>?_) fun h=>?_
     ·have h30':dps.length=30:=by
       have h:eqV (V.int (ts.length:Nat)) (V.int 30)=true:=by simpa using h
       have:=of_decide_eq_true (show decide ((ts.length:Int)=30)=true by simpa [eqV] using h)
       omega
      walk_at "vc"
      rw [if_pos h30'] at q
      exact ⟨by show 2≤sizeLine;decide,fun t ht=>hD _ _ (q t _ (qE s1 ht) qc)⟩
     have h30':¬ dps.length=30:=fun e=>h (by rw [hdl,e];rfl)
     rw [if_neg h30'] at q
     walk_at "vc"
     have hN1:=s1 _ _ hn
     refine ⟨.inl ⟨rfl,_,SqL.of hN1⟩,?_⟩
     walk_at "vc"
     refine .inl (qaR hth1 rfl ?_)
     walk_at "vc"
     refine ⟨n,ss,a,rfl,rfl,SqL.of hN1,ia,?_⟩
     walk_at "vc"
     refine ⟨.inl ⟨rfl,_,SqL.of hN1⟩,?_⟩
     walk_at "vc"
     refine .inl (qaR hth1 rfl ?_)
     walk_at "vc"
     refine ⟨n,ss,b,rfl,rfl,SqL.of hN1,ib,?_⟩
     walk_at "vc"
     have hi:ss.idxOf a≠ss.idxOf b:=fun e=>by
      have g1:=zw ia
      have g2:=zw ib
      rw [e,g2] at g1
      exact hab (Option.some.inj g1).symm
     refine qD (fun h=>?_) fun h=>?_
     ·have hlt:ss.idxOf b < ss.idxOf a:=by
       have:=of_decide_eq_true h
       omega
      have eup:upT ss a b=(b,a):=by unfold upT;rw [if_neg (by omega)]
      walk_at "vc"
      refine vU ?_
      walk_at "vc"
      refine ⟨rfl,th,_,_,rfl,SqT.of hth1,fun t2 h2=>?_⟩
      have s12:=qE (L2.Same.refl H1) (o:=.tup [.str b,.str a]) h2
      have e2:upd H1 t2 (.tup [.str b,.str a]) t2=some (.tup [.str b,.str a]):=qc
      generalize upd H1 t2 (.tup [.str b,.str a])=H2 at s12 e2 ⊢
      walk_at "vc"
      rw [hTC6]
      refine ⟨hD,t2,_,_,(b,a),rfl,s1.trans s12,e2,fun t H3 s3 hs=>q t H3 ((s1.trans s12).trans s3) ?_⟩
      unfold qeB
      rw [eup]
      exact hs
     ·have eup:upT ss a b=(a,b):=by
       unfold upT
       rw [if_pos]
       have:¬ ((ss.idxOf b:Int) < (ss.idxOf a:Int)):=fun z=>h (decide_eq_true z)
       omega
      walk_at "vc"
      rw [hTC6]
      refine ⟨hD,th,_,_,(a,b),rfl,s1,hth1,fun t H3 s3 hs=>q t H3 (s1.trans s3) ?_⟩
      unfold qeB
      rw [eup]
      exact hs
   ·unfold qeK at q
    rw [if_pos hp,if_pos hp2] at q
    have q:∀ (t:Addr) (H':Hp),L2.Same H H'→Says H' t (if jv dps a b=true then .web ss (qaP dps a b) else .tie (.str a) (.str b))→Q (.ref t) H':=q
    walk_at "vc"
    refine .inl (qaR hth1 rfl ?_)
    walk_at "vc"
    refine .inl (qaR hth1 rfl ?_)
    walk_at "vc"
    refine .inl (.inl (.inl ⟨rfl,rfl,?_⟩))
    rw [eab]
    walk_at "vc"
    refine qD (fun h=>?_) fun h=>?_
    ·walk_at "vc"
     refine qbC ?_
     walk_at "vc"
     refine ⟨by show 2≤sizeLine;decide,fun t ht=>hD _ _ ?_⟩
     have:=fin s1 t ht
     have e:a=b:=of_decide_eq_true h
     rw [if_neg (by rw [← e,hT.irr hO.nd];exact Bool.false_ne_true)] at q
     exact q t _ this.1 this.2
    have hab:a≠b:=fun e=>h (decide_eq_true e)
    walk_at "vc"
    refine .inl (.inl (.inl ⟨rfl,rfl,?_⟩))
    walk_at "vc"
    refine .inl ⟨rfl,rfl,?_⟩
    walk_at "vc"
    cases hth':jv dps a b with
    | false =>
     refine qD (fun h=>?_) fun h=>absurd (by decide) h
     walk_at "vc"
     refine ⟨by show 2≤sizeLine;decide,fun t ht=>hD _ _ ?_⟩
     have:=fin s1 t ht
     rw [if_neg (by rw [hth'];exact Bool.false_ne_true)] at q
     exact q t _ this.1 this.2
    | true =>
     refine qD (fun h=>absurd h (by decide)) fun _=>?_
     rw [if_pos hth'] at q
     walk_at "vc"
     refine .inl (.inl (.inl ⟨rfl,rfl,?_⟩))
     walk_at "vc"
     refine qD (fun _=>?_) fun h=>absurd (by decide) h
     walk_at "vc"
     refine ⟨n,_,rfl,.inl ⟨SqL.of (s1 _ _ hn),fun t1 h1=>?_⟩⟩
     have s12:=qE (L2.Same.refl H1) (o:=.tup (ss.map V.str)) h1
     have e1:upd H1 t1 (.tup (ss.map V.str)) t1=some (.tup (ss.map V.str)):=qc
     generalize upd H1 t1 (.tup (ss.map V.str))=H2 at s12 e1 ⊢
     have s2:=s1.trans s12
     have hl2:=hl.same s2
     have hth2:=s2 _ _ hth
     walk_at "vc"
     refine .inl ⟨⟨_,SqL.of hl2.1⟩,qY (K:=K) (fun i ys H'=>L2.Same H2 H'∧∃ us:List Addr,ys=us.map V.ref∧us.length≤i∧All2 (fun t ab=>H2 t=some (.tup [.str ab.1,.str ab.2])) us (qaP (dps.take i) a b)) ⟨L2.Same.refl H2,[],rfl,Nat.le_refl _,All2.nil⟩ (fun i ys H' _ hp=>SqL.of (hp.1 _ _ hl2.1)) (fun i y ys H' hy hp=>?_) fun ys H' hp=>?_⟩
     ·obtain ⟨s3,us,rfl,hul,hus⟩:=hp
      rw [List.getElem?_map] at hy
      cases hx':ts[i]? with
      | none=>rw [hx'] at hy;cases hy
      | some t =>
       rw [hx'] at hy
       cases hy
       have hi:i < dps.length:=by rw [← hdl];exact (List.getElem?_eq_some_iff.mp hx').1
       have gi:dps[i]?=some dps[i]:=List.getElem?_eq_getElem hi
       have et:=hl2.2.at_ i t dps[i] hx' gi
       generalize dps[i]=ab at gi et
       have htk:dps.take (i + 1)=dps.take i++[ab]:=by rw [List.take_add_one,gi];rfl
       have ekt:qaP (dps.take (i + 1)) a b=qaP (dps.take i) a b++(if (!(decide (ab=(a,b))||decide (ab=(b,a))))=true then [ab] else []):=by
        unfold qaP
        rw [htk,List.filter_append]
        congr 1
        rw [List.filter_cons]
        rfl
       rw [ekt]
       have hth':=s3 _ _ hth2
       walk_at "vc"
       refine vU ?_
       walk_at "vc"
       refine ⟨rfl,th,_,_,rfl,SqT.of hth',fun t2 h2=>?_⟩
       have hne:¬ (V.ref t2=V.ref th):=fun z=>by
        have z:=V.ref.inj z
        rw [z,hth'] at h2
        cases h2
       have s34:=qE (L2.Same.refl H') (o:=.tup [.str b,.str a]) h2
       have e2:upd H' t2 (.tup [.str b,.str a]) t2=some (.tup [.str b,.str a]):=qc
       generalize upd H' t2 (.tup [.str b,.str a])=H4 at s34 e2 ⊢
       walk_at "vc"
       refine ⟨by show 2≤sizeLine;decide,fun c hc=>?_⟩
       have s45:=qE (L2.Same.refl H4) (o:=.lst [V.ref th,V.ref t2]) hc
       have ec:upd H4 c (.lst [V.ref th,V.ref t2]) c=some (.lst [V.ref th,V.ref t2]):=qc
       replace e2:=s45 _ _ e2
       generalize upd H4 c (.lst [V.ref th,V.ref t2])=H5 at s45 e2 ec ⊢
       have s5:=s3.trans (s34.trans s45)
       have et5:=s5 _ _ et
       refine .inr (.inr ⟨c,_,(fun z=>if z=.ref th then decide ((a,b)=ab) else decide ((b,a)=ab)),1,rfl,SqL.of ec,by decide,fun z hz=>?_,?_⟩)
       ·simp only [List.mem_cons,List.not_mem_nil,or_false] at hz
        rcases hz with rfl | rfl
        ·dsimp only
         rw [if_pos rfl]
         exact zN (s5 _ _ hth2) et5
        ·dsimp only
         rw [if_neg hne]
         exact zN e2 et5
       ·have hb:(if true=true then !([V.ref th,V.ref t2].any fun z=>if z=.ref th then decide ((a,b)=ab) else decide ((b,a)=ab)) else ([V.ref th,V.ref t2].any fun z=>if z=.ref th then decide ((a,b)=ab) else decide ((b,a)=ab)))=!(decide (ab=(a,b))||decide (ab=(b,a))):=by
         rw [if_pos rfl,List.any_cons,List.any_cons,List.any_nil,if_pos rfl,if_neg hne,Bool.or_false]
         congr 1
         rw [show decide ((a,b)=ab)=decide (ab=(a,b)) from decide_eq_decide.mpr eq_comm,show decide ((b,a)=ab)=decide (ab=(b,a)) from decide_eq_decide.mpr eq_comm]
        rw [hb]
        walk_at "vc"
        refine qD (fun hb'=>?_) fun hb'=>?_
        ·walk_at "vc"
         rw [if_pos hb']
         exact ⟨by rw [List.length_map];exact qh (by omega),s5,us++[t],by rw [List.map_append];rfl,by rw [List.length_append];show us.length + 1≤_;omega,hus.snoc et⟩
        ·rw [if_neg hb',List.append_nil]
         exact ⟨s5,us,rfl,by omega,hus⟩
     ·obtain ⟨s3,us,rfl,hul,hus⟩:=hp
      have etk:dps.take (ts.map V.ref).length=dps:=by rw [List.length_map,hdl,List.take_length]
      rw [etk] at hus
      rw [List.length_map] at hul
      refine ⟨by rw [List.length_map];exact Nat.le_of_lt (qh (by omega)),fun e he=>?_⟩
      have s34:=qE (L2.Same.refl H') (o:=.lst (us.map V.ref)) he
      have ee:upd H' e (.lst (us.map V.ref)) e=some (.lst (us.map V.ref)):=qc
      generalize upd H' e (.lst (us.map V.ref))=H4 at s34 ee ⊢
      walk_at "vc"
      refine ⟨e,_,rfl,.inl ⟨SqL.of ee,fun t2 h2=>?_⟩⟩
      have s45:=qE (L2.Same.refl H4) (o:=.tup (us.map V.ref)) h2
      have e2:upd H4 t2 (.tup (us.map V.ref)) t2=some (.tup (us.map V.ref)):=qc
      generalize upd H4 t2 (.tup (us.map V.ref))=H5 at s45 e2 ⊢
      have s25:=s3.trans (s34.trans s45)
      walk_at "vc"
      refine ⟨by show 2≤sizeLine;decide,fun t ht=>hD _ _ ?_⟩
      have s56:=qE (L2.Same.refl H5) (o:=.tup [.ref t1,.ref t2]) ht
      refine q t _ (s2.trans (s25.trans s56)) ?_
      exact ⟨t1,t2,us,qc,s56 _ _ (s25 _ _ e1),s56 _ _ e2,hus.mono fun _ _ z=>s56 _ _ (s25 _ _ z)⟩
  have no:∀ {H2:Hp} {y:V},L2.Same H H2→(qt ss v=false∧y=v∨qt ss v=true∧qt ss u=false∧y=u)→∀ t,H2 t=none→Q (.ref t) (upd H2 t (.tup [.str "place",y])):=fun {H2 y} s2 hy t ht=>by
   have e2:qeJ ss dps v u=.no 2 y∧qeK ss dps v u=.no 2 y:=by
    unfold qeJ qeK
    rcases hy with ⟨h1,rfl⟩ | ⟨h1,h2,rfl⟩
    ·rw [if_neg (by rw [h1];exact Bool.false_ne_true),if_neg (by rw [h1];exact Bool.false_ne_true)]
     exact ⟨rfl,rfl⟩
    ·rw [if_pos h1,if_pos h1,if_neg (by rw [h2];exact Bool.false_ne_true),if_neg (by rw [h2];exact Bool.false_ne_true)]
     exact ⟨rfl,rfl⟩
   rcases q with ⟨_,q⟩ | ⟨_,q⟩
   ·exact q t _ (qE s2 ht) (by rw [e2.1];exact qc)
   ·exact q t _ (qE s2 ht) (by rw [e2.2];exact qc)
  walk_at "vc"
  refine .inr ⟨⟨_,SqT.of hth⟩,qdT (K:=K) (fun i σ H'=>H'=H∧(∃ x4,σ=[some (.ref n),some (.ref l),some (.int way),some (.ref th),x4,none])∧(1≤i→qt ss v=true)∧(2≤i→qt ss u=true)) ⟨rfl,⟨none,rfl⟩,fun h=>by omega,fun h=>by omega⟩ (fun i σ H' _ hp=>by rw [hp.1];exact SqT.of hth) (fun i y σ H1 hy hp=>?_) fun σ H1 hp=>?_⟩
  ·obtain ⟨rfl,⟨x4,rfl⟩,h1,h2⟩:=hp
   have hyt:Th p H1 k y:=by
    have:=List.mem_of_getElem? hy
    simp only [List.mem_cons,List.not_mem_nil,or_false] at this
    rcases this with rfl | rfl
    ·exact hv
    ·exact hu'
   walk_at "vc"
   refine ⟨p,n,k,ss,y,rfl,hn,hO.nm,hyt,?_⟩
   walk_at "vc"
   have key:(i=0∧y=v)∨(i=1∧y=u):=by
    match i,hy with
    | 0,hy=>exact .inl ⟨rfl,(Option.some.inj hy).symm⟩
    | 1,hy=>exact .inr ⟨rfl,(Option.some.inj hy).symm⟩
    | j + 2,hy=>simp at hy
   refine qD (fun h=>?_) fun h=>?_
   ·walk_at "vc"
    have hf:qt ss y=false:=by simpa using h
    refine ⟨by show 2≤sizeLine;decide,no (L2.Same.refl H1) ?_⟩
    rcases key with ⟨rfl,rfl⟩ | ⟨rfl,rfl⟩
    ·exact .inl ⟨hf,rfl⟩
    ·exact .inr ⟨h1 (Nat.le_refl _),hf,rfl⟩
   ·have hp:qt ss y=true:=by simpa using h
    refine ⟨rfl,⟨_,rfl⟩,fun hi=>?_,fun hi=>?_⟩
    ·rcases key with ⟨rfl,rfl⟩ | ⟨rfl,rfl⟩
     ·exact hp
     ·exact h1 (Nat.le_refl _)
    ·rcases key with ⟨rfl,rfl⟩ | ⟨rfl,rfl⟩
     ·omega
     ·exact hp
  ·obtain ⟨rfl,⟨x4,rfl⟩,h1,h2⟩:=hp
   have hp:=h1 (by show 1≤2;decide)
   have hp2:=h2 (by show 2≤2;decide)
   obtain ⟨nv,_⟩:=qK hp
   obtain ⟨nu,_⟩:=qK hp2
   obtain ⟨ev,_,_⟩:=qJ nv
   obtain ⟨eu,_,_⟩:=qJ nu
   generalize qC v=a at ev
   generalize qC u=b at eu
   have hth2:=hth
   rw [ev,eu] at hth2
   walk_at "vc"
   refine qeu hl hth2 ?_
   walk_at "vc"
   refine qD (fun h=>?_) fun h=>?_
   ·walk_at "vc"
    rw [hTC2]
    refine ⟨fun _ _ z=>z,x4,a,b,?_,L2.Same.refl _,ev,eu,hp,hp2⟩
    have e:jv dps a b=true:=decide_eq_true (.inl (of_decide_eq_true h))
    rw [e]
    rfl
   ·walk_at "vc"
    refine vU ?_
    walk_at "vc"
    refine ⟨rfl,th,_,_,rfl,SqT.of hth2,fun t2 h2=>?_⟩
    have s12:=qE (L2.Same.refl H1) (o:=.tup [.str b,.str a]) h2
    have e2:upd H1 t2 (.tup [.str b,.str a]) t2=some (.tup [.str b,.str a]):=qc
    generalize upd H1 t2 (.tup [.str b,.str a])=H2 at s12 e2 ⊢
    walk_at "vc"
    refine qeu (hl.same s12) e2 ?_
    walk_at "vc"
    rw [hTC2]
    refine ⟨fun _ _ z=>z,x4,a,b,?_,s12,ev,eu,hp,hp2⟩
    have e:jv dps a b=decide ((b,a)∈dps):=by
     unfold jv
     refine decide_eq_decide.mpr ⟨fun z=>z.elim (fun z=>absurd (decide_eq_true z) h) id,.inr⟩
    rw [e]
    rfl
end
abbrev qap:Stmt:=top 38
theorem sc_l_same:FnScope ["_law_found", "_law_due"] ["_law_found", "_law_due"] (qe qap):=⟨rfl,rfl,rfl,by decide +kernel,rfl,by decide +kernel,by decide +kernel⟩
abbrev zO:Stmt:=top 39
theorem sc_l_some:FnScope ["_law_box_here", "_law_names_here", "_law_some_here", "_law_way"] ["_law_box_here", "_law_names_here"] (qe zO):=⟨rfl,rfl,rfl,by decide +kernel,rfl,by decide +kernel,by decide +kernel⟩
abbrev zF:Stmt:=top 40
theorem sc_l_thing:FnScope ["_law_box_here", "_law_names_here", "_law_way"] ["_law_box_here", "_law_names_here"] (qe zF):=⟨rfl,rfl,rfl,by decide +kernel,rfl,by decide +kernel,by decide +kernel⟩
def RTh (p:Addr) (H:Hp):Res→Prop
 | .no _ y=>∃ k,Th p H k y
 | .tie v u=>∃ k,Th p H k v∧Th p H k u
 | .web _ _=>True
theorem RTh.same {p:Addr} {H H':Hp}:∀ {r:Res},RTh p H r→L2.Same H H'→RTh p H' r
 | .no _ _,⟨k,h⟩,s=>⟨k,h.same s⟩
 | .tie _ _,⟨k,h,g⟩,s=>⟨k,h.same s,g.same s⟩
 | .web _ _,_,_=>True.intro
theorem qdF {ss:List Str}:∀ {xs:List V} {y:V},qa0 ss xs=some y→y∈xs
 | [],_,h=>by cases h
 | x::r,y,h=>by
  have h:(if qt ss x=true then qa0 ss r else some x)=some y:=h
  split at h
  ·exact List.mem_cons_of_mem _ (qdF h)
  ·cases h;exact List.mem_cons_self
theorem qfo {p:Addr} {H:Hp} {i:Int}:Th p H 0 (.int i):=.flat rfl fun s e=>by cases e
theorem Arg.th {p:Addr} {H:Hp} {v:V} {o:Option (List V)} (h:Arg p H v o):Th p H 3 v:=by
 cases h with
 | lst e ne h l=>exact .lst e ne h l
 | tup e ne h l=>exact .tup e ne h l
 | flat f l=>exact .flat f l
 | dct e ne=>exact .dct e ne
theorem res0_th {p:Addr} {H:Hp} {ss:List Str} {dps:List (Str×Str)} {v:V} {o:Option (List V)} (h:Arg p H v o):RTh p H (qgd ss dps v o):=by
 cases o with
 | none=>exact ⟨_,h.th⟩
 | some xs =>
  show RTh p H (match qa0 ss xs with | some y=>_ | none=>_)
  cases e:qa0 ss xs with
  | none=>exact True.intro
  | some y=>exact ⟨2,h.few.2 y (qdF e)⟩
theorem res1_th {p:Addr} {H:Hp} {ss:List Str} {dps:List (Str×Str)} {v:V} {k:Nat} (h:Th p H k v):RTh p H (qdR ss dps v):=by
 unfold qdR
 split
 ·split
  ·exact ⟨_,h⟩
  ·split
   ·exact ⟨_,qfo⟩
   ·exact True.intro
 ·exact ⟨_,h⟩
theorem res2_th {p:Addr} {H:Hp} {ss:List Str} {dps:List (Str×Str)} {v u:V} {k:Nat} (h:Th p H k v) (g:Th p H k u):RTh p H (qeJ ss dps v u):=by
 unfold qeJ
 split
 ·split
  ·split
   ·exact ⟨_,h,g⟩
   ·split
    ·exact ⟨_,qfo⟩
    ·exact True.intro
  ·exact ⟨_,g⟩
 ·exact ⟨_,h⟩
theorem res3_th {p:Addr} {H:Hp} {ss:List Str} {dps:List (Str×Str)} {v u:V} {k:Nat} (h:Th p H k v) (g:Th p H k u):RTh p H (qeK ss dps v u):=by
 unfold qeK
 split
 ·split
  ·split
   ·exact True.intro
   ·exact ⟨_,h,g⟩
  ·exact ⟨_,g⟩
 ·exact ⟨_,h⟩
def qfp:Sp:=fun vs H Q _=>∃ (p t t':Addr) (r:Res),vs=[.ref t,.ref t']∧Says H t r∧Says H t' r∧RTh p H r∧Q (.bl true) H
def qfq:Sp:=fun vs H Q _=>∃ (p n:Addr) (ss:List Str),vs=[.ref p,.ref n]∧Box H p∧NL p H n ss∧NOk ss∧∀ (v:V) (o:Option (List V)) (H':Hp),BB p H H'→Arg p H' v o→Q v H'
def qeD:Sp:=fun vs H Q _=>∃ (p n:Addr) (ss:List Str),vs=[.ref p,.ref n]∧Box H p∧NL p H n ss∧NOk ss∧∀ (v:V) (H':Hp),BB p H H'→Th p H' 1 v→qg3 v→Q v H'
theorem Th.arg {p:Addr} {H:Hp} {v:V} (h:Th p H 1 v):∃ o,Arg p H v o:=by
 cases h with
 | flat f l=>exact ⟨_,.flat f l⟩
 | lst e ne h l=>exact ⟨_,.lst e ne (fun x hx=>(h x hx).mono.mono) l⟩
 | tup e ne h l=>exact ⟨_,.tup e ne (fun x hx=>(h x hx).mono.mono) l⟩
 | dct e ne=>exact ⟨_,.dct e ne⟩
theorem eq_nil {K:W.Frag} {H:Hp} {l z:Addr} {xs:List V} {Q:VK} (hl:H l=some (.lst xs)) (hz:H z=some (.lst [])) (q:Q (.bl xs.isEmpty) H):qf1 K false (.ref l) (.ref z) H Q:=by
 cases xs with
 | nil=>exact .inr (.inl ⟨l,z,true,1,rfl,rfl,by decide,EqT.lst (n:=0) (e:=fun _=>true) (SqL.of hl) (SqL.of hz) rfl (fun j x y h=>by simp at h),q⟩)
 | cons x r=>exact .inr (.inl ⟨l,z,false,1,rfl,rfl,by decide,.lstL (SqL.of hl) (SqL.of hz) (by simp),q⟩)
section
variable {P:Program} {w:World} {K:W.Frag} {mg:Str→Option Value} {base:Heap} {cc:Nat→Addr} {cw:Addr}
theorem Says.eqT {p:Addr} {H:Hp} {t t':Addr} {r:Res} (h:Says H t r) (g:Says H t' r) (hr:RTh p H r):∃ n,n≤60∧EqT K H n t t' true:=by
 have two:∀ {a b c d:V} {n:Nat} {t t':Addr},H t=some (.tup [a,b])→H t'=some (.tup [c,d])→EqD K H n a c true→EqD K H n b d true→EqT K H (n + 1) t t' true:=fun h1 h2 e1 e2=>qbX h1 h2 rfl fun j x y hx hy=>by
  match j,hx,hy with
  | 0,hx,hy=>cases hx;cases hy;exact e1
  | 1,hx,hy=>cases hx;cases hy;exact e2
  | j + 2,hx,hy=>simp at hx
 cases r with
 | no i y =>
  obtain ⟨k,hk⟩:=hr
  exact ⟨1,by decide,two (n:=0) h g (qa8 rfl) hk.eqD⟩
 | tie v u =>
  obtain ⟨k,hv,hu'⟩:=hr
  obtain ⟨t1,h1,h2⟩:=h
  obtain ⟨t2,g1,g2⟩:=g
  exact ⟨2,by decide,two (n:=1) h1 g1 (qa8 rfl) (qew (two (n:=0) h2 g2 hv.eqD hu'.eqD))⟩
 | web ss dps =>
  obtain ⟨t1,t2,ts,h1,h2,h3,h4⟩:=h
  obtain ⟨u1,u2,us,g1,g2,g3,g4⟩:=g
  refine ⟨3,by decide,two (n:=2) h1 g1 (qew (qbX h2 g2 rfl fun j x y hx hy=>?_)) (qew (eqT_prs h3 g3 h4 g4))⟩
  rw [hx] at hy
  cases hy
  exact qdy _ (List.mem_of_getElem? hx)
theorem Says.ty {p:Addr} {H:Hp} {t t':Addr} {r:Res} (h:Says H t r) (g:Says H t' r) (hr:RTh p H r):∃ tt∈["NoneType", "bool", "int", "str", "list", "tuple", "dict"],∃ a b c d,H t=some (.tup [a,b])∧H t'=some (.tup [c,d])∧TyOf K H b (.type tt)∧TyOf K H d (.type tt):=by
 cases r with
 | no i y =>
  obtain ⟨k,hk⟩:=hr
  obtain ⟨tt,h1,h2,_⟩:=hk.ty (K:=K)
  exact ⟨tt,h1,_,_,_,_,h,g,h2,h2⟩
 | tie v u =>
  obtain ⟨t1,h1,h2⟩:=h
  obtain ⟨t2,g1,g2⟩:=g
  exact ⟨"tuple",by simp,_,_,_,_,h1,g1,.tup h2,.tup g2⟩
 | web ss dps =>
  obtain ⟨t1,t2,ts,h1,h2,h3,h4⟩:=h
  obtain ⟨u1,u2,us,g1,g2,g3,g4⟩:=g
  exact ⟨"tuple",by simp,_,_,_,_,h1,g1,.tup h3,.tup g3⟩
theorem ok_same {f:Addr} {fd:FuncData} (F:Fun K "_law_same" "_law_same" qap f fd) (T:Txt K mg cc cw):FnOk P w K mg base CX0 1 f fd ["_law_found", "_law_due"] qfp:=by
 refine F.ok sc_l_same (fun vs H Q E h=>?_) fun cdv A outer s H vs Q E hr h=>?_
 ·obtain ⟨p,t,t',r,rfl,_⟩:=h;rfl
 ·obtain ⟨p,t,t',r,rfl,h1,h2,h3,q⟩:=h
  have hu:=zR hr
  refine ⟨_,(qd (qF (qo (zZ (K:=K) rfl hu) (pv 0) (pv 1) (qy _)) (qf (qk zS)) qi)
 (qf (qk (jV (zn (K:=K) rfl hu) (qm (zP (K:=K) rfl) rfl T.b_isinstance boot_isinstance (qa (qA (qB (K:=K) rfl hu) (pv 0) qg (fun _ _=>rfl)) (qa (jO (v:=.ty "bool") rfl T.b_bool boot_bool rfl) qb))) (qm (zP (K:=K) rfl) rfl T.b_isinstance boot_isinstance (qa (qA (qB (K:=K) rfl hu) (pv 1) qg (fun _ _=>rfl)) (qa (jO (v:=.ty "bool") rfl T.b_bool boot_bool rfl) qb))) (qy _))))),?_⟩
  obtain ⟨n,hn,he⟩:=h1.eqT (K:=K) h2 h3
  obtain ⟨tt,htt,a,b,c,d,e1,e2,ty1,ty2⟩:=h1.ty (K:=K) h2 h3
  have kb:=qaW K tt htt "bool" (by simp)
  walk_at "vc"
  refine .inr (.inl ⟨t,t',true,n,rfl,rfl,hn,he,?_⟩)
  walk_at "vc"
  refine qD (fun h=>by cases h) fun _=>?_
  walk_at "vc"
  refine .inl (qaR e1 rfl ?_)
  walk_at "vc"
  refine zy (.inl ty1) rfl kb ?_
  walk_at "vc"
  refine .inl (qaR e2 rfl ?_)
  walk_at "vc"
  refine zy (.inl ty2) rfl kb ?_
  refine .inl (.inl (.inl ⟨rfl,rfl,?_⟩))
  have e3:(if false=true then !eqV (V.bl (qcl tt "bool")) (V.bl (qcl tt "bool")) else eqV (V.bl (qcl tt "bool")) (V.bl (qcl tt "bool")))=true:=by simp [eqV]
  rw [e3]
  exact q
theorem ok_thing {f:Addr} {fd:FuncData} (F:Fun K "_law_thing" "_law_thing" zF f fd) (T:Txt K mg cc cw) (D_l_take:DefOk P w K mg base CX0 1 "_law_take" ["_law_box_here", "_law_many"] qaN) (D_l_odd:DefOk P w K mg base CX0 2 "_law_odd" ["_law_box_here"] qep) (D_l_fresh:DefOk P w K mg base CX0 1 "_law_fresh" ["_law_names_here"] qbo):FnOk P w K mg base CX0 3 f fd ["_law_box_here", "_law_names_here"] qeD:=by
 refine F.ok sc_l_thing (fun vs H Q E h=>?_) fun cdv A outer s H vs Q E hr h=>?_
 ·obtain ⟨p,n,ss,rfl,_⟩:=h;rfl
 ·obtain ⟨p,n,ss,rfl,hB,hN,hO,q⟩:=h
  have hu:=zR hr
  have few:=hO.few
  refine ⟨_,(qd (qu (i:=2) sc_l_thing.nd rfl (Or.inl rfl) (qp D_l_take (hm hr) qx (qa (pv 0) (qa qg qb))))
 (qd (qF (qo (zn (K:=K) rfl hu) (pv 2) qg (qy _)) (qf (qk (qp D_l_odd (hm hr) qx (qa (pv 0) qb)))) qi)
 (qd (qF (PW.pt (qbv (qo (zn (K:=K) rfl hu) (pv 2) qg (qy _)) (qaB (qo (zn (K:=K) rfl hu) (pv 1) (qQ qb) (qy _))))) (qf (qk (qp D_l_fresh (hm hr) qx (qa (pv 1) qb)))) qi)
 (qf (qk (qA (qB (K:=K) rfl hu) (pv 1) (qp D_l_take (hm hr) qx (qa (pv 0) (qa (qm (j7 (K:=K) rfl) rfl T.b_len boot_len (qa (pv 1) qb)) qb))) (fun _ _=>rfl))))))),?_⟩
  walk_at "vc"
  refine ⟨p,6,rfl,hB,by decide,by decide,fun r H1 r0 r1 b1=>?_⟩
  have hN1:=hN.bb b1
  have fr:∀ {H2:Hp},BB p H H2→H2 n=some (.lst (ss.map V.str))→qbo [.ref n] H2 Q E0:=fun {H2} b2 hn2=>⟨n,ss,rfl,hn2,few,fun x H3 s3 hx hxn=>q _ _ (b2.same s3) (Th.str (by have:=zC hx;omega)) fun s e=>by cases e;exact .inl hx⟩
  walk_at "vc"
  refine .inl (.inl (.inl ⟨rfl,rfl,?_⟩))
  walk_at "vc"
  refine qD (fun h=>?_) fun h=>?_
  ·walk_at "vc"
   exact ⟨p,rfl,b1.2,fun v H2 b2 hv _ hodd=>q v H2 (b1.trans b2) hv.old fun s e=>.inr (hodd s e)⟩
  walk_at "vc"
  refine .inl (.inl (.inl ⟨rfl,rfl,?_⟩))
  walk_at "vc"
  refine qD (fun h=>?_) fun h=>?_
  ·walk_at "vc"
   refine qbC ?_
   walk_at "vc"
   exact fr b1 hN1.1
  walk_at "vc"
  refine ⟨by decide,fun z hz=>?_⟩
  have b2:=b1.new (o:=.lst []) hz
  have s12:=qE (L2.Same.refl H1) (o:=.lst []) hz
  have ez:upd H1 z (.lst []) z=some (.lst []):=qc
  have hN2:=hN1.same s12
  generalize upd H1 z (.lst [])=H2 at b2 ez hN2 ⊢
  refine .inl (.inl (eq_nil hN2.1 ez ?_))
  walk_at "vc"
  refine qD (fun h=>?_) fun h=>?_
  ·walk_at "vc"
   exact fr b2 hN2.1
  have hne:ss≠[]:=fun e=>h (by rw [e];rfl)
  have hpos:=List.length_pos_iff.mpr hne
  walk_at "vc"
  refine qar hN2.1 ?_
  rw [List.length_map]
  walk_at "vc"
  refine ⟨p,_,rfl,b2.2,by omega,by omega,fun i H3 i0 i1 b23=>?_⟩
  have hN3:=hN2.bb b23
  obtain ⟨y,iy,hy⟩:=qas (xs:=ss.map V.str) i0 (by rw [List.length_map];exact i1)
  refine .inl (zX hN3.1 iy ?_)
  obtain ⟨s',hs',rfl⟩:=List.mem_map.mp (List.mem_of_getElem? hy)
  exact q _ _ (b2.trans b23) (zd (hO.nm _ hs')) fun s e=>by cases e;exact .inl (hO.nm _ hs')
theorem ok_some {f:Addr} {fd:FuncData} (F:Fun K "_law_some" "_law_some" zO f fd) (T:Txt K mg cc cw) (D_l_take:DefOk P w K mg base CX0 1 "_law_take" ["_law_box_here", "_law_many"] qaN) (D_l_odd:DefOk P w K mg base CX0 2 "_law_odd" ["_law_box_here"] qep) (D_l_fresh:DefOk P w K mg base CX0 1 "_law_fresh" ["_law_names_here"] qbo):FnOk P w K mg base CX0 3 f fd ["_law_box_here", "_law_names_here"] qfq:=by
 refine F.ok sc_l_some (fun vs H Q E h=>?_) fun cdv A outer s H vs Q E hr h=>?_
 ·obtain ⟨p,n,ss,rfl,_⟩:=h;rfl
 ·obtain ⟨p,n,ss,rfl,hB,hN,hO,q⟩:=h
  have hu:=zR hr
  have few:=hO.few
  obtain ⟨TC2,hTC2⟩:∃ t:TS,t=fun D σ H'=>(∀ u H',Q u H'→D.rt u H')∧∃ c xs,σ=[some (.ref p),some (.ref n),some (.ref c),none]∧BB p H H'∧H' c=some (.lst xs)∧c≠p∧(∀ x∈xs,Th p H' 2 x)∧xs.length≤9:=⟨_,rfl⟩
  refine ⟨_,(qd (qaw (sc:=qe zO) (XN:=["_law_box_here", "_law_names_here", "_law_some_here", "_law_way"]) ["_law_k", "_law_names_here", "_law_box_here"] 1 [1,0] rfl rfl rfl (by decide +kernel) rfl (by decide +kernel) (i:=2) sc_l_some.nd rfl rfl
  (jt rfl T.b_range (qa (qp D_l_take (hm hr) qx (qa (pv 0) (qa qg qb))) qb)) (fun _ _ _ _=>(qv (i:=0) (show (["_law_k", "_law_names_here", "_law_box_here"]:List Str).Nodup by decide +kernel) rfl (Or.inl rfl))) je
  (fun _ _ _ _=>(jx (qo (zZ (K:=K) rfl hu) (pv 1) (qQ qb) (qy _))))
  (fun _ _ _ _=>(qA (qB (K:=K) rfl hu) (pv 1) (qp D_l_take (hm hr) qx (qa (pv 2) (qa (qm (j7 (K:=K) rfl) rfl T.b_len boot_len (qa (pv 1) qb)) qb))) (fun _ _=>rfl))))
 (qd (qF (qo (zn (K:=K) rfl hu) (qp D_l_take (hm hr) qx (qa (pv 0) (qa qg qb))) qg (qy _)) (qf (qu (i:=2) sc_l_some.nd rfl (Or.inl rfl) (qL (zu (K:=K) rfl) (qL (zu (K:=K) rfl) (pv 2) (qQ (qa (qA (qB (K:=K) rfl hu) (qQ (qa (qp D_l_odd (hm hr) qx (qa (pv 0) qb)) (qa (qp D_l_fresh (hm hr) qx (qa (pv 1) qb)) qb))) (qp D_l_take (hm hr) qx (qa (pv 0) (qa qg qb))) (fun _ _=>rfl)) qb))) (j2 (qeH (K:=K) rfl) (pv 2) zr (jF qg))))) qi)
 (qbs TC2 (qd (qu (i:=3) sc_l_some.nd rfl (Or.inl rfl) (qp D_l_take (hm hr) qx (qa (pv 0) (qa qg qb))))
 (qd (qF (qo (zn (K:=K) rfl hu) (pv 3) qg (qy _)) (qf (qk (qp D_l_odd (hm hr) qx (qa (pv 0) qb)))) qi)
 (qf (qk (qA (qB (K:=K) rfl hu) (qQ (qa (pv 2) (qa (qI (jy (K:=K) rfl) rfl T.b_tuple boot_tuple (qa (pv 2) qb)) qb))) (qL zV (pv 3) qg) (fun _ _=>rfl)))))) ?cut2))),?_⟩
  case cut2 =>
   intro D σ H1 h
   rw [hTC2] at h
   obtain ⟨hD,c,xs,rfl,b1,hc,nc,hxs,hx9⟩:=h
   walk_at "vc"
   refine ⟨p,8,rfl,b1.2,by decide,by decide,fun r H2 r0 r1 b12=>?_⟩
   have b2:=b1.trans b12
   have hc2:=b12.1 _ _ nc hc
   have hxs2:∀ x∈xs,Th p H2 2 x:=fun x hx=>(hxs x hx).bb b12
   walk_at "vc"
   refine .inl (.inl (.inl ⟨rfl,rfl,?_⟩))
   walk_at "vc"
   refine qD (fun h=>?_) fun h=>?_
   ·walk_at "vc"
    refine ⟨p,rfl,b2.2,fun v H3 b3 hv _ hodd=>hD _ _ ?_⟩
    obtain ⟨o,ho⟩:=hv.old.arg
    exact q v o H3 (b2.trans b3) ho
   walk_at "vc"
   refine ⟨c,_,rfl,.inl ⟨SqL.of hc2,fun t1 h1=>?_⟩⟩
   have b3:=b2.new (o:=.tup xs) h1
   have n1:=b2.apart h1
   have s23:=qE (L2.Same.refl H2) (o:=.tup xs) h1
   have e1:upd H2 t1 (.tup xs) t1=some (.tup xs):=qc
   have hc3:=s23 _ _ hc2
   have hxs3:∀ x∈xs,Th p (upd H2 t1 (.tup xs)) 2 x:=fun x hx=>(hxs2 x hx).same s23
   generalize upd H2 t1 (.tup xs)=H3 at b3 s23 e1 hc3 hxs3 ⊢
   walk_at "vc"
   refine ⟨by show 2≤sizeLine;decide,fun m hm=>?_⟩
   have b4:=b3.new (o:=.lst [.ref c,.ref t1]) hm
   have s34:=qE (L2.Same.refl H3) (o:=.lst [.ref c,.ref t1]) hm
   have em:upd H3 m (.lst [.ref c,.ref t1]) m=some (.lst [.ref c,.ref t1]):=qc
   have hc4:=s34 _ _ hc3
   have e14:=s34 _ _ e1
   have hxs4:∀ x∈xs,Th p (upd H3 m (.lst [.ref c,.ref t1])) 2 x:=fun x hx=>(hxs3 x hx).same s34
   generalize upd H3 m (.lst [.ref c,.ref t1])=H4 at b4 em hc4 e14 hxs4 ⊢
   walk_at "vc"
   refine vI (show (0:Int) < 2 by decide) ?_
   obtain ⟨y,iy,hy⟩:=qas (xs:=[V.ref c,V.ref t1]) (i:=r % 2) (by omega) (by show r % 2 < 2;omega)
   refine .inl (zX em iy ?_)
   refine hD _ _ ?_
   have hm':=List.mem_of_getElem? hy
   simp only [List.mem_cons,List.not_mem_nil,or_false] at hm'
   rcases hm' with rfl | rfl
   ·exact q _ _ H4 b4 (.lst hc4 nc hxs4 (by omega))
   ·exact q _ _ H4 b4 (.tup e14 n1 hxs4 (by omega))
  walk_at "vc"
  refine ⟨p,4,rfl,hB,by decide,by decide,fun r H1 r0 r1 b1=>?_⟩
  walk_at "vc"
  refine ⟨r,rfl,by omega,by omega,qae (fun i ys H'=>BB p H H'∧∃ qs:List Str,ys=qs.map V.str∧qs.length≤i∧∀ s∈qs,s∈ss) ⟨b1,[],rfl,Nat.le_refl _,fun s h=>by cases h⟩ (fun i ys H' hi hp=>?_) fun ys H' hp=>?_⟩
  ·obtain ⟨b2,qs,rfl,hql,hqs⟩:=hp
   have hN2:=hN.bb b2
   walk_at "vc"
   refine ⟨by decide,fun z hz=>?_⟩
   have b3:=b2.new (o:=.lst []) hz
   have s23:=qE (L2.Same.refl H') (o:=.lst []) hz
   have ez:upd H' z (.lst []) z=some (.lst []):=qc
   have hN3:=hN2.same s23
   generalize upd H' z (.lst [])=H3 at b3 ez hN3 ⊢
   refine qdw hN3.1 ez ?_
   walk_at "vc"
   refine qD (fun h=>?_) fun h=>?_
   ·have hne:ss≠[]:=fun e=>by rw [e] at h;cases h
    have hpos:=List.length_pos_iff.mpr hne
    walk_at "vc"
    refine qar hN3.1 ?_
    rw [List.length_map]
    walk_at "vc"
    refine ⟨p,_,rfl,b3.2,by omega,by omega,fun j H4 j0 j1 b34=>?_⟩
    have hN4:=hN3.bb b34
    obtain ⟨y,iy,hy⟩:=qas (xs:=ss.map V.str) j0 (by rw [List.length_map];exact j1)
    refine .inl (zX hN4.1 iy ?_)
    obtain ⟨s',hs',rfl⟩:=List.mem_map.mp (List.mem_of_getElem? hy)
    refine ⟨by rw [List.length_map];exact qh (by omega),b3.trans b34,qs++[s'],by rw [List.map_append];rfl,by rw [List.length_append];show qs.length + 1≤_;omega,fun s hs=>?_⟩
    rcases List.mem_append.mp hs with z | z
    ·exact hqs s z
    ·rw [List.mem_singleton.mp z];exact hs'
   ·exact ⟨b3,qs,rfl,by omega,hqs⟩
  ·obtain ⟨b2,qs,rfl,hql,hqs⟩:=hp
   have hq4:qs.length≤3:=by omega
   refine ⟨by rw [List.length_map];exact Nat.le_of_lt (qh (by omega)),fun c hc=>?_⟩
   have b3:=b2.new (o:=.lst (qs.map V.str)) hc
   have nc:=b2.apart hc
   have ec:upd H' c (.lst (qs.map V.str)) c=some (.lst (qs.map V.str)):=qc
   have hqT:∀ {H0:Hp},∀ x∈qs.map V.str,Th p H0 2 x:=fun x hx=>by
    obtain ⟨s',hs',rfl⟩:=List.mem_map.mp hx
    exact zd (hO.nm _ (hqs _ hs'))
   generalize upd H' c (.lst (qs.map V.str))=H3 at b3 ec ⊢
   walk_at "vc"
   refine ⟨p,6,rfl,b3.2,by decide,by decide,fun r' H4 _ _ b34=>?_⟩
   have b4:=b3.trans b34
   have ec4:=b34.1 _ _ nc ec
   walk_at "vc"
   refine .inl (.inl (.inl ⟨rfl,rfl,?_⟩))
   walk_at "vc"
   refine qD (fun h=>?_) fun h=>?_
   ·walk_at "vc"
    refine ⟨p,rfl,b4.2,fun od H5 b45 hod _ hodd=>?_⟩
    have b5:=b4.trans b45
    have ec5:=b45.1 _ _ nc ec4
    have hod5:=hod.old.mono
    walk_at "vc"
    refine ⟨n,ss,rfl,(hN.bb b5).1,few,fun fr H6 s56 hfr _=>?_⟩
    have b6:=b5.same s56
    have ec6:=s56 _ _ ec5
    have hod6:=hod5.same s56
    walk_at "vc"
    refine ⟨by show 2≤sizeLine;decide,fun m hm=>?_⟩
    have b7:=b6.new (o:=.lst [od,.str fr]) hm
    have nm:=b6.apart hm
    have s67:=qE (L2.Same.refl H6) (o:=.lst [od,.str fr]) hm
    have em:upd H6 m (.lst [od,.str fr]) m=some (.lst [od,.str fr]):=qc
    have ec7:=s67 _ _ ec6
    have hod7:=hod6.same s67
    generalize upd H6 m (.lst [od,.str fr])=H7 at b7 em ec7 hod7 ⊢
    clear s67
    walk_at "vc"
    refine ⟨p,2,rfl,b7.2,by decide,by decide,fun i H8 i0 i1 b78=>?_⟩
    have b8:=b7.trans b78
    have em8:=b78.1 _ _ nm em
    have ec8:=b78.1 _ _ nc ec7
    have hod8:=hod7.bb b78
    obtain ⟨y,iy,hy⟩:=qas (xs:=[od,V.str fr]) i0 (by show i < 2;omega)
    refine .inl (zX em8 iy ?_)
    have hyT:Th p H8 2 y:=by
     have:=List.mem_of_getElem? hy
     simp only [List.mem_cons,List.not_mem_nil,or_false] at this
     rcases this with rfl | rfl
     ·exact hod8
     ·exact zd hfr
    walk_at "vc"
    refine ⟨by show 1≤sizeLine;decide,fun d hd=>?_⟩
    have b9:=b8.new (o:=.lst [y]) hd
    have s89:=qE (L2.Same.refl H8) (o:=.lst [y]) hd
    have ed:upd H8 d (.lst [y]) d=some (.lst [y]):=qc
    have ec9:=s89 _ _ ec8
    have hy9:=hyT.same s89
    generalize upd H8 d (.lst [y])=H9 at b9 ed ec9 hy9 ⊢
    clear s89
    refine .inl ⟨c,d,_,_,rfl,rfl,ec9,ed,by rw [List.length_map];exact Nat.le_of_lt (qh (by show qs.length + 1≤1000;omega)),fun e he=>?_⟩
    have bA:=b9.new (o:=.lst (qs.map V.str++[y])) he
    have s9A:=qE (L2.Same.refl H9) (o:=.lst (qs.map V.str++[y])) he
    have ee:upd H9 e (.lst (qs.map V.str++[y])) e=some (.lst (qs.map V.str++[y])):=qc
    have ecA:=s9A _ _ ec9
    have hyA:=hy9.same s9A
    generalize upd H9 e (.lst (qs.map V.str++[y]))=HA at bA ee ecA hyA ⊢
    clear s9A
    walk_at "vc"
    have hcut:(qb3 (qs.map V.str) none (some 1)).length≤3:=by
     have:=qau (qs.map V.str) none (some 1)
     rw [List.length_map] at this
     omega
    have hcm:∀ x∈qb3 (qs.map V.str) none (some 1),x∈qs.map V.str:=fun x hx=>cut_mem hx
    refine .inl ⟨c,_,rfl,SqL.of ecA,fun g hg=>?_⟩
    generalize qb3 (qs.map V.str) none (some 1)=cs at hcut hcm ⊢
    have bB:=bA.new (o:=.lst cs) hg
    have sAB:=qE (L2.Same.refl HA) (o:=.lst cs) hg
    have eg:upd HA g (.lst cs) g=some (.lst cs):=qc
    have eeB:=sAB _ _ ee
    have hyB:=hyA.same sAB
    generalize upd HA g (.lst cs)=HB at bB eg eeB hyB ⊢
    clear sAB
    refine .inl ⟨e,g,_,_,rfl,rfl,eeB,eg,Nat.le_of_lt (qh (by rw [List.length_append,List.length_map];show qs.length + 1 + cs.length≤1000;omega)),fun m' hm'=>?_⟩
    have bC:=bB.new (o:=.lst (qs.map V.str++[y]++cs)) hm'
    have nm':=bB.apart hm'
    have sBC:=qE (L2.Same.refl HB) (o:=.lst (qs.map V.str++[y]++cs)) hm'
    have hyC:=hyB.same sBC
    walk_at "vc"
    rw [hTC2]
    refine ⟨fun _ _ z=>z,m',_,rfl,bC,qc,nm',fun x hx=>?_,by rw [List.length_append,List.length_append,List.length_map];show qs.length + 1 + cs.length≤9;omega⟩
    rcases List.mem_append.mp hx with z | z
    ·rcases List.mem_append.mp z with z | z
     ·exact hqT x z
     ·rw [List.mem_singleton.mp z];exact hyC
    ·exact hqT x (hcm x z)
   ·walk_at "vc"
    rw [hTC2]
    exact ⟨fun _ _ z=>z,c,_,rfl,b4,ec4,nc,hqT,by rw [List.length_map];omega⟩
end
abbrev j5:Stmt:=top 41
theorem sc_l_told:FnScope ["_law_web", "_law_names_here", "_law_ties_here", "_law_k", "_law_some_here", "_law_piece", "_law_outside"] ["_law_web", "_law_names_here", "_law_ties_here"] (qe j5):=⟨rfl,rfl,rfl,by decide +kernel,rfl,by decide +kernel,by decide +kernel⟩
theorem qbK {P:Nat→Bool} {k0:Nat}:∀ {ks:List Nat},ks.Nodup→k0∈ks→P k0=true→(∀ k∈ks,P k=true→k=k0)→ks.countP P=1
 | [],_,h,_,_=>by cases h
 | x::r,hn,h,hp,hu=>by
  obtain ⟨h1,h2⟩:=List.nodup_cons.mp hn
  by_cases e:x=k0
  ·subst e
   rw [List.countP_cons_of_pos hp]
   have:r.countP P=0:=List.countP_eq_zero.mpr fun k hk z=>h1 (by rw [← hu k (List.mem_cons_of_mem _ hk) z];exact hk)
   omega
  ·rw [List.countP_cons_of_neg (fun z=>e (hu x List.mem_cons_self z))]
   exact qbK h2 ((List.mem_cons.mp h).resolve_left fun z=>e z.symm) hp fun k hk=>hu k (List.mem_cons_of_mem _ hk)
theorem qcD {P:Nat→Bool} {f g:Nat→Nat}:∀ (ks:List Nat),(∀ k,g k=f k + (if P k=true then 1 else 0))→(ks.map g).sum=(ks.map f).sum + ks.countP P
 | [],_=>rfl
 | k::r,h=>by
  rw [List.map_cons,List.map_cons,List.sum_cons,List.sum_cons,List.countP_cons,qcD r h,h k]
  omega
theorem qcE {P:Nat→Str→Bool} (ks:List Nat):∀ l:List Str,(∀ x∈l,ks.countP (fun k=>P k x)=1)→(ks.map fun k=>(l.filter (P k)).length).sum=l.length
 | [],_=>by
  have:∀ ks:List Nat,(ks.map fun k=>(([]:List Str).filter (P k)).length).sum=0:=fun ks=>by
   induction ks with
   | nil=>rfl
   | cons k r ih=>rw [List.map_cons,List.sum_cons,ih];rfl
  exact this ks
 | x::r,h=>by
  rw [qcD (P:=fun k=>P k x) (f:=fun k=>(r.filter (P k)).length) ks fun k=>?_,qcE ks r fun y hy=>h y (List.mem_cons_of_mem _ hy),h x List.mem_cons_self]
  ·rfl
  ·rw [List.filter_cons]
   split<;>rfl
theorem adj_sym {ss:List Str} {ns:List Nat} {dps:List (Str×Str)} (hw:WOk ss ns) (hA:Adj ss ns dps) {a b:Nat} (h:(ns.getD a 0).testBit b=true):(ns.getD b 0).testBit a=true∧a < ss.length∧b < ss.length:=by
 have hb:b < ss.length:=by
  refine Nat.lt_of_not_le fun z=>?_
  rw [Nat.testBit_lt_two_pow (Nat.lt_of_lt_of_le (hw.lt a) (Nat.pow_le_pow_right (by decide) z))] at h
  cases h
 have ha:a < ss.length:=by
  refine Nat.lt_of_not_le fun z=>?_
  rw [List.getD_eq_getElem?_getD,List.getElem?_eq_none (by rw [hw.len];exact z)] at h
  simp at h
 have ga:=List.getElem?_eq_getElem ha
 have gb:=List.getElem?_eq_getElem hb
 exact ⟨(hA b a _ _ gb ga).mpr ((hA a b _ _ ga gb).mp h).symm,ha,hb⟩
theorem Rch.symm {ss:List Str} {ns:List Nat} {dps:List (Str×Str)} (hw:WOk ss ns) (hA:Adj ss ns dps) {a b:Nat} (h:Rch ns a b):Rch ns b a:=by
 induction h with
 | base=>exact .base
 | step _ t ih=>exact (Rch.step .base (adj_sym hw hA t).1).trans ih
theorem qfr (ns:List Nat):∀ n i:Nat,i≤n→∃ k,k≤i∧Rch ns k i∧∀ j,j < k→¬ Rch ns j k
 | 0,i,h=>⟨i,Nat.le_refl _,.base,fun j hj=>by omega⟩
 | n + 1,i,h=>by
  by_cases e:∃ j,j < i∧Rch ns j i
  ·obtain ⟨j,hj,hr⟩:=e
   obtain ⟨k,h1,h2,h3⟩:=qfr ns n j (by omega)
   exact ⟨k,by omega,h2.trans hr,h3⟩
  ·exact ⟨i,Nat.le_refl _,.base,fun j hj hr=>e ⟨j,hj,hr⟩⟩
theorem pieces_sum {ss:List Str} {ns:List Nat} {dps:List (Str×Str)} (hw:WOk ss ns) (hA:Adj ss ns dps):((qaY ns ss.length).map fun k=>(zv ss ns k).length).sum=ss.length:=by
 classical
 have e:(fun k=>(zv ss ns k).length)=fun k=>(ss.filter ((fun k s=>decide (Rch ns k (ss.idxOf s))) k)).length:=by
  funext k
  unfold zv
  congr 2
 rw [e]
 refine qcE _ ss fun s hs=>?_
 have hi:ss.idxOf s < ss.length:=List.idxOf_lt_length_of_mem hs
 obtain ⟨k,h1,h2,h3⟩:=qfr ns _ (ss.idxOf s) (Nat.le_refl _)
 have nd:(qaY ns ss.length).Nodup:=List.nodup_range.filter _
 refine qbK nd (List.mem_filter.mpr ⟨List.mem_range.mpr (by omega),isRep_iff.mpr h3⟩) (decide_eq_true h2) fun k' hk' h'=>?_
 have h':=of_decide_eq_true h'
 have hr':=isRep_iff.mp (List.mem_filter.mp hk').2
 have kk':Rch ns k k':=h2.trans (h'.symm hw hA)
 rcases Nat.lt_trichotomy k' k with z | z | z
 ·exact absurd (kk'.symm hw hA) (h3 k' z)
 ·exact z
 ·exact absurd kk' (hr' k z)
theorem comp_both {ss:List Str} {ns:List Nat} {dps:List (Str×Str)} (hw:WOk ss ns) (hG:WG ss ns dps) {ab:Str×Str} (h:ab∈dps) (k:Nat):decide (ab.1∈zv ss ns k)=decide (ab.2∈zv ss ns k):=by
 classical
 obtain ⟨i,j,_,g1,g2⟩:=hG.tok.ok ab h
 have e1:=qdr hw.nd g1
 have e2:=qdr hw.nd g2
 have b1:(ns.getD i 0).testBit j=true:=(hG.adj i j _ _ g1 g2).mpr (.inl h)
 have b2:(ns.getD j 0).testBit i=true:=(hG.adj j i _ _ g2 g1).mpr (.inr h)
 have m1:ab.1∈zv ss ns k↔Rch ns k i:=by
  unfold zv
  rw [List.mem_filter,decide_eq_true_iff,e1]
  exact ⟨And.right,fun z=>⟨List.mem_of_getElem? g1,z⟩⟩
 have m2:ab.2∈zv ss ns k↔Rch ns k j:=by
  unfold zv
  rw [List.mem_filter,decide_eq_true_iff,e2]
  exact ⟨And.right,fun z=>⟨List.mem_of_getElem? g2,z⟩⟩
 refine decide_eq_decide.mpr (m1.trans (Iff.trans ?_ m2.symm))
 exact ⟨fun z=>.step z b1,fun z=>.step z b2⟩
def qeE (ss qs:List Str):Nat:=(qs.map fun s=>2 ^ ss.idxOf s).sum
theorem sumB_snoc (ss qs:List Str) (s:Str):qeE ss (qs++[s])=qeE ss qs + 2 ^ ss.idxOf s:=by
 unfold qeE
 rw [List.map_append,List.sum_append]
 simp
theorem qcF {ss:List Str} (hn:ss.Nodup) (q:Str→Bool):∀ i,i≤ss.length→qeE ss ((ss.take i).filter q) < 2 ^ i∧∀ k s,k < i→ss[k]?=some s→(qeE ss ((ss.take i).filter q)).testBit k=q s
 | 0,_=>⟨by simp [qeE],fun k s h=>by omega⟩
 | i + 1,h=>by
  obtain ⟨hb,hk⟩:=qcF hn q i (by omega)
  have gi:ss[i]?=some ss[i]:=List.getElem?_eq_getElem (by omega)
  generalize ss[i]=si at gi
  have htk:ss.take (i + 1)=ss.take i++[si]:=by rw [List.take_add_one,gi];rfl
  have hb2:qeE ss ((ss.take i).filter q) < 2 ^ (i + 1):=Nat.lt_of_lt_of_le hb (Nat.pow_le_pow_right (by decide) (Nat.le_succ _))
  rw [htk,List.filter_append,List.filter_cons,List.filter_nil]
  cases hq:q si with
  | true =>
   rw [if_pos rfl,sumB_snoc,qdr hn gi]
   have e:qeE ss ((ss.take i).filter q) + 2 ^ i=(2 ^ i ||| qeE ss ((ss.take i).filter q)):=by
    have z:=Nat.two_pow_add_eq_or_of_lt hb 1
    rw [Nat.mul_one] at z
    rw [← z]
    omega
   rw [e]
   refine ⟨Nat.or_lt_two_pow (Nat.pow_lt_pow_right (by decide) (Nat.lt_succ_self _)) hb2,fun k s hk' gk=>?_⟩
   rw [Nat.testBit_or,Nat.testBit_two_pow]
   by_cases hki:k=i
   ·subst hki
    rw [gi] at gk
    cases gk
    simp [hq]
   ·rw [decide_eq_false (fun e=>hki e.symm),Bool.false_or]
    exact hk k s (by omega) gk
  | false =>
   rw [if_neg Bool.false_ne_true,List.append_nil]
   refine ⟨hb2,fun k s hk' gk=>?_⟩
   by_cases hki:k=i
   ·subst hki
    rw [gi] at gk
    cases gk
    rw [Nat.testBit_lt_two_pow hb,hq]
   ·exact hk k s (by omega) gk
theorem sumB_bes {ss:List Str} {ns:List Nat} {dps:List (Str×Str)} (hw:WOk ss ns) (hA:Adj ss ns dps) {k:Nat} {s:Str} (gk:ss[k]?=some s):qeE ss (zb ss dps s)=ns.getD k 0:=by
 obtain ⟨h1,h2⟩:=qcF hw.nd (fun o=>decide ((s,o)∈dps)||decide ((o,s)∈dps)) ss.length (Nat.le_refl _)
 rw [List.take_length] at h1 h2
 refine bits_of hw hA gk h1 fun j t gj=>?_
 have:=h2 j t (List.getElem?_eq_some_iff.mp gj).1 gj
 refine Eq.trans this ?_
 rw [Bool.eq_iff_iff,Bool.or_eq_true,decide_eq_true_iff,decide_eq_true_iff,decide_eq_true_iff,mem_bes]
 exact ⟨fun z=>⟨List.mem_of_getElem? gj,z⟩,And.right⟩
theorem qcW:∀ (l:List Nat),(l.map fun (n:Nat)=>(n:Int)).sum=((l.sum:Nat):Int)
 | []=>rfl
 | n::r=>by rw [List.map_cons,List.sum_cons,List.sum_cons,qcW r];omega
def qeF (cw:Addr):Sp:=fun vs H Q _=>∃ (x n l:Addr) (ss:List Str) (ns:List Nat) (ts:List Addr) (dps:List (Str×Str)),vs=[.ref x,.ref n,.ref l]∧WebAt cw H x ss ns∧WG ss ns dps∧H n=some (.lst (ss.map V.str))∧PL H l ts dps∧∀ H',L2.Same H H'→Q (.bl true) H'
section
variable {P:Program} {w:World} {K:W.Frag} {mg:Str→Option Value} {base:Heap} {cc:Nat→Addr} {cw:Addr}
theorem ok_toldl {f:Addr} {fd:FuncData} (F:Fun K "_law_told" "_law_told" j5 f fd) (T:Txt K mg cc cw)
  (D_Web_how_many:MethOk P w K mg base CX0 1 cw "how_many" ["self"] (qf7 cw)) (D_Web_places:MethOk P w K mg base CX0 1 cw "places" ["self"] (qf6 cw)) (D_Web_ties:MethOk P w K mg base CX0 7 cw "ties" ["self"] (qfD cw)) (D_Web_pieces:MethOk P w K mg base CX0 3 cw "pieces" ["self"] (qf8 cw))
  (QD_Web_number_of:MethOk P w K mg base CX0 4 cw "number_of" ["self", "place"] (fun vs H Q _=>qek cc cw vs H Q E0)) (QD_Web_beside:MethOk P w K mg base CX0 6 cw "beside" ["self", "place"] (fun vs H Q _=>qgC cc cw vs H Q E0)) (QD_Web_bits_beside:MethOk P w K mg base CX0 5 cw "bits_beside" ["self", "place"] (fun vs H Q _=>qgn cc cw vs H Q E0)) :
  FnOk P w K mg base CX0 8 f fd ["_law_web", "_law_names_here", "_law_ties_here"] (qeF cw):=by
 refine F.ok sc_l_told (fun vs H Q E h=>?_) fun cdv A outer s H vs Q E hr h=>?_
 ·obtain ⟨x,n,l,ss,ns,ts,dps,rfl,_⟩:=h;rfl
 ·obtain ⟨x,n,l,ss,ns,ts,dps,rfl,hW,hG,hn,hl,q⟩:=h
  have hu:=zR hr
  obtain ⟨dx,d,ol,on,hx,_,_,_,hw⟩:=id hW
  have few:=hw.few
  have hdl:=hl.2.len
  have h30:=hG.tok.few
  have th:∀ {s:Str} {H':Hp},s∈ss→Th x H' 0 (.str s):=fun hs=>zd (hw.nm _ hs)
  have pl:∀ {s:Str},s∈ss→qt ss (.str s)=true:=fun hs=>qah hs (hw.nm _ hs)
  refine ⟨_,(qd (qF (PW.pt (qbv (qo (zZ (K:=K) rfl hu) (qZ D_Web_places (hm hr) (pv 0)) (pv 1) (qy _)) (qbv (qo (zZ (K:=K) rfl hu) (qZ D_Web_ties (hm hr) (pv 0)) (pv 2) (qy _)) (qaB (qo (zZ (K:=K) rfl hu) (qZ D_Web_how_many (hm hr) (pv 0)) (qm (j7 (K:=K) rfl) rfl T.b_len boot_len (qa (pv 1) qb)) (qy _)))))) (qf (qk zS)) qi)
 (qd (jP PassesOwn.never rfl (jt rfl T.b_range (qa (qm (j7 (K:=K) rfl) rfl T.b_len boot_len (qa (pv 1) qb)) qb)) (qv (i:=3) sc_l_told.nd rfl (Or.inr rfl))
 (qd (qaw (sc:=qe j5) (XN:=["_law_web", "_law_names_here", "_law_ties_here", "_law_k", "_law_some_here", "_law_piece", "_law_outside"]) ["_law_name", "_law_ties_here", "_law_names_here", "_law_k"] 1 [2,1,3] rfl rfl rfl (by decide +kernel) rfl (by decide +kernel) (i:=4) sc_l_told.nd rfl rfl
  (jh (K:=K) rfl (pv 1)) (fun _ _ _ _=>(qv (i:=0) (show (["_law_name", "_law_ties_here", "_law_names_here", "_law_k"]:List Str).Nodup by decide +kernel) rfl (Or.inl rfl))) je
  (fun _ _ _ _=>(jx (PW.pt (qbv (qo (qax (K:=K) rfl hu) (qG (qa (qA (qB (K:=K) rfl hu) (pv 2) (pv 3) (fun _ _=>rfl)) (qa (pv 0) qb))) (pv 1) (by with_unfolding_all rfl)) (qaB (qo (qax (K:=K) rfl hu) (qG (qa (pv 0) (qa (qA (qB (K:=K) rfl hu) (pv 2) (pv 3) (fun _ _=>rfl)) qb))) (pv 1) (by with_unfolding_all rfl)))))))
  (fun _ _ _ _=>(pv 0)))
 (qd (qF (PW.pt (qbv (qo (zZ (K:=K) rfl hu) (jT QD_Web_number_of (hm hr) (pv 0) (qa (qA (qB (K:=K) rfl hu) (pv 1) (pv 3) (fun _ _=>rfl)) qb)) (pv 3) (qy _)) (qaB (qo (zZ (K:=K) rfl hu) (jT QD_Web_beside (hm hr) (pv 0) (qa (qA (qB (K:=K) rfl hu) (pv 1) (pv 3) (fun _ _=>rfl)) qb)) (pv 4) (qy _))))) (qf (qk zS)) qi)
 (qf (qF (qo (zZ (K:=K) rfl hu) (jT QD_Web_bits_beside (hm hr) (pv 0) (qa (qA (qB (K:=K) rfl hu) (pv 1) (pv 3) (fun _ _=>rfl)) qb)) (qm (qf3 (K:=K) rfl rfl) rfl T.b_sum PyProof.Rows.boot_sum (qa (jW (sc:=qe j5) (XN:=["_law_web", "_law_names_here", "_law_ties_here", "_law_k", "_law_some_here", "_law_piece", "_law_outside"]) ["_law_name", "_law_names_here"] 1 [1] rfl rfl rfl (by decide +kernel) rfl (by decide +kernel)
  (jh (K:=K) rfl (pv 4)) (fun _ _ _ _=>(qv (i:=0) (show (["_law_name", "_law_names_here"]:List Str).Nodup by decide +kernel) rfl (Or.inl rfl))) je
  (fun _ _ _ _=>zK)
  (fun _ _ _ _=>(qL qc1 qg (qdQ (K:=K) rfl PySem.F.plainAttrs_list PySem.F.slot_list_index PySem.F.type_list_index (qcR (K:=K) rfl) (pv 1) (qa (pv 0) qb))))) qb)) (qy _)) (qf (qk zS)) qi)))))
 (qd (jP PassesOwn.never rfl (jh (K:=K) rfl (qZ D_Web_pieces (hm hr) (pv 0))) (qv (i:=5) sc_l_told.nd rfl (Or.inr rfl))
 (qd (qaw (sc:=qe j5) (XN:=["_law_web", "_law_names_here", "_law_ties_here", "_law_k", "_law_some_here", "_law_piece", "_law_outside"]) ["_law_tie", "_law_piece"] 1 [5] rfl rfl rfl (by decide +kernel) rfl (by decide +kernel) (i:=6) sc_l_told.nd rfl rfl
  (jh (K:=K) rfl (pv 2)) (fun _ _ _ _=>(qv (i:=0) (show (["_law_tie", "_law_piece"]:List Str).Nodup by decide +kernel) rfl (Or.inl rfl))) je
  (fun _ _ _ _=>(jx (qo (zZ (K:=K) rfl hu) (jV (qax (K:=K) rfl hu) (qA (qB (K:=K) rfl hu) (pv 0) qg (fun _ _=>rfl)) (pv 1) (by with_unfolding_all rfl)) (jV (qax (K:=K) rfl hu) (qA (qB (K:=K) rfl hu) (pv 0) qg (fun _ _=>rfl)) (pv 1) (by with_unfolding_all rfl)) (qy _))))
  (fun _ _ _ _=>(pv 0)))
 (qf (qF (qo (zZ (K:=K) rfl hu) (pv 6) (qQ qb) (qy _)) (qf (qk zS)) qi))))
 (qf (qk (jV (zn (K:=K) rfl hu) (qm (qf3 (K:=K) rfl rfl) rfl T.b_sum PyProof.Rows.boot_sum (qa (jW (sc:=qe j5) (XN:=["_law_web", "_law_names_here", "_law_ties_here", "_law_k", "_law_some_here", "_law_piece", "_law_outside"]) ["_law_piece"] 1 [] rfl rfl rfl (by decide +kernel) rfl (by decide +kernel)
  (jh (K:=K) rfl (qZ D_Web_pieces (hm hr) (pv 0))) (fun _ _ _ _=>(qv (i:=0) (show (["_law_piece"]:List Str).Nodup by decide +kernel) rfl (Or.inl rfl))) je
  (fun _ _ _ _=>zK)
  (fun _ _ _ _=>(qm (j7 (K:=K) rfl) rfl T.b_len boot_len (qa (pv 0) qb)))) qb)) (qm (j7 (K:=K) rfl) rfl T.b_len boot_len (qa (pv 1) qb)) (qy _))))))),?_⟩
  walk_at "vc"
  refine ⟨x,dx,_,rfl,hx,js (by decide +kernel),?_⟩
  walk_at "vc"
  refine ⟨x,ss,ns,rfl,hW,fun l1 h1=>?_⟩
  have s1:=qE (L2.Same.refl H) (o:=.lst (ss.map V.str)) h1
  walk_at "vc"
  refine .inr (.inl ⟨l1,n,true,1,rfl,rfl,by decide,qdz (n:=0) qc (s1 _ _ hn),?_⟩)
  generalize upd H l1 (.lst (ss.map V.str))=H1 at s1 ⊢
  walk_at "vc"
  refine qD (fun h=>by cases h) fun _=>?_
  walk_at "vc"
  refine ⟨x,dx,_,rfl,s1 _ _ hx,js (by decide +kernel),?_⟩
  walk_at "vc"
  refine ⟨x,ss,ns,rfl,hW.same s1,fun l2 us H2 s12 hl20 hl2 _ hus=>?_⟩
  rw [hG.due] at hus
  have s2:=s1.trans s12
  walk_at "vc"
  refine .inr (.inl ⟨l2,l,true,2,rfl,rfl,by decide,eqT_pl ⟨hl2,hus.mono fun _ _ z=>z.2.2⟩ (hl.same s2),?_⟩)
  walk_at "vc"
  refine qD (fun h=>by cases h) fun _=>?_
  walk_at "vc"
  refine ⟨x,dx,_,rfl,s2 _ _ hx,js (by decide +kernel),?_⟩
  walk_at "vc"
  refine ⟨x,ss,ns,rfl,hW.same s2,?_⟩
  walk_at "vc"
  refine qar (s2 _ _ hn) ?_
  rw [List.length_map]
  refine .inl ⟨rfl,rfl,?_⟩
  walk_at "vc"
  refine qD (fun h=>absurd h (by simp [eqV])) fun _=>?_
  walk_at "vc"
  refine qar (s2 _ _ hn) ?_
  rw [List.length_map]
  refine ⟨_,rfl,by omega,by omega,?_⟩
  rw [Int.toNat_natCast]
  refine j6 (fun i σ H'=>L2.Same H H'∧∃ x3 x4,σ=[some (.ref x),some (.ref n),some (.ref l),x3,x4,none,none]) ⟨s2,none,none,rfl⟩ (fun i σ H3 hi hp=>?_) fun σ H3 hp=>?_
  ·obtain ⟨s3,x3,x4,rfl⟩:=hp
   have gi:ss[i]?=some ss[i]:=List.getElem?_eq_getElem hi
   generalize ss[i]=pls at gi
   have hpm:=List.mem_of_getElem? gi
   walk_at "vc"
   refine .inl ⟨⟨_,SqL.of (s3 _ _ hn)⟩,qY (K:=K) (fun k ys H'=>L2.Same H H'∧ys=((ss.take k).filter fun o=>decide ((pls,o)∈dps)||decide ((o,pls)∈dps)).map V.str) ⟨s3,by simp⟩ (fun k ys H' _ hp=>SqL.of (hp.1 _ _ hn)) (fun k y ys H4 hy hp=>?_) fun ys H4 hp=>?_⟩
   ·obtain ⟨s4,rfl⟩:=hp
    obtain ⟨o,gk,rfl⟩:=jY hy
    have hk14:k < ss.length:=(List.getElem?_eq_some_iff.mp gk).1
    have htk2:ss.take (k + 1)=ss.take k++[o]:=by rw [List.take_add_one,gk];rfl
    have fewY:(((ss.take k).filter fun o=>decide ((pls,o)∈dps)||decide ((o,pls)∈dps)).map V.str).length < sizeLine:=by
     rw [List.length_map]
     exact qh (Nat.le_trans (List.length_filter_le _ _) (by rw [List.length_take];omega))
    have yes:(decide ((pls,o)∈dps)||decide ((o,pls)∈dps))=true→((ss.take k).filter fun o=>decide ((pls,o)∈dps)||decide ((o,pls)∈dps)).map V.str++[V.str o]=((ss.take (k + 1)).filter fun o=>decide ((pls,o)∈dps)||decide ((o,pls)∈dps)).map V.str:=fun h=>by
     rw [htk2,List.filter_append,List.map_append,List.filter_cons,if_pos h]
     rfl
    have no:¬ (decide ((pls,o)∈dps)||decide ((o,pls)∈dps))=true→((ss.take k).filter fun o=>decide ((pls,o)∈dps)||decide ((o,pls)∈dps)).map V.str=((ss.take (k + 1)).filter fun o=>decide ((pls,o)∈dps)||decide ((o,pls)∈dps)).map V.str:=fun h=>by
     rw [htk2,List.filter_append,List.filter_cons,if_neg h]
     simp
    have ixi:∀ {H':Hp},L2.Same H H'→H' n=some (.lst (ss.map V.str))∧atI (ss.map V.str) (0 + (i:Int))=some (.str pls):=fun s'=>⟨s' _ _ hn,by rw [Int.zero_add];exact jQ (by rw [List.getElem?_map,gi];rfl)⟩
    walk_at "vc"
    refine .inl (zX (ixi s4).1 (ixi s4).2 ?_)
    walk_at "vc"
    refine ⟨by show 2≤sizeLine;decide,fun a ha=>?_⟩
    have s5:=qE s4 (o:=.tup [.str pls,.str o]) ha
    have ea:upd H4 a (.tup [.str pls,.str o]) a=some (.tup [.str pls,.str o]):=qc
    generalize upd H4 a (.tup [.str pls,.str o])=H5 at s5 ea ⊢
    walk_at "vc"
    refine qeu (hl.same s5) ea ?_
    walk_at "vc"
    refine qD (fun hm=>?_) fun hm=>?_
    ·refine qbC ?_
     walk_at "vc"
     exact ⟨fewY,s5,yes (by rw [hm];rfl)⟩
    ·walk_at "vc"
     refine .inl (zX (ixi s5).1 (ixi s5).2 ?_)
     walk_at "vc"
     refine ⟨by show 2≤sizeLine;decide,fun a2 ha2=>?_⟩
     have s6:=qE s5 (o:=.tup [.str o,.str pls]) ha2
     have ea2:upd H5 a2 (.tup [.str o,.str pls]) a2=some (.tup [.str o,.str pls]):=qc
     generalize upd H5 a2 (.tup [.str o,.str pls])=H6 at s6 ea2 ⊢
     walk_at "vc"
     refine qeu (hl.same s6) ea2 ?_
     walk_at "vc"
     refine qD (fun hm2=>?_) fun hm2=>?_
     ·walk_at "vc"
      exact ⟨fewY,s6,yes (by rw [hm2,Bool.or_true])⟩
     ·refine ⟨s6,no ?_⟩
      rw [Bool.or_eq_true]
      rintro (h | h)
      ·exact hm h
      ·exact hm2 h
   ·obtain ⟨s4,rfl⟩:=hp
    have etk:ss.take (ss.map V.str).length=ss:=by rw [List.length_map,List.take_length]
    rw [etk]
    have ebs:(ss.filter fun o=>decide ((pls,o)∈dps)||decide ((o,pls)∈dps))=zb ss dps pls:=rfl
    rw [ebs]
    have hbl:(zb ss dps pls).length≤14:=Nat.le_trans (List.length_filter_le _ _) few
    refine ⟨by rw [List.length_map];exact Nat.le_of_lt (qh (by omega)),fun c hc=>?_⟩
    have s5:=qE s4 (o:=.lst ((zb ss dps pls).map V.str)) hc
    have ec:upd H4 c (.lst ((zb ss dps pls).map V.str)) c=some (.lst ((zb ss dps pls).map V.str)):=qc
    generalize upd H4 c (.lst ((zb ss dps pls).map V.str))=H5 at s5 ec ⊢
    walk_at "vc"
    refine ⟨x,dx,_,rfl,s5 _ _ hx,js (by decide +kernel),?_⟩
    walk_at "vc"
    rw [Int.zero_add]
    have ixi:∀ {H':Hp},L2.Same H H'→H' n=some (.lst (ss.map V.str))∧atI (ss.map V.str) (i:Int)=some (.str pls):=fun s'=>⟨s' _ _ hn,jQ (by rw [List.getElem?_map,gi];rfl)⟩
    refine .inl (zX (ixi s5).1 (ixi s5).2 ?_)
    walk_at "vc"
    refine ⟨x,0,x,ss,ns,.str pls,rfl,hW.same s5,th hpm,(fun h=>by rw [pl hpm] at h;cases h),fun j gj _ H6 s56=>?_⟩
    have hji:j=i:=qz hw.nd gj gi
    subst hji
    have s6:=s5.trans s56
    have ec6:=s56 _ _ ec
    walk_at "vc"
    refine .inl ⟨rfl,rfl,?_⟩
    walk_at "vc"
    refine qD (fun h=>absurd h (by simp [eqV])) fun _=>?_
    walk_at "vc"
    refine ⟨x,dx,_,rfl,s6 _ _ hx,js (by decide +kernel),?_⟩
    walk_at "vc"
    refine .inl (zX (ixi s6).1 (ixi s6).2 ?_)
    walk_at "vc"
    refine ⟨x,0,x,ss,ns,.str pls,rfl,hW.same s6,th hpm,(fun h=>by rw [pl hpm] at h;cases h),fun j' gj' _ H7 s67 l7 hl7=>?_⟩
    have hji:j'=j:=qz hw.nd gj' gi
    subst hji
    rw [bes_of hw hG.adj gi]
    have s7:=s6.trans s67
    have s78:=qE (L2.Same.refl H7) (o:=.lst ((zb ss dps pls).map V.str)) hl7
    have s8:=s7.trans s78
    have ec8:=s78 _ _ (s67 _ _ ec6)
    walk_at "vc"
    refine .inr (.inl ⟨l7,c,true,1,rfl,rfl,by decide,qdz (n:=0) qc ec8,?_⟩)
    generalize upd H7 l7 (.lst ((zb ss dps pls).map V.str))=H8 at s8 ec8 ⊢
    walk_at "vc"
    refine qD (fun h=>by cases h) fun _=>?_
    walk_at "vc"
    refine ⟨x,dx,_,rfl,s8 _ _ hx,js (by decide +kernel),?_⟩
    walk_at "vc"
    refine .inl (zX (ixi s8).1 (ixi s8).2 ?_)
    walk_at "vc"
    refine ⟨x,0,x,ss,ns,.str pls,rfl,hW.same s8,th hpm,(fun h=>by rw [pl hpm] at h;cases h),fun j'' gj'' _ H9 s89=>?_⟩
    have hji:j''=j':=qz hw.nd gj'' gi
    subst hji
    have s9:=s8.trans s89
    have ec9:=s89 _ _ ec8
    walk_at "vc"
    have hbm:∀ s∈zb ss dps pls,s∈ss:=fun s hs=>(mem_bes.mp hs).1
    refine .inl ⟨⟨_,SqL.of ec9⟩,qY (K:=K) (fun k ys H'=>H'=H9∧ys=((zb ss dps pls).take k).map fun s=>V.int ((2 ^ ss.idxOf s:Nat):Int)) ⟨rfl,by simp⟩ (fun k ys H' _ hp=>by rw [hp.1];exact SqL.of ec9) (fun k y ys H' hy hp=>?_) fun ys H' hp=>?_⟩
    ·obtain ⟨rfl,rfl⟩:=hp
     obtain ⟨o,gk,rfl⟩:=jY hy
     have hk14:k < (zb ss dps pls).length:=(List.getElem?_eq_some_iff.mp gk).1
     have htk2:(zb ss dps pls).take (k + 1)=(zb ss dps pls).take k++[o]:=by rw [List.take_add_one,gk];rfl
     have ho:=hbm o (List.mem_of_getElem? gk)
     have hio:ss.idxOf o < ss.length:=List.idxOf_lt_length_of_mem ho
     walk_at "vc"
     refine qbC ?_
     walk_at "vc"
     refine ⟨.inl ⟨rfl,_,SqL.of (s9 _ _ hn)⟩,?_⟩
     walk_at "vc"
     refine ⟨n,ss,o,rfl,rfl,SqL.of (s9 _ _ hn),ho,?_⟩
     walk_at "vc"
     refine vI ⟨by omega,by omega,by decide⟩ ?_
     rw [qen]
     refine ⟨by rw [List.length_map];exact qh (by rw [List.length_take];omega),rfl,?_⟩
     rw [htk2,List.map_append]
     rfl
    ·obtain ⟨rfl,rfl⟩:=hp
     have etk2:(zb ss dps pls).take ((zb ss dps pls).map V.str).length=zb ss dps pls:=by rw [List.length_map,List.take_length]
     rw [etk2]
     have emap:(zb ss dps pls).map (fun s=>V.int ((2 ^ ss.idxOf s:Nat):Int))=((zb ss dps pls).map fun s=>((2 ^ ss.idxOf s:Nat):Int)).map V.int:=by rw [List.map_map];rfl
     have esum:((zb ss dps pls).map fun s=>((2 ^ ss.idxOf s:Nat):Int)).sum=((ns.getD j'' 0:Nat):Int):=by
      rw [← sumB_bes hw hG.adj gi]
      unfold qeE
      rw [← qcW,List.map_map]
      rfl
     rw [emap]
     refine ⟨by rw [List.length_map,List.length_map];exact Nat.le_of_lt (qh (by omega)),fun e he=>?_⟩
     have sA:=qE s9 (o:=.lst (((zb ss dps pls).map fun s=>((2 ^ ss.idxOf s:Nat):Int)).map V.int)) he
     walk_at "vc"
     refine ⟨e,_,rfl,SqL.of qc,?_⟩
     rw [esum]
     refine .inl ⟨rfl,rfl,?_⟩
     walk_at "vc"
     refine qD (fun h=>absurd h (by simp [eqV])) fun _=>?_
     exact ⟨sA,_,_,rfl⟩
  ·obtain ⟨s3,x3,x4,rfl⟩:=hp
   have hcs:∀ k,(zv ss ns k).length≤14:=fun k=>Nat.le_trans (List.length_filter_le _ _) few
   have hrl:(qaY ns ss.length).length≤14:=Nat.le_trans (List.length_filter_le _ _) (by rw [List.length_range];exact few)
   walk_at "vc"
   refine ⟨x,dx,_,rfl,s3 _ _ hx,js (by decide +kernel),?_⟩
   walk_at "vc"
   refine ⟨x,ss,ns,rfl,hW.same s3,fun p1 ps H4 s34 hp10 hp1 hps=>?_⟩
   have s4:=s3.trans s34
   have hpl:=hps.len
   rw [List.length_map] at hpl
   refine .inl ⟨⟨_,SqL.of hp1⟩,?_⟩
   refine qab (K:=K) (fun i σ H'=>L2.Same H4 H'∧∃ x5 x6,σ=[some (.ref x),some (.ref n),some (.ref l),x3,x4,x5,x6]) ⟨L2.Same.refl H4,none,none,rfl⟩ (fun i σ H' _ hp=>SqL.of (hp.1 _ _ hp1)) (fun i y σ H5 hy hp=>?_) fun σ H5 hp=>?_
   ·obtain ⟨s45,x5,x6,rfl⟩:=hp
    rw [List.getElem?_map] at hy
    cases hx':ps[i]? with
    | none=>rw [hx'] at hy;cases hy
    | some pa =>
     rw [hx'] at hy
     cases hy
     have hi:i < (qaY ns ss.length).length:=by rw [← hpl];exact (List.getElem?_eq_some_iff.mp hx').1
     have gi:((qaY ns ss.length).map (zv ss ns))[i]?=some (zv ss ns (qaY ns ss.length)[i]):=by rw [List.getElem?_map,List.getElem?_eq_getElem hi];rfl
     have epa:=s45 _ _ (hps.at_ i pa _ hx' gi).2.2
     generalize (qaY ns ss.length)[i]=kr at gi epa
     have s5:=s4.trans s45
     have hl5:=hl.same s5
     walk_at "vc"
     refine .inl ⟨⟨_,SqL.of hl5.1⟩,qY (K:=K) (fun k ys H'=>H'=H5∧ys=[]) ⟨rfl,rfl⟩ (fun k ys H' _ hp=>by rw [hp.1];exact SqL.of hl5.1) (fun k y ys H' hy hp=>?_) fun ys H' hp=>?_⟩
     ·obtain ⟨rfl,rfl⟩:=hp
      rw [List.getElem?_map] at hy
      cases hx2:ts[k]? with
      | none=>rw [hx2] at hy;cases hy
      | some t =>
       rw [hx2] at hy
       cases hy
       have hk:k < dps.length:=by rw [← hdl];exact (List.getElem?_eq_some_iff.mp hx2).1
       have gk:dps[k]?=some dps[k]:=List.getElem?_eq_getElem hk
       have et:=hl5.2.at_ k t dps[k] hx2 gk
       have hab:=List.getElem_mem hk
       generalize dps[k]=ab at gk et hab
       walk_at "vc"
       refine .inl (qaR et rfl ?_)
       walk_at "vc"
       refine .inl ⟨pa,_,rfl,.inl (SqL.of epa),rfl,jl _,?_⟩
       rw [zc]
       walk_at "vc"
       refine .inl (qaR et rfl ?_)
       walk_at "vc"
       refine .inl ⟨pa,_,rfl,.inl (SqL.of epa),rfl,jl _,?_⟩
       rw [zc,comp_both hw hG hab kr]
       refine .inl ⟨rfl,rfl,?_⟩
       walk_at "vc"
       refine qD (fun h=>absurd h (by simp [eqV])) fun _=>?_
       exact ⟨rfl,rfl⟩
     ·obtain ⟨rfl,rfl⟩:=hp
      refine ⟨by decide,fun c hc=>?_⟩
      have s56:=qE s45 (o:=.lst []) hc
      have ec:upd H' c (.lst []) c=some (.lst []):=qc
      generalize upd H' c (.lst [])=H6 at s56 ec ⊢
      walk_at "vc"
      refine ⟨by decide,fun z hz=>?_⟩
      have s67:=qE (L2.Same.refl H6) (o:=.lst []) hz
      refine qdw (s67 _ _ ec) qc ?_
      walk_at "vc"
      refine qD (fun h=>by cases h) fun _=>?_
      exact ⟨s56.trans s67,_,_,rfl⟩
   ·obtain ⟨s45,x5,x6,rfl⟩:=hp
    have s5:=s4.trans s45
    walk_at "vc"
    refine ⟨x,dx,_,rfl,s5 _ _ hx,js (by decide +kernel),?_⟩
    walk_at "vc"
    refine ⟨x,ss,ns,rfl,hW.same s5,fun p2 ps2 H6 s56 hp20 hp2 hps2=>?_⟩
    have s6:=s5.trans s56
    have hpl2:=hps2.len
    rw [List.length_map] at hpl2
    refine .inl ⟨⟨_,SqL.of hp2⟩,qY (K:=K) (fun k ys H'=>H'=H6∧ys=(((qaY ns ss.length).take k).map fun r=>((zv ss ns r).length:Int)).map V.int) ⟨rfl,by simp⟩ (fun k ys H' _ hp=>by rw [hp.1];exact SqL.of hp2) (fun k y ys H' hy hp=>?_) fun ys H' hp=>?_⟩
    ·obtain ⟨rfl,rfl⟩:=hp
     rw [List.getElem?_map] at hy
     cases hx':ps2[k]? with
     | none=>rw [hx'] at hy;cases hy
     | some pa =>
      rw [hx'] at hy
      cases hy
      have hi:k < (qaY ns ss.length).length:=by rw [← hpl2];exact (List.getElem?_eq_some_iff.mp hx').1
      have gr:(qaY ns ss.length)[k]?=some (qaY ns ss.length)[k]:=List.getElem?_eq_getElem hi
      have gi:((qaY ns ss.length).map (zv ss ns))[k]?=some (zv ss ns (qaY ns ss.length)[k]):=by rw [List.getElem?_map,gr];rfl
      have epa:=(hps2.at_ k pa _ hx' gi).2.2
      generalize (qaY ns ss.length)[k]=kr at gi epa gr
      have htk:(qaY ns ss.length).take (k + 1)=(qaY ns ss.length).take k++[kr]:=by rw [List.take_add_one,gr];rfl
      walk_at "vc"
      refine qbC ?_
      walk_at "vc"
      refine qar epa ?_
      refine ⟨by rw [List.length_map,List.length_map];exact qh (by rw [List.length_take];omega),rfl,?_⟩
      rw [htk,List.map_append,List.map_append,List.length_map]
      rfl
    ·obtain ⟨rfl,rfl⟩:=hp
     have etk:(qaY ns ss.length).take (ps2.map V.ref).length=qaY ns ss.length:=by rw [List.length_map,hpl2,List.take_length]
     rw [etk]
     have esum:((qaY ns ss.length).map fun r=>((zv ss ns r).length:Int)).sum=((ss.length:Nat):Int):=by
      conv=>rhs;rw [← pieces_sum hw hG.adj]
      rw [← qcW,List.map_map]
      rfl
     refine ⟨by rw [List.length_map,List.length_map];exact Nat.le_of_lt (qh (by omega)),fun e he=>?_⟩
     have s7:=qE s6 (o:=.lst (((qaY ns ss.length).map fun r=>((zv ss ns r).length:Int)).map V.int)) he
     walk_at "vc"
     refine ⟨e,_,rfl,SqL.of qc,?_⟩
     rw [esum]
     walk_at "vc"
     refine qar (s7 _ _ hn) ?_
     rw [List.length_map]
     refine .inl (.inl (.inl ⟨rfl,rfl,?_⟩))
     have e3:(if false=true then !eqV (V.int (ss.length:Nat)) (V.int (ss.length:Nat)) else eqV (V.int (ss.length:Nat)) (V.int (ss.length:Nat)))=true:=by simp [eqV]
     rw [e3]
     exact q _ s7
end
abbrev zG:Stmt:=top 42
theorem sc_l_right:FnScope ["_law_web", "_law_names_here", "_law_ties_here", "_law_box_here", "_law_whole", "_law_some_here", "_law_thing_here", "_law_turn", "_law_pair", "_law_way", "_law_found", "_law_due"] ["_law_web", "_law_names_here", "_law_ties_here", "_law_box_here"] (qe zG):=⟨rfl,rfl,rfl,by decide +kernel,rfl,by decide +kernel,by decide +kernel⟩
theorem IsX.same {H H':Hp} {e C:Addr} {dx:Option Addr} (h:IsX H e C dx) (s:L2.Same H H'):IsX H' e C dx:=h.elim (fun z=>.inl (s _ _ z)) fun z=>.inr (s _ _ z)
theorem Got.same {cc:Nat→Addr} {cw:Addr} {H H':Hp} {a:Addr}:∀ {r:Res},Got cc cw H a r→L2.Same H H'→Got cc cw H' a r
 | .no _ _,⟨hi,dy,h1,h2⟩,s=>⟨hi,dy,IsX.same h1 s,s _ _ h2⟩
 | .tie _ _,⟨dy,t,h1,h2,h3⟩,s=>⟨dy,t,IsX.same h1 s,s _ _ h2,s _ _ h3⟩
 | .web _ _,⟨ns,h1,h2⟩,s=>⟨ns,h1.same s,h2⟩
theorem TL.less4 {p l:Addr} {H:Hp} {ts:List Addr} {tps:List (Str×Str)} (h:TL p H l ts tps) {i:Nat} {t:Addr} (g:ts[i]?=some t):∃ ab∈tps,PrT p H t ab:=by
 have hi:i < tps.length:=by rw [← h.2.2.len];exact (List.getElem?_eq_some_iff.mp g).1
 exact ⟨tps[i],List.getElem_mem hi,h.2.2.at_ i t _ g (List.getElem?_eq_getElem hi)⟩
def qgf (cw:Addr):Sp:=fun vs H Q _=>∃ (x n l p:Addr) (ss:List Str) (ns:List Nat) (ts:List Addr) (dps:List (Str×Str)),vs=[.ref x,.ref n,.ref l,.ref p]∧Box H p∧WebP (fun a=>a=p) cw H x ss ns∧WG ss ns dps∧NL p H n ss∧TL p H l ts dps∧∀ H',BB p H H'→Q (.bl true) H'
section
variable {P:Program} {w:World} {K:W.Frag} {mg:Str→Option Value} {base:Heap} {cc:Nat→Addr} {cw:Addr}
theorem ok_rt4 {f:Addr} {fd:FuncData} (F:Fun K "_law_right" "_law_right" zG f fd) (T:Txt K mg cc cw) (D_l_take:DefOk P w K mg base CX0 1 "_law_take" ["_law_box_here", "_law_many"] qaN)
  (D_l_told:DefOk P w K mg base CX0 8 "_law_told" ["_law_web", "_law_names_here", "_law_ties_here"] (qeF cw)) (D_l_some:DefOk P w K mg base CX0 3 "_law_some" ["_law_box_here", "_law_names_here"] qfq) (D_l_thing:DefOk P w K mg base CX0 3 "_law_thing" ["_law_box_here", "_law_names_here"] qeD)
  (D_l_same:DefOk P w K mg base CX0 1 "_law_same" ["_law_found", "_law_due"] qfp) (D_l_said:DefOk P w K mg base CX0 9 "_law_said" ["_law_told_here"] (qfn cc cw)) (D_l_asked:DefOk P w K mg base CX0 9 "_law_asked" ["_law_web", "_law_way", "_law_things"] (qge cc cw))
  (D_l_without_due:DefOk P w K mg base CX0 2 "_law_without_due" ["_law_names_here", "_law_ties_here", "_law_some_here"] qg5) (D_l_place_due:DefOk P w K mg base CX0 1 "_law_place_due" ["_law_names_here", "_law_ties_here", "_law_thing_here"] qg4) (D_l_tie_due:DefOk P w K mg base CX0 2 "_law_tie_due" ["_law_names_here", "_law_ties_here", "_law_way", "_law_pair"] qg6)
  (D_Web_told:MethOk P w K mg base CX0 8 cw "told" ["self"] (qds cw)):FnOk P w K mg base CX0 10 f fd ["_law_web", "_law_names_here", "_law_ties_here", "_law_box_here"] (qgf cw):=by
 refine F.ok sc_l_right (fun vs H Q E h=>?_) fun cdv A outer s H vs Q E hr h=>?_
 ·obtain ⟨x,n,l,p,ss,ns,ts,dps,rfl,_⟩:=h;rfl
 ·obtain ⟨x,n,l,p,ss,ns,ts,dps,rfl,hB,hWP,hG,hN,hL,q⟩:=h
  have hu:=zR hr
  have hw:=hWP.web.ok
  have hO:NOk ss:=⟨hw.few,hw.nd,hw.nm⟩
  have few:=hw.few
  have h30:=hG.tok.few
  have hdl:=hL.2.2.len
  have web:∀ {H'},BB p H H'→WebAt cw H' x ss ns:=fun b=>(hWP.keep fun c o hc e=>b.1 c o hc e).web
  obtain ⟨TC102,hTC102⟩:∃ t:TS,t=fun D σ H'=>(∀ x7 x8 x9 x10 x11 H'',BB p H' H''→D.nx [some (.ref x),some (.ref n),some (.ref l),some (.ref p),σ.getD 4 none,σ.getD 5 none,σ.getD 6 none,x7,x8,x9,x10,x11] H'')∧∃ x4 x5 x6 x7 x9 x10 x11 th v u,σ=[some (.ref x),some (.ref n),some (.ref l),some (.ref p),x4,x5,x6,x7,some (.ref th),x9,x10,x11]∧BB p H H'∧H' th=some (.tup [v,u])∧Th p H' 1 v∧Th p H' 1 u:=⟨_,rfl⟩
  refine ⟨_,(qd (qu (i:=4) sc_l_right.nd rfl (Or.inl rfl) (qG (qa (qI (jy (K:=K) rfl) rfl T.b_tuple boot_tuple (qa (pv 1) qb)) (qa (qI (jy (K:=K) rfl) rfl T.b_tuple boot_tuple (qa (pv 2) qb)) qb))))
 (qd (qF (jr (qP (qp D_l_told (hm hr) qx (qa (pv 0) (qa (pv 1) (qa (pv 2) qb)))))) (qf (qk zS)) qi)
 (qd (qu (i:=5) sc_l_right.nd rfl (Or.inl rfl) (qp D_l_some (hm hr) qx (qa (pv 3) (qa (pv 1) qb))))
 (qd (qF (jr (qP (qp D_l_same (hm hr) qx (qa (qp D_l_said (hm hr) qx (qa (qp D_l_asked (hm hr) qx (qa (pv 0) (qa qg (qa (qQ (qa (pv 5) qb)) qb)))) qb)) (qa (qp D_l_without_due (hm hr) qx (qa (pv 1) (qa (pv 2) (qa (pv 5) qb)))) qb))))) (qf (qk zS)) qi)
 (qd (qu (i:=6) sc_l_right.nd rfl (Or.inl rfl) (qp D_l_thing (hm hr) qx (qa (pv 3) (qa (pv 1) qb))))
 (qd (qF (jr (qP (qp D_l_same (hm hr) qx (qa (qp D_l_said (hm hr) qx (qa (qp D_l_asked (hm hr) qx (qa (pv 0) (qa qg (qa (qQ (qa (pv 6) qb)) qb)))) qb)) (qa (qp D_l_place_due (hm hr) qx (qa (pv 1) (qa (pv 2) (qa (pv 6) qb)))) qb))))) (qf (qk zS)) qi)
 (qd (jP PassesOwn.never rfl (jt rfl T.b_range (qa qg qb)) (qv (i:=7) sc_l_right.nd rfl (Or.inl rfl))
 (qd (qu (i:=8) sc_l_right.nd rfl (Or.inl rfl) (qG (qa (qp D_l_thing (hm hr) qx (qa (pv 3) (qa (pv 1) qb))) (qa (qp D_l_thing (hm hr) qx (qa (pv 3) (qa (pv 1) qb))) qb))))
 (qd (qF (PW.pt (qby (qo (zn (K:=K) rfl hu) (pv 7) qg (qy _)) (qaT (qo (zZ (K:=K) rfl hu) (pv 2) (qQ qb) (qy _))))) (qf (qu (i:=8) sc_l_right.nd rfl (Or.inl rfl) (pe_step (K:=K) rfl (qA (qB (K:=K) rfl hu) (pv 2) (qp D_l_take (hm hr) qx (qa (pv 3) (qa (qm (j7 (K:=K) rfl) rfl T.b_len boot_len (qa (pv 2) qb)) qb))) (fun _ _=>rfl)) (jF (qA (qB (K:=K) rfl hu) (qQ (qa qg (qa (qdH qbA qg) qb))) (qp D_l_take (hm hr) qx (qa (pv 3) (qa qg qb))) (fun _ _=>rfl)))))) qi)
 (qbs TC102 (qf (jP PassesOwn.never rfl (jh (K:=K) rfl (qQ (qa qg (qa qg qb)))) (qv (i:=9) sc_l_right.nd rfl (Or.inl rfl))
 (qd (qu (i:=10) sc_l_right.nd rfl (Or.inl rfl) (qp D_l_asked (hm hr) qx (qa (pv 0) (qa (pv 9) (qa (pv 8) qb)))))
 (qd (qu (i:=11) sc_l_right.nd rfl (Or.inl rfl) (qp D_l_tie_due (hm hr) qx (qa (pv 1) (qa (pv 2) (qa (pv 9) (qa (pv 8) qb))))))
 (qd (qF (jr (qP (qp D_l_same (hm hr) qx (qa (qp D_l_said (hm hr) qx (qa (pv 10) qb)) (qa (pv 11) qb))))) (qf (qk zS)) qi)
 (qf (qF (PW.pt (qby (qP (qm (zP (K:=K) rfl) rfl T.b_isinstance boot_isinstance (qa (pv 10) (qa (qat (v:=.ref (cw)) rfl T.m_Web rfl) qb)))) (qaT (jr (qP (qp D_l_told (hm hr) qx (qa (pv 10) (qa (qI (qbh (K:=K) rfl rfl) rfl T.b_list boot_list (qa (qA (qB (K:=K) rfl hu) (pv 11) qg (fun _ _=>rfl)) qb)) (qa (qI (qbh (K:=K) rfl rfl) rfl T.b_list boot_list (qa (qA (qB (K:=K) rfl hu) (pv 11) qg (fun _ _=>rfl)) qb)) qb))))))))) (qf (qk zS)) qi))))))) ?cut102))))
 (qf (qk (qa2 (jV (zn (K:=K) rfl hu) (qZ D_Web_told (hm hr) (pv 0)) (pv 4) (qy _)) (qba (qp D_l_told (hm hr) qx (qa (pv 0) (qa (pv 1) (qa (pv 2) qb))))))))))))))),?_⟩
  case cut102 =>
   intro D σ H1 h
   rw [hTC102] at h
   obtain ⟨hD,x4,x5,x6,x7,x9,x10,x11,th,v,u,rfl,b1,hth,hv,hu'⟩:=h
   have hD:∀ x7 x8 x9 x10 x11 H'',BB p H1 H''→D.nx [some (.ref x),some (.ref n),some (.ref l),some (.ref p),x4,x5,x6,x7,x8,x9,x10,x11] H'':=hD
   walk_at "vc"
   refine ⟨by show 2≤sizeLine;decide,fun wl hwl=>?_⟩
   have s12:=qE (L2.Same.refl H1) (o:=.lst [V.int 2,V.int 3]) hwl
   have ewl:upd H1 wl (.lst [V.int 2,V.int 3]) wl=some (.lst [V.int 2,V.int 3]):=qc
   generalize upd H1 wl (.lst [V.int 2,V.int 3])=H2 at s12 ewl ⊢
   refine .inl ⟨⟨_,SqL.of ewl⟩,qab (K:=K) (fun i σ H'=>L2.Same H2 H'∧∃ x9 x10 x11,σ=[some (.ref x),some (.ref n),some (.ref l),some (.ref p),x4,x5,x6,x7,some (.ref th),x9,x10,x11]) ⟨L2.Same.refl H2,x9,x10,x11,rfl⟩ (fun i σ H' _ hp=>SqL.of (hp.1 _ _ ewl)) (fun i y σ H3 hy hp=>?_) fun σ H3 hp=>?_⟩
   ·obtain ⟨s23,y9,y10,y11,rfl⟩:=hp
    have s3:=s12.trans s23
    have b3:=b1.same s3
    obtain ⟨way,r,rfl,hask,hrr⟩:∃ (way:Int) (r:Res),y=.int way∧Ask p H3 ss dps way th r∧((way=2∧r=qeJ ss dps v u)∨(way=3∧r=qeK ss dps v u)):=by
     match i,hy with
     | 0,hy=>exact ⟨2,_,(Option.some.inj hy).symm,.inr (.inr (.inl ⟨rfl,v,u,1,s3 _ _ hth,hv.same s3,hu'.same s3,rfl⟩)),.inl ⟨rfl,rfl⟩⟩
     | 1,hy=>exact ⟨3,_,(Option.some.inj hy).symm,.inr (.inr (.inr ⟨rfl,v,u,1,s3 _ _ hth,hv.same s3,hu'.same s3,rfl⟩)),.inr ⟨rfl,rfl⟩⟩
     | j + 2,hy=>simp at hy
    have hrth:RTh p H3 r:=by
     rcases hrr with ⟨_,rfl⟩ | ⟨_,rfl⟩
     ·exact res2_th (hv.same s3) (hu'.same s3)
     ·exact res3_th (hv.same s3) (hu'.same s3)
    walk_at "vc"
    refine ⟨p,x,th,way,ss,ns,dps,r,rfl,web b3,hG,hask,fun a H4 s34 hgot=>?_⟩
    have s4:=s3.trans s34
    have b4:=b1.same s4
    walk_at "vc"
    refine ⟨p,n,l,th,1,way,ss,ts,dps,v,u,rfl,(hN.bb b4).1,hO,(hL.bb b4).pl,hG.tok,s4 _ _ hth,hv.same s4,hu'.same s4,?_⟩
    have fold:∀ {G:Addr→Hp→Prop},(∀ t H',L2.Same H4 H'→Says H' t r→G t H')→(way=2∧∀ t H',L2.Same H4 H'→Says H' t (qeJ ss dps v u)→G t H')∨(way=3∧∀ t H',L2.Same H4 H'→Says H' t (qeK ss dps v u)→G t H'):=fun h=>by
     rcases hrr with ⟨rfl,rfl⟩ | ⟨rfl,rfl⟩
     ·exact .inl ⟨rfl,h⟩
     ·exact .inr ⟨rfl,h⟩
    refine fold fun t H5 s45 hsay=>?_
    have hgot5:=hgot.same s45
    have s24:=s23.trans s34
    walk_at "vc"
    refine ⟨a,r,rfl,hgot5,fun t2 H6 s56 hs2=>?_⟩
    have s46:=s45.trans s56
    have s26:=s24.trans s46
    have hgot6:=hgot5.same s56
    have hsay6:=hsay.same s56
    walk_at "vc"
    refine ⟨p,t2,t,r,rfl,hs2,hsay6,hrth.same (s34.trans s46),?_⟩
    walk_at "vc"
    refine qD (fun h=>by cases h) fun _=>?_
    walk_at "vc"
    cases r with
    | no i0 y0 =>
     obtain ⟨hi,dy,hX,hy'⟩:=hgot6
     have ty:TyX K H6 (.ref a) (.ref (cc i0)):=.inr ⟨a,cc i0,some dy,rfl,rfl,hX,T.xat i0 (by omega),fun d hd=>by cases hd;exact ⟨_,hy'⟩⟩
     refine zy ty rfl (T.kitXW i0 hi) ?_
     walk_at "vc"
     refine qD (fun h=>by cases h) fun _=>?_
     refine qD (fun h=>by cases h) fun _=>?_
     exact ⟨s26,_,_,_,rfl⟩
    | tie v0 u0 =>
     obtain ⟨dy,t0,hX,hy',_⟩:=hgot6
     have ty:TyX K H6 (.ref a) (.ref (cc 3)):=.inr ⟨a,cc 3,some dy,rfl,rfl,hX,T.xat 3 (by decide),fun d hd=>by cases hd;exact ⟨_,hy'⟩⟩
     refine zy ty rfl (T.kitXW 3 (by decide)) ?_
     walk_at "vc"
     refine qD (fun h=>by cases h) fun _=>?_
     refine qD (fun h=>by cases h) fun _=>?_
     exact ⟨s26,_,_,_,rfl⟩
    | web ss' dps' =>
     obtain ⟨ns',hW',hG'⟩:=hgot6
     obtain ⟨dx',d',ol',n',hx',_⟩:=id hW'
     obtain ⟨t1,t2',us,e0,e1,e2,eall⟩:=hsay6
     refine zy (.inl (T.tyW H6 a dx' _ hx')) rfl T.kitW ?_
     walk_at "vc"
     refine qbC ?_
     walk_at "vc"
     refine .inl (qaR e0 rfl ?_)
     walk_at "vc"
     refine .inl ⟨t1,_,rfl,.inr (SqT.of e1),fun n1 hn1=>?_⟩
     have s67:=qE (L2.Same.refl H6) (o:=.lst (ss'.map V.str)) hn1
     have en1:upd H6 n1 (.lst (ss'.map V.str)) n1=some (.lst (ss'.map V.str)):=qc
     generalize upd H6 n1 (.lst (ss'.map V.str))=H7 at s67 en1 ⊢
     walk_at "vc"
     refine .inl (qaR (s67 _ _ e0) rfl ?_)
     walk_at "vc"
     refine .inl ⟨t2',_,rfl,.inr (SqT.of (s67 _ _ e2)),fun l1 hl1=>?_⟩
     have s78:=qE (L2.Same.refl H7) (o:=.lst (us.map V.ref)) hl1
     have el1:upd H7 l1 (.lst (us.map V.ref)) l1=some (.lst (us.map V.ref)):=qc
     generalize upd H7 l1 (.lst (us.map V.ref))=H8 at s78 el1 ⊢
     have s68:=s67.trans s78
     walk_at "vc"
     refine ⟨a,n1,l1,ss',ns',us,dps',rfl,hW'.same s68,hG',s78 _ _ en1,⟨el1,eall.mono fun _ _ z=>s68 _ _ z⟩,fun H9 s89=>?_⟩
     walk_at "vc"
     refine qD (fun h=>by cases h) fun _=>?_
     exact ⟨s26.trans (s68.trans s89),_,_,_,rfl⟩
   ·obtain ⟨s23,y9,y10,y11,rfl⟩:=hp
    exact hD _ _ _ _ _ _ ((BB.refl b1.2).same (s12.trans s23))
  walk_at "vc"
  refine ⟨n,_,rfl,.inl ⟨SqL.of hN.1,fun t1 h1=>?_⟩⟩
  have b1:=(BB.refl hB).new (o:=.tup (ss.map V.str)) h1
  have n1:=hB.apart h1
  have e1:upd H t1 (.tup (ss.map V.str)) t1=some (.tup (ss.map V.str)):=qc
  generalize upd H t1 (.tup (ss.map V.str))=H1 at b1 e1 ⊢
  walk_at "vc"
  refine ⟨l,_,rfl,.inl ⟨SqL.of (hL.bb b1).1,fun t2 h2=>?_⟩⟩
  have b2:=b1.new (o:=.tup (ts.map V.ref)) h2
  have n2:=b1.apart h2
  have s12:=qE (L2.Same.refl H1) (o:=.tup (ts.map V.ref)) h2
  have e2:upd H1 t2 (.tup (ts.map V.ref)) t2=some (.tup (ts.map V.ref)):=qc
  replace e1:=s12 _ _ e1
  generalize upd H1 t2 (.tup (ts.map V.ref))=H2 at b2 e1 e2 ⊢
  clear s12
  walk_at "vc"
  refine ⟨by show 2≤sizeLine;decide,fun t0 h0=>?_⟩
  have b3:=b2.new (o:=.tup [V.ref t1,V.ref t2]) h0
  have n0:=b2.apart h0
  have s23:=qE (L2.Same.refl H2) (o:=.tup [V.ref t1,V.ref t2]) h0
  have e0:upd H2 t0 (.tup [V.ref t1,V.ref t2]) t0=some (.tup [V.ref t1,V.ref t2]):=qc
  replace e1:=s23 _ _ e1
  replace e2:=s23 _ _ e2
  generalize upd H2 t0 (.tup [V.ref t1,V.ref t2])=H3 at b3 e1 e2 e0 ⊢
  clear s23
  have whole:∀ {H'},BB p H3 H'→Says H' t0 (.web ss dps):=fun b=>⟨t1,t2,ts,b.1 _ _ n0 e0,b.1 _ _ n1 e1,b.1 _ _ n2 e2,(hL.bb (b3.trans b)).pl.2⟩
  walk_at "vc"
  refine ⟨x,n,l,ss,ns,ts,dps,rfl,web b3,hG,(hN.bb b3).1,(hL.bb b3).pl,fun H4 s34=>?_⟩
  have c4:=(BB.refl b3.2).same s34
  have b4:=b3.trans c4
  walk_at "vc"
  refine qD (fun h=>by cases h) fun _=>?_
  walk_at "vc"
  refine ⟨p,n,ss,rfl,b4.2,hN.bb b4,hO,fun sm o H5 b45 hsm=>?_⟩
  have b5:=b4.trans b45
  have c5:=c4.trans b45
  walk_at "vc"
  refine ⟨by show 1≤sizeLine;decide,fun a1 ha1=>?_⟩
  have s56:=qE (L2.Same.refl H5) (o:=.lst [sm]) ha1
  have ea1:upd H5 a1 (.lst [sm]) a1=some (.lst [sm]):=qc
  generalize upd H5 a1 (.lst [sm])=H6 at s56 ea1 ⊢
  have b6:=b5.same s56
  walk_at "vc"
  refine ⟨p,x,a1,0,ss,ns,dps,_,rfl,web b6,hG,.inl ⟨rfl,sm,o,ea1,hsm.same s56,rfl⟩,fun fa H7 s67 hg7=>?_⟩
  walk_at "vc"
  refine ⟨fa,_,rfl,hg7,fun ft H8 s78 hs8=>?_⟩
  have s58:=s56.trans (s67.trans s78)
  have b8:=b5.same s58
  walk_at "vc"
  refine ⟨p,n,l,ss,ts,dps,sm,o,rfl,(hN.bb b8).1,hO,(hL.bb b8).pl,h30,hsm.same s58,fun dt H9 s89 hd9=>?_⟩
  walk_at "vc"
  have s59:=s58.trans s89
  refine ⟨p,ft,dt,_,rfl,hs8.same s89,hd9,res0_th (hsm.same s59),?_⟩
  have b9:=b5.same s59
  have c9:=c5.same s59
  walk_at "vc"
  refine qD (fun h=>by cases h) fun _=>?_
  clear hd9 hs8 hg7 s67 s78 s89 s56 s58 s59 ea1 b8 b6
  walk_at "vc"
  refine ⟨p,n,ss,rfl,b9.2,hN.bb b9,hO,fun tg HA b9A htg hodd=>?_⟩
  have bA:=b9.trans b9A
  have cA:=c9.trans b9A
  walk_at "vc"
  refine ⟨by show 1≤sizeLine;decide,fun a1 ha1=>?_⟩
  have s56:=qE (L2.Same.refl HA) (o:=.lst [tg]) ha1
  have ea1:upd HA a1 (.lst [tg]) a1=some (.lst [tg]):=qc
  generalize upd HA a1 (.lst [tg])=HB at s56 ea1 ⊢
  have b6:=bA.same s56
  walk_at "vc"
  refine ⟨p,x,a1,1,ss,ns,dps,_,rfl,web b6,hG,.inr (.inl ⟨rfl,tg,1,ea1,htg.same s56,rfl⟩),fun fa HC s67 hg7=>?_⟩
  walk_at "vc"
  refine ⟨fa,_,rfl,hg7,fun ft HD s78 hs8=>?_⟩
  have s58:=s56.trans (s67.trans s78)
  have b8:=bA.same s58
  walk_at "vc"
  refine ⟨p,n,l,1,ss,ts,dps,tg,rfl,(hN.bb b8).1,few,(hL.bb b8).pl,h30,htg.same s58,hodd,fun dt HE s89 hd9=>?_⟩
  walk_at "vc"
  have s59:=s58.trans s89
  refine ⟨p,ft,dt,_,rfl,hs8.same s89,hd9,res1_th (htg.same s59),?_⟩
  have bE:=bA.same s59
  have cE:=cA.same s59
  walk_at "vc"
  refine qD (fun h=>by cases h) fun _=>?_
  clear hd9 hs8 hg7 s67 s78 s89 s56 s58 s59 ea1 b8 b6
  walk_at "vc"
  refine ⟨3,rfl,by decide,by decide,j6 (fun i σ H'=>BB p H3 H'∧∃ x7 x8 x9 x10 x11,σ=[some (.ref x),some (.ref n),some (.ref l),some (.ref p),some (.ref t0),some sm,some tg,x7,x8,x9,x10,x11]) ⟨cE,none,none,none,none,none,rfl⟩ (fun i σ H1 hi hp=>?_) fun σ H1 hp=>?_⟩
  ·obtain ⟨c1,x7,x8,x9,x10,x11,rfl⟩:=hp
   have d1:=b3.trans c1
   walk_at "vc"
   refine ⟨p,n,ss,rfl,d1.2,hN.bb d1,hO,fun v H4 b14 hv _=>?_⟩
   have d4:=d1.trans b14
   walk_at "vc"
   refine ⟨p,n,ss,rfl,d4.2,hN.bb d4,hO,fun u H5 b45 hu' _=>?_⟩
   have d5:=d4.trans b45
   have hv5:=hv.bb b45
   walk_at "vc"
   refine ⟨by show 2≤sizeLine;decide,fun th hth0=>?_⟩
   have s56:=qE (L2.Same.refl H5) (o:=.tup [v,u]) hth0
   have eth:upd H5 th (.tup [v,u]) th=some (.tup [v,u]):=qc
   have hv6:=hv5.same s56
   have hu6:=hu'.same s56
   have d6:=d5.same s56
   have c6:=(c1.trans (b14.trans b45)).same s56
   generalize upd H5 th (.tup [v,u])=H6 at s56 eth hv6 hu6 d6 c6 ⊢
   clear s56
   walk_at "vc"
   refine .inl (.inl (.inl ⟨rfl,rfl,?_⟩))
   walk_at "vc"
   refine qD (fun h=>?_) fun h=>?_
   ·walk_at "vc"
    refine ⟨by decide,fun z hz=>?_⟩
    have s67:=qE (L2.Same.refl H6) (o:=.lst []) hz
    have ez:upd H6 z (.lst []) z=some (.lst []):=qc
    have hv7:=hv6.same s67
    have hu7:=hu6.same s67
    have d7:=d6.same s67
    have c7:=c6.same s67
    have eth7:=s67 _ _ eth
    generalize upd H6 z (.lst [])=H7 at ez hv7 hu7 d7 c7 eth7 ⊢
    clear s67
    have hL7:=hL.bb d7
    refine qdw hL7.1 ez ?_
    walk_at "vc"
    refine qD (fun h=>?_) fun h=>?_
    ·have hne:ts≠[]:=fun e=>by rw [e] at h;cases h
     have hpos:=List.length_pos_iff.mpr hne
     walk_at "vc"
     refine qar hL7.1 ?_
     rw [List.length_map]
     walk_at "vc"
     refine ⟨p,_,rfl,d7.2,by omega,by omega,fun j H8 j0 j1 b78=>?_⟩
     have hL8:=hL7.bb b78
     obtain ⟨y,iy,hy⟩:=qas (xs:=ts.map V.ref) j0 (by rw [List.length_map];exact j1)
     rw [List.getElem?_map] at hy
     cases hx':ts[j.toNat]? with
     | none=>rw [hx'] at hy;cases hy
     | some t =>
      rw [hx'] at hy
      cases hy
      refine .inl (zX hL8.1 iy ?_)
      obtain ⟨ab,hab,ht⟩:=hL8.less4 hx'
      obtain ⟨j1',k1',_,g1,g2⟩:=hG.tok.ok ab hab
      have na:=hw.nm _ (List.mem_of_getElem? g1)
      have nb:=hw.nm _ (List.mem_of_getElem? g2)
      have d8:=d7.trans b78
      have c8:=c7.trans b78
      walk_at "vc"
      refine vU ?_
      walk_at "vc"
      refine ⟨by show 2≤sizeLine;decide,fun m hm=>?_⟩
      have nm:=d8.apart hm
      have s89:=qE (L2.Same.refl H8) (o:=.lst [V.int 1,V.int (-1)]) hm
      have em:upd H8 m (.lst [V.int 1,V.int (-1)]) m=some (.lst [V.int 1,V.int (-1)]):=qc
      have d9:=d8.same s89
      have c9:=c8.same s89
      generalize upd H8 m (.lst [V.int 1,V.int (-1)])=H9 at em d9 c9 s89 ⊢
      have ht9:PrT p H9 t ab:=⟨ht.1,s89 _ _ ht.2⟩
      clear s89
      walk_at "vc"
      refine ⟨p,2,rfl,d9.2,by decide,by decide,fun i2 HF i20 i21 b9F=>?_⟩
      have dF:=d9.trans b9F
      have cF:=c9.trans b9F
      have htF:HF t=some (.tup [.str ab.1,.str ab.2]):=b9F.1 _ _ ht9.1 ht9.2
      obtain ⟨y,iy,hy⟩:=qas (xs:=[V.int 1,V.int (-1)]) i20 (by show i2 < 2;omega)
      refine .inl (zX (b9F.1 _ _ nm em) iy ?_)
      have hy':=List.mem_of_getElem? hy
      simp only [List.mem_cons,List.not_mem_nil,or_false] at hy'
      rcases hy' with rfl | rfl
      ·refine ⟨1,rfl,t,_,_,rfl,SqT.of htF,.inr ⟨rfl,?_⟩⟩
       walk_at "vc"
       rw [hTC102]
       refine ⟨fun y7 y8 y9 y10 y11 H8 b8=>?_,_,_,_,_,_,_,_,t,_,_,rfl,dF,htF,zd na,zd nb⟩
       exact ⟨cF.trans b8,_,_,_,_,_,rfl⟩
      ·refine ⟨-1,rfl,t,_,_,rfl,SqT.of htF,.inl ⟨rfl,fun t' ht'=>?_⟩⟩
       have sG:=qE (L2.Same.refl HF) (o:=.tup [.str ab.2,.str ab.1]) ht'
       walk_at "vc"
       rw [hTC102]
       refine ⟨fun y7 y8 y9 y10 y11 H8 b8=>?_,_,_,_,_,_,_,_,t',_,_,rfl,dF.same sG,qc,zd nb,zd na⟩
       exact ⟨(cF.same sG).trans b8,_,_,_,_,_,rfl⟩
    ·walk_at "vc"
     rw [hTC102]
     refine ⟨fun y7 y8 y9 y10 y11 H8 b8=>?_,_,_,_,_,_,_,_,th,v,u,rfl,d7,eth7,hv7,hu7⟩
     exact ⟨c7.trans b8,_,_,_,_,_,rfl⟩
   ·refine qD (fun h=>by cases h) fun _=>?_
    walk_at "vc"
    rw [hTC102]
    refine ⟨fun y7 y8 y9 y10 y11 H8 b8=>?_,_,_,_,_,_,_,_,th,v,u,rfl,d6,eth,hv6,hu6⟩
    exact ⟨c6.trans b8,_,_,_,_,_,rfl⟩
  ·obtain ⟨c1,x7,x8,x9,x10,x11,rfl⟩:=hp
   have d1:=b3.trans c1
   have hW1:=web d1
   obtain ⟨dx,d,ol,on,hx,_⟩:=id hW1
   walk_at "vc"
   refine ⟨x,dx,_,rfl,hx,js (by decide +kernel),?_⟩
   walk_at "vc"
   refine ⟨x,ss,ns,rfl,hW1,fun u0 u1 u2 lz us H4 s14 f0 f1 f2 hall=>?_⟩
   rw [hG.due] at hall
   have c4:=c1.same s14
   have d4:=b3.trans c4
   have hs1:Says H4 u0 (.web ss dps):=⟨u1,u2,us,f0,f1,f2,hall.mono fun _ _ z=>z.2.2⟩
   obtain ⟨m,hm,he⟩:=hs1.eqT (K:=K) (p:=p) (whole c4) True.intro
   walk_at "vc"
   refine .inl (.inl (.inr (.inl ⟨u0,t0,true,m,rfl,rfl,hm,he,?_⟩)))
   walk_at "vc"
   refine qbC ?_
   walk_at "vc"
   exact ⟨x,n,l,ss,ns,ts,dps,rfl,web d4,hG,(hN.bb d4).1,(hL.bb d4).pl,fun H5 s45=>q H5 (d4.same s45)⟩
end
abbrev qbt:Stmt:=top 43
theorem sc_law:FnScope ["_law_script", "_law_k", "_law_box_here", "_law_names_here", "_law_drawn_here", "_law_ties_here", "_law_web", "_law_fresh_here", "_law_other", "_law_less", "_law_left", "_law_full", "_law_some_here", "_law_one"] ["_law_script"] (qe qbt):=⟨rfl,rfl,rfl,by decide +kernel,rfl,by decide +kernel,by decide +kernel⟩
theorem keep_fresh {ss:List Str} {s:Str} (h:s∉ss):ze (ss++[s]) [V.str s]=ss:=by
 unfold ze
 rw [List.filter_append]
 have e1:(ss.filter fun x=>!decide (x∈[V.str s].map qC))=ss:=List.filter_eq_self.mpr fun x hx=>by
  have:x≠s:=fun e=>h (e ▸ hx)
  simpa [qC] using this
 have e2:([s].filter fun x=>!decide (x∈[V.str s].map qC))=[]:=by simp [qC]
 rw [e1,e2,List.append_nil]
theorem keepT_all {ss:List Str} {dps:List (Str×Str)} (h:TOk ss dps):zf dps ss=dps:=List.filter_eq_self.mpr fun t ht=>by
 obtain ⟨j,k,_,g1,g2⟩:=h.ok t ht
 rw [decide_eq_true (List.mem_of_getElem? g1),decide_eq_true (List.mem_of_getElem? g2)]
 rfl
theorem qa1 {ss:List Str}:∀ {qs:List Str},(∀ s∈qs,s∈ss∧jC s=true)→qa0 ss (qs.map V.str)=none
 | [],_=>rfl
 | s::r,h=>by
  have hs:=h s List.mem_cons_self
  show (if qt ss (.str s)=true then qa0 ss (r.map V.str) else some (.str s))=none
  rw [if_pos (qah hs.1 hs.2)]
  exact qa1 fun x hx=>h x (List.mem_cons_of_mem _ hx)
theorem keep_first {ss:List Str} (hn:ss.Nodup):ze ss ((ss.take 1).map V.str)=ss.drop 1:=by
 unfold ze
 rw [qbq]
 cases ss with
 | nil=>rfl
 | cons s r =>
  obtain ⟨h1,_⟩:=List.nodup_cons.mp hn
  show (s::r).filter _=r
  rw [List.filter_cons_of_neg (by simp)]
  exact List.filter_eq_self.mpr fun x hx=>by
   have:x≠s:=fun e=>h1 (e ▸ hx)
   simpa using this
theorem qdG {ss:List Str} (hn:ss.Nodup) {s:Str} (hs:s∈ss):(s∈ss.drop 1)↔¬ s∈ss.take 1:=by
 cases ss with
 | nil=>cases hs
 | cons a r =>
  obtain ⟨h1,_⟩:=List.nodup_cons.mp hn
  show s∈r↔¬ s∈[a]
  rw [List.mem_singleton]
  constructor
  ·intro h e;exact h1 (e ▸ h)
  ·intro h;exact (List.mem_cons.mp hs).resolve_left h
def qdO (ss:List Str) (dps:List (Str×Str)):List (Str×Str):=dps.filter fun t=>!decide (t.1∈ss.take 1)&&!decide (t.2∈ss.take 1)
theorem left_keep {ss:List Str} {dps:List (Str×Str)} (hn:ss.Nodup) (h:TOk ss dps):qdO ss dps=zf dps (ss.drop 1):=by
 unfold qdO zf
 refine List.filter_congr fun t ht=>?_
 obtain ⟨j,k,_,g1,g2⟩:=h.ok t ht
 have e1:=qdG hn (List.mem_of_getElem? g1)
 have e2:=qdG hn (List.mem_of_getElem? g2)
 rw [Bool.eq_iff_iff]
 simp only [Bool.and_eq_true,Bool.not_eq_true',decide_eq_false_iff_not,decide_eq_true_iff,e1,e2]
def fullS:List Str:=("abcdefghijklmn":Str).cps.toList.map fun c=>⟨#[c]⟩
def qeG (i:Nat):List (Str×Str):=(List.range (8 - i)).map fun j=>(fullS.getD i "",fullS.getD (i + 1 + j) "")
def qb2 (i:Nat):List (Str×Str):=(List.range i).flatMap qeG
def qbu:List (Str×Str):=(qb2 9).take 30
theorem fullS_ok:NOk fullS:=⟨by decide +kernel,by decide +kernel,by decide +kernel⟩
theorem fullS_len:fullS.length=14:=by decide +kernel
theorem full30_ris:jd fullS qbu fullS=qbu:=by decide +kernel
theorem qaQ {i:Nat} (h:i < 14):fullS[i]?=some (fullS.getD i ""):=by
 rw [List.getD_eq_getElem?_getD,List.getElem?_eq_getElem (by rw [fullS_len];exact h)]
 rfl
theorem qcG:TOk fullS qbu:=⟨by decide +kernel,fun ab h=>by
 have h:ab∈qb2 9:=List.mem_of_mem_take h
 unfold qb2 at h
 obtain ⟨i,hi,h⟩:=List.mem_flatMap.mp h
 unfold qeG at h
 obtain ⟨j,hj,rfl⟩:=List.mem_map.mp h
 have hi:=List.mem_range.mp hi
 have hj:=List.mem_range.mp hj
 exact ⟨i,i + 1 + j,by omega,qaQ (by omega),qaQ (by omega)⟩,by decide +kernel⟩
theorem qbL (i:Nat):qb2 (i + 1)=qb2 i++qeG i:=by
 unfold qb2
 rw [List.range_succ,List.flatMap_append]
 simp
theorem qcH:∀ i,i≤9→(qb2 i).length≤i * 8
 | 0,_=>by simp [qb2]
 | i + 1,h=>by
  rw [qbL,List.length_append]
  have:=qcH i (by omega)
  have h2:(qeG i).length≤8:=by unfold qeG;rw [List.length_map,List.length_range];omega
  omega
theorem All2.app {α β:Type} {R:α→β→Prop} {l1 l2:List α} {m1 m2:List β} (h1:All2 R l1 m1) (h2:All2 R l2 m2):All2 R (l1++l2) (m1++m2):=by
 refine ⟨by rw [List.length_append,List.length_append,h1.len,h2.len],fun k a b ha hb=>?_⟩
 by_cases hk:k < l1.length
 ·rw [List.getElem?_append_left hk] at ha
  rw [List.getElem?_append_left (by rw [← h1.len];exact hk)] at hb
  exact h1.at_ k a b ha hb
 ·rw [List.getElem?_append_right (by omega)] at ha
  rw [List.getElem?_append_right (by rw [← h1.len];omega),← h1.len] at hb
  exact h2.at_ _ a b ha hb
theorem All2.take {α β:Type} {R:α→β→Prop} {l:List α} {m:List β} (h:All2 R l m) (n:Nat):All2 R (l.take n) (m.take n):=by
 refine ⟨by rw [List.length_take,List.length_take,h.len],fun k a b ha hb=>?_⟩
 rw [List.getElem?_take] at ha hb
 split at ha
 ·rename_i hk
  rw [if_pos hk] at hb
  exact h.at_ k a b ha hb
 ·cases ha
theorem vRng2 {tas:TA} {σ:L2.St} {H:Hp} {R:It→Hp→Prop} (h:tas σ H fun vs H1=>∃ i j:Int,vs=[.int i,.int j]∧(-(2 ^ 62)≤i∧i < 2 ^ 62∧-(2 ^ 62)≤j∧j < 2 ^ 62)∧R (Itr i (j - i).toNat) H1):qfO tas σ H R:=h
theorem WebAt.fresh {cw x p:Addr} {H:Hp} {ss:List Str} {ns:List Nat} (h:WebAt cw H x ss ns) (hp:H p=none):WebP (fun a=>a=p) cw H x ss ns:=by
 obtain ⟨dx,d,ol,n,h1,h2,h3,h4,h5⟩:=h
 have nx:∀ {a:Addr} {o:HO},H a=some o→¬ a=p:=fun e z=>by rw [z,hp] at e;cases e
 exact ⟨dx,d,ol,n,h1,h2,h3,h4,h5,nx h1,nx h2,nx h3,nx h4⟩
theorem WebP.same {A:Addr→Prop} {cw x:Addr} {H H':Hp} {ss:List Str} {ns:List Nat} (h:WebP A cw H x ss ns) (s:L2.Same H H'):WebP A cw H' x ss ns:=h.keep fun b o _ e=>s b o e
section
variable {P:Program} {w:World} {K:W.Frag} {mg:Str→Option Value} {base:Heap} {cc:Nat→Addr} {cw:Addr}
theorem ok_law4 {f:Addr} {fd:FuncData} (F:Fun K "law" "law" qbt f fd) (T:Txt K mg cc cw) (D_l_cell:DefOk P w K mg base CX0 1 "_law_cell" ["_law_script", "_law_k"] (qfj K)) (D_l_box:DefOk P w K mg base CX0 1 "_law_box" ["_law_cell_here"] qf9)
  (D_l_drawn:DefOk P w K mg base CX0 3 "_law_drawn" ["_law_box_here", "_law_most"] qet) (D_l_shuffled:DefOk P w K mg base CX0 2 "_law_shuffled" ["_law_box_here", "_law_ties_here"] qfl) (D_l_rising:DefOk P w K mg base CX0 1 "_law_rising" ["_law_names_here", "_law_ties_here"] qfF)
  (D_l_fresh:DefOk P w K mg base CX0 1 "_law_fresh" ["_law_names_here"] qbo) (QD_Web:MakeOk P w K mg base CX0 5 cw "Web" ["self", "names", "ties"] (fun vs H Q _=>qbx cc cw vs H Q E0)) (D_l_right:DefOk P w K mg base CX0 10 "_law_right" ["_law_web", "_law_names_here", "_law_ties_here", "_law_box_here"] (qgf cw))
  (QD_Web_without:MethOk P w K mg base CX0 8 cw "without" ["self", "places"] (fun vs H Q _=>qez cc cw vs H Q E0)) (QD_Web_with_place:MethOk P w K mg base CX0 8 cw "with_place" ["self", "place"] (fun vs H Q _=>qfG cc cw vs H Q E0)) (D_Web_told:MethOk P w K mg base CX0 8 cw "told" ["self"] (qds cw)):FnOk P w K mg base CX0 11 f fd ["_law_script"] (qeU K):=by
 refine F.ok sc_law (fun vs H Q E h=>?_) fun cdv A outer s H vs Q E hr h=>?_
 ·obtain ⟨a,ns,rfl,_⟩:=h;rfl
 ·obtain ⟨a,nz,rfl,hS,hlen,q⟩:=h
  have hu:=zR hr
  obtain ⟨TC107,hTC107⟩:∃ t:TS,t=fun D σ H'=>(∀ x1 x2 x3 x4 x5 x6 x7 x8 x9 x10 H'',L2.Same H H''→D.nx [some (.ref a),x1,x2,x3,x4,x5,x6,x7,x8,x9,x10,none,none,none] H'')∧∃ x1 p n x4 l x x7 x8 x9 x10 ss ns ts dps,σ=[some (.ref a),x1,some (.ref p),some (.ref n),x4,some (.ref l),some (.ref x),x7,x8,x9,x10,none,none,none]∧L2.Same H H'∧H p=none∧Box H' p∧WebP (fun a=>a=p) cw H' x ss ns∧WG ss ns dps∧NL p H' n ss∧TL p H' l ts dps:=⟨_,rfl⟩
  refine ⟨_,(qd (jP PassesOwn.never rfl (jt rfl T.b_range (qa (qm (call_max2 rfl) rfl T.b_max boot_max (qa qg (qa (qm (call_min2 rfl) rfl T.b_min boot_min (qa qg (qa (qm (j7 (K:=K) rfl) rfl T.b_len boot_len (qa (pv 0) qb)) qb))) qb))) qb)) (qv (i:=1) sc_law.nd rfl (Or.inl rfl))
 (qd (qu (i:=2) sc_law.nd rfl (Or.inl rfl) (qp D_l_box (hm hr) qx (qa (qp D_l_cell (hm hr) qx (qa (pv 0) (qa (pv 1) qb))) qb)))
 (qd (qbb (qp D_l_drawn (hm hr) qx (qa (pv 2) (qa (qA (qB (K:=K) rfl hu) (qQ (qa qg (qa qg qb))) (qI call_int1 rfl T.b_int boot_int (qa (jV (zn (K:=K) rfl hu) (pv 1) qg (qy _)) qb)) (fun _ _=>rfl)) qb))) (qeX rfl (qa5 (qv (i:=3) sc_law.nd rfl (Or.inr rfl)) (qa5 (qv (i:=4) sc_law.nd rfl (Or.inl rfl)) qdS))))
 (qd (qu (i:=5) sc_law.nd rfl (Or.inl rfl) (qp D_l_rising (hm hr) qx (qa (pv 3) (qa (pv 4) qb))))
 (qd (qu (i:=6) sc_law.nd rfl (Or.inl rfl) (qdh QD_Web (hm hr) (qa (pv 3) (qa (qp D_l_shuffled (hm hr) qx (qa (pv 2) (qa (pv 5) qb))) qb))))
 (qd (qF (jr (qP (qp D_l_right (hm hr) qx (qa (pv 6) (qa (pv 3) (qa (pv 5) (qa (pv 2) qb))))))) (qf (qk zS)) qi)
 (qd (qu (i:=7) sc_law.nd rfl (Or.inl rfl) (qp D_l_fresh (hm hr) qx (qa (pv 3) qb)))
 (qd (qF (qo qdI (qm (j7 (K:=K) rfl) rfl T.b_len boot_len (qa (pv 3) qb)) qg (qy _)) (qd (qu (i:=8) sc_law.nd rfl (Or.inl rfl) (jT QD_Web_with_place (hm hr) (pv 6) (qa (pv 7) qb)))
 (qf (qF (PW.pt (qbv (jr (qP (qp D_l_right (hm hr) qx (qa (pv 8) (qa (qL (zu (K:=K) rfl) (pv 3) (qQ (qa (pv 7) qb))) (qa (pv 5) (qa (pv 2) qb))))))) (qaB (qo (zZ (K:=K) rfl hu) (qZ D_Web_told (hm hr) (jT QD_Web_without (hm hr) (pv 8) (qa (qG (qa (pv 7) qb)) qb))) (qZ D_Web_told (hm hr) (pv 6)) (qy _))))) (qf (qk zS)) qi))) qi)
 (qbs TC107 (qd (qu (i:=9) sc_law.nd rfl (Or.inl rfl) (jT QD_Web_without (hm hr) (pv 6) (qa (j2 (qeH (K:=K) rfl) (pv 3) zr (jF qg)) qb)))
 (qd (qaw (sc:=qe qbt) (XN:=["_law_script", "_law_k", "_law_box_here", "_law_names_here", "_law_drawn_here", "_law_ties_here", "_law_web", "_law_fresh_here", "_law_other", "_law_less", "_law_left", "_law_full", "_law_some_here", "_law_one"]) ["_law_tie", "_law_names_here"] 1 [3] rfl rfl rfl (by decide +kernel) rfl (by decide +kernel) (i:=10) sc_law.nd rfl rfl
  (jh (K:=K) rfl (pv 5)) (fun _ _ _ _=>(qv (i:=0) (show (["_law_tie", "_law_names_here"]:List Str).Nodup by decide +kernel) rfl (Or.inl rfl))) je
  (fun _ _ _ _=>(jx (PW.pt (qby (qo (qaf (K:=K) rfl hu) (qA (qB (K:=K) rfl hu) (pv 0) qg (fun _ _=>rfl)) (j2 (qeH (K:=K) rfl) (pv 1) zr (jF qg)) (by with_unfolding_all rfl)) (qaT (qo (qaf (K:=K) rfl hu) (qA (qB (K:=K) rfl hu) (pv 0) qg (fun _ _=>rfl)) (j2 (qeH (K:=K) rfl) (pv 1) zr (jF qg)) (by with_unfolding_all rfl)))))))
  (fun _ _ _ _=>(pv 0)))
 (qf (qF (jr (qP (qp D_l_right (hm hr) qx (qa (pv 9) (qa (j2 (qeH (K:=K) rfl) (pv 3) (jF qg) zr) (qa (pv 10) (qa (pv 2) qb))))))) (qf (qk zS)) qi)))) ?cut107)))))))))
 (qd (qu (i:=11) sc_law.nd rfl (Or.inr rfl) (qI (qbh (K:=K) rfl rfl) rfl T.b_list boot_list (qa jj qb)))
 (qd (qu (i:=12) sc_law.nd rfl (Or.inl rfl) (qQ qb))
 (qd (jP PassesOwn.never rfl (jt rfl T.b_range (qa qg qb)) (qv (i:=13) sc_law.nd rfl (Or.inr rfl))
 (qf (jU (qdQ (K:=K) rfl PySem.F.plainAttrs_list PySem.F.slot_list_extend PySem.F.type_list_extend qbH (pv 12) (qa (jW (sc:=qe qbt) (XN:=["_law_script", "_law_k", "_law_box_here", "_law_names_here", "_law_drawn_here", "_law_ties_here", "_law_web", "_law_fresh_here", "_law_other", "_law_less", "_law_left", "_law_full", "_law_some_here", "_law_one"]) ["_law_other", "_law_full", "_law_one"] 1 [11,13] rfl rfl rfl (by decide +kernel) rfl (by decide +kernel)
  (pi_range2 rfl T.b_range (qa (qL (zu (K:=K) rfl) (pv 13) qg) (qa qg qb))) (fun _ _ _ _=>(qv (i:=0) (show (["_law_other", "_law_full", "_law_one"]:List Str).Nodup by decide +kernel) rfl (Or.inl rfl))) je
  (fun _ _ _ _=>zK)
  (fun _ _ _ _=>(qG (qa (qA (qB (K:=K) rfl hu) (pv 1) (pv 2) (fun _ _=>rfl)) (qa (qA (qB (K:=K) rfl hu) (pv 1) (pv 0) (fun _ _=>rfl)) qb))))) qb)))))
 (qf (qk (qp D_l_right (hm hr) qx (qa (qdh QD_Web (hm hr) (qa (pv 11) (qa (j2 (qeH (K:=K) rfl) (pv 12) zr (jF qg)) qb))) (qa (pv 11) (qa (j2 (qeH (K:=K) rfl) (pv 12) zr (jF qg)) (qa (qp D_l_box (hm hr) qx (qa (qp D_l_cell (hm hr) qx (qa (pv 0) (qa qg qb))) qb)) qb))))))))))),?_⟩
  case cut107 =>
   intro D σ H1 h
   rw [hTC107] at h
   obtain ⟨hD,x1,p,n,x4,l,x,x7,x8,x9,x10,ss,ns,ts,dps,rfl,s1,hp0,hB,hWP,hG,hN,hL⟩:=h
   have hW:=hWP.web
   obtain ⟨dx,d,ol,on,hx,_⟩:=id hW
   have hw:=hW.ok
   have hO:NOk ss:=⟨hw.few,hw.nd,hw.nm⟩
   have few:=hw.few
   have h30:=hG.tok.few
   have hdl:=hL.2.2.len
   have ec1:qb3 (ss.map V.str) none (some 1)=(ss.take 1).map V.str:=by
    have:=qcp (ss.map V.str) 1
    rw [← List.map_take] at this
    exact this
   have ec2:qb3 (ss.map V.str) (some 1) none=(ss.drop 1).map V.str:=by
    have:=cutV_drop (ss.map V.str) 1
    rw [← List.map_drop] at this
    exact this
   walk_at "vc"
   refine ⟨x,dx,_,rfl,hx,js (by decide +kernel),?_⟩
   walk_at "vc"
   refine .inl ⟨n,_,rfl,SqL.of hN.1,fun c1 hc1=>?_⟩
   rw [ec1]
   have nc1:=hB.apart hc1
   have s12:=qE (L2.Same.refl H1) (o:=.lst ((ss.take 1).map V.str)) hc1
   have e1:upd H1 c1 (.lst ((ss.take 1).map V.str)) c1=some (.lst ((ss.take 1).map V.str)):=qc
   generalize upd H1 c1 (.lst ((ss.take 1).map V.str))=H2 at s12 e1 ⊢
   have b2:=(BB.refl hB).same s12
   have tk:∀ s∈ss.take 1,s∈ss∧jC s=true:=fun s hs=>⟨List.mem_of_mem_take hs,hw.nm _ (List.mem_of_mem_take hs)⟩
   have hfr:=qa1 (ss:=ss) tk
   walk_at "vc"
   refine ⟨p,x,ss,ns,dps,.ref c1,some ((ss.take 1).map V.str),rfl,hW.same s12,hG,.lst e1 nc1 (fun v hv=>?_) (by rw [List.length_map,List.length_take];omega),(fun e=>by cases e),(fun xs y e e2=>by cases e;rw [hfr] at e2;cases e2),fun xs e e2 x' ns' H3 s23 hx'0 hWN hb=>?_⟩
   ·obtain ⟨s',hs',rfl⟩:=List.mem_map.mp hv
    exact zd (tk _ hs').2
   cases e
   have hG':WG (ze ss ((ss.take 1).map V.str)) ns' (zf dps (ze ss ((ss.take 1).map V.str))):=WG.of hWN.ok (hG.tok.keep _) (Shuf.self _) hb (qb0 (hG.ris hw) _)
   rw [keep_first hw.nd] at hG' hWN
   clear hb
   have s13:=s12.trans s23
   have b3:=(BB.refl hB).same s13
   have hWP':WebP (fun a=>a=p) cw H3 x' (ss.drop 1) ns':=hWN.apart (fun z=>by
    obtain ⟨q1,q2,q3,eq⟩:=b2.2;rw [z,eq] at hx'0;cases hx'0) fun b z=>by
    obtain ⟨q1,q2,q3,eq⟩:=b2.2;rw [z,eq];exact Option.some_ne_none _
   have hL3:=hL.bb b3
   have hN3:=hN.bb b3
   walk_at "vc"
   refine .inl ⟨⟨_,SqL.of hL3.1⟩,qY (K:=K) (fun i ys H'=>L2.Same H3 H'∧∃ us:List Addr,ys=us.map V.ref∧us.length≤i∧All2 (PrT p H3) us (qdO ss (dps.take i))) ⟨L2.Same.refl H3,[],rfl,Nat.le_refl _,All2.nil⟩ (fun i ys H' _ hp=>SqL.of (hp.1 _ _ hL3.1)) (fun i y ys H' hy hp=>?_) fun ys H' hp=>?_⟩
   ·obtain ⟨s34,us,rfl,hul,hus⟩:=hp
    rw [List.getElem?_map] at hy
    cases hx':ts[i]? with
    | none=>rw [hx'] at hy;cases hy
    | some t =>
     rw [hx'] at hy
     cases hy
     have hi:i < dps.length:=by rw [← hdl];exact (List.getElem?_eq_some_iff.mp hx').1
     have gi:dps[i]?=some dps[i]:=List.getElem?_eq_getElem hi
     have hpt:=hL3.2.2.at_ i t dps[i] hx' gi
     generalize dps[i]=ab at gi hpt
     have htk:dps.take (i + 1)=dps.take i++[ab]:=by rw [List.take_add_one,gi];rfl
     have ekt:qdO ss (dps.take (i + 1))=qdO ss (dps.take i)++(if (!decide (ab.1∈ss.take 1)&&!decide (ab.2∈ss.take 1))=true then [ab] else []):=by
      unfold qdO
      rw [htk,List.filter_append]
      congr 1
      rw [List.filter_cons]
      rfl
     rw [ekt]
     have et:=s34 _ _ hpt.2
     have hN4:=s34 _ _ hN3.1
     walk_at "vc"
     refine .inl (qaR et rfl ?_)
     walk_at "vc"
     refine .inl ⟨n,_,rfl,SqL.of hN4,fun g hg=>?_⟩
     rw [ec1]
     have s45:=qE (L2.Same.refl H') (o:=.lst ((ss.take 1).map V.str)) hg
     have eg:upd H' g (.lst ((ss.take 1).map V.str)) g=some (.lst ((ss.take 1).map V.str)):=qc
     generalize upd H' g (.lst ((ss.take 1).map V.str))=H5 at s45 eg ⊢
     have s35:=s34.trans s45
     refine .inl ⟨g,_,rfl,.inl (SqL.of eg),rfl,jl _,?_⟩
     rw [zc]
     walk_at "vc"
     refine qD (fun hb=>?_) fun hb=>?_
     ·have hb1:ab.1∉ss.take 1:=by simpa using hb
      walk_at "vc"
      refine .inl (qaR (s45 _ _ et) rfl ?_)
      walk_at "vc"
      refine .inl ⟨n,_,rfl,SqL.of (s45 _ _ hN4),fun g2 hg2=>?_⟩
      rw [ec1]
      have s56:=qE (L2.Same.refl H5) (o:=.lst ((ss.take 1).map V.str)) hg2
      have eg2:upd H5 g2 (.lst ((ss.take 1).map V.str)) g2=some (.lst ((ss.take 1).map V.str)):=qc
      generalize upd H5 g2 (.lst ((ss.take 1).map V.str))=H6 at s56 eg2 ⊢
      have s36:=s35.trans s56
      refine .inl ⟨g2,_,rfl,.inl (SqL.of eg2),rfl,jl _,?_⟩
      rw [zc]
      walk_at "vc"
      refine qD (fun hb=>?_) fun hb=>?_
      ·have hb2:ab.2∉ss.take 1:=by simpa using hb
       walk_at "vc"
       refine ⟨by rw [List.length_map];exact qh (by omega),s36,us++[t],by rw [List.map_append];rfl,by rw [List.length_append];show us.length + 1≤_;omega,?_⟩
       rw [if_pos (by rw [decide_eq_false hb1,decide_eq_false hb2];rfl)]
       exact hus.snoc hpt
      ·have hb2:ab.2∈ss.take 1:=by simpa using hb
       refine ⟨s36,us,rfl,by omega,?_⟩
       rw [if_neg (by rw [decide_eq_true hb2,Bool.not_true,Bool.and_false];exact Bool.false_ne_true),List.append_nil]
       exact hus
     ·have hb1:ab.1∈ss.take 1:=by simpa using hb
      refine qD (fun h=>by cases h) fun _=>?_
      refine ⟨s35,us,rfl,by omega,?_⟩
      rw [if_neg (by rw [decide_eq_true hb1,Bool.not_true,Bool.false_and];exact Bool.false_ne_true),List.append_nil]
      exact hus
   ·obtain ⟨s34,us,rfl,hul,hus⟩:=hp
    have etk:dps.take (ts.map V.ref).length=dps:=by rw [List.length_map,hdl,List.take_length]
    rw [etk,left_keep hw.nd hG.tok] at hus
    rw [List.length_map] at hul
    refine ⟨by rw [List.length_map];exact Nat.le_of_lt (qh (by omega)),fun e he=>?_⟩
    have b4:=b3.same s34
    have ne:=b4.apart he
    have s45:=qE (L2.Same.refl H') (o:=.lst (us.map V.ref)) he
    have ee:upd H' e (.lst (us.map V.ref)) e=some (.lst (us.map V.ref)):=qc
    generalize upd H' e (.lst (us.map V.ref))=H5 at s45 ee ⊢
    have s35:=s34.trans s45
    have hN5:=hN3.same s35
    walk_at "vc"
    refine .inl ⟨n,_,rfl,SqL.of hN5.1,fun n2 hn2=>?_⟩
    rw [ec2]
    have b5:=b3.same s35
    have nn2:=b5.apart hn2
    have s56:=qE (L2.Same.refl H5) (o:=.lst ((ss.drop 1).map V.str)) hn2
    have en2:upd H5 n2 (.lst ((ss.drop 1).map V.str)) n2=some (.lst ((ss.drop 1).map V.str)):=qc
    generalize upd H5 n2 (.lst ((ss.drop 1).map V.str))=H6 at s56 en2 ⊢
    have s36:=s35.trans s56
    have b6:=b3.same s36
    walk_at "vc"
    refine ⟨x',n2,e,p,ss.drop 1,ns',us,_,rfl,b6.2,hWP'.same s36,hG',⟨en2,nn2⟩,⟨s56 _ _ ee,ne,hus.mono fun _ _ z=>⟨z.1,s36 _ _ z.2⟩⟩,fun H7 b67=>?_⟩
    walk_at "vc"
    refine qD (fun h=>by cases h) fun _=>?_
    exact hD _ _ _ _ _ _ _ _ _ _ _ ((b6.trans b67).out s1 hp0)
  walk_at "vc"
  refine qe3 hS ?_
  walk_at "vc"
  refine ⟨_,_,rfl,?_⟩
  walk_at "vc"
  refine ⟨_,_,rfl,?_⟩
  walk_at "vc"
  rw [List.length_map]
  refine ⟨_,rfl,by split<;>split<;>omega,by split<;>split<;>omega,?_⟩
  generalize hN:(Int.toNat _)=N
  have hN':N≤63:=by rw [← hN];split<;>split<;>omega
  clear hN
  refine j6 (fun i σ H'=>L2.Same H H'∧∃ x1 x2 x3 x4 x5 x6 x7 x8 x9 x10,σ=[some (.ref a),x1,x2,x3,x4,x5,x6,x7,x8,x9,x10,none,none,none]) ⟨L2.Same.refl H,none,none,none,none,none,none,none,none,none,none,rfl⟩ (fun i σ H1 hi hp=>?_) fun σ H1 hp=>?_
  ·obtain ⟨s1,x1,x2,x3,x4,x5,x6,x7,x8,x9,x10,rfl⟩:=hp
   walk_at "vc"
   refine ⟨a,nz,_,rfl,s1.seq hS,by omega,by omega,fun c=>?_⟩
   walk_at "vc"
   refine ⟨c,rfl,fun p a1 a2 a3 hp=>?_⟩
   have hp0:H p=none:=s1.free hp
   have s2:=qE s1 (o:=.lst [.int a1,.int a2,.int a3]) hp
   have hB:Box (upd H1 p (.lst [.int a1,.int a2,.int a3])) p:=⟨a1,a2,a3,qc⟩
   generalize upd H1 p (.lst [.int a1,.int a2,.int a3])=H2 at s2 hB ⊢
   walk_at "vc"
   refine vAsgT ?_
   walk_at "vc"
   refine ⟨by show 2≤sizeLine;decide,fun m hm=>?_⟩
   have b3:=(BB.refl hB).new (o:=.lst [.int 8,.int 14]) hm
   have em:upd H2 m (.lst [.int 8,.int 14]) m=some (.lst [.int 8,.int 14]):=qc
   generalize upd H2 m (.lst [.int 8,.int 14])=H3 at b3 em ⊢
   walk_at "vc"
   refine .inl (.inl (.inl ⟨rfl,rfl,?_⟩))
   walk_at "vc"
   refine .inr ⟨_,rfl,?_⟩
   obtain ⟨mo,imo,mo0,mo14⟩:=(show ∀ bb:Bool,∃ mo:Int,atI [V.int 8,V.int 14] (if bb=true then 1 else 0)=some (.int mo)∧0≤mo∧mo≤14 from fun bb=>by
    cases bb
    ·exact ⟨8,rfl,by decide,by decide⟩
    ·exact ⟨14,rfl,by decide,by decide⟩) _
   refine .inl (zX em imo ?_)
   walk_at "vc"
   refine ⟨p,mo,rfl,mo0,mo14,b3.2,fun t n l ss ts tps H4 b34 ht hn0 hn hO hl0 hl hT=>?_⟩
   refine ⟨t,_,rfl,SqT.of ht,rfl,_,_,rfl,_,_,rfl,rfl,?_⟩
   have b4:=b3.trans b34
   have few:=hO.few
   walk_at "vc"
   refine ⟨n,l,ss,ts,tps,rfl,hn.1,few,hl.pl,fun dl ds H5 s45 hdl0 hdl hd196 hds=>?_⟩
   have b5:=b4.same s45
   have hn5:=hn.same s45
   have hD5:TL p H5 dl ds (jd ss tps ss):=⟨hdl,b4.apart hdl0,hds.mono fun t' ab z=>⟨b4.apart z.1,z.2.2⟩⟩
   have hTd:TOk ss (jd ss tps ss):=TOk.ris hO.nd hT
   have hrr:=ris_ris hT
   clear hds hdl hd196 hl hl0
   generalize jd ss tps ss=dps at hD5 hTd hrr
   walk_at "vc"
   refine ⟨p,dl,ds,dps,rfl,b5.2,hD5,hTd.few,fun l' us ups H6 b56 hl'0 hl' sh=>?_⟩
   have b6:=b5.trans b56
   have hn6:=hn5.bb b56
   have hD6:=hD5.bb b56
   walk_at "vc"
   intro x dx hx0 hdx hne
   refine qam hn6.1 hl'.1 hl'.pl.2 hO hTd sh hx0 hdx hne.symm fun ns H7 s67 hWN hbits=>⟨rfl,?_⟩
   have hAx:¬ (x=p):=fun z=>by
    obtain ⟨q1,q2,q3,eq⟩:=b6.2;rw [z,eq] at hx0;cases hx0
   have hWP:WebP (fun b=>b=p) cw H7 x ss ns:=hWN.apart hAx fun b z=>by
    obtain ⟨q1,q2,q3,eq⟩:=b6.2;rw [z,eq];exact Option.some_ne_none _
   have hG:WG ss ns dps:=WG.of hWN.ok hTd sh hbits hrr
   have b7:=b6.same s67
   have hn7:=hn6.same s67
   have hD7:=hD6.same s67
   walk_at "vc"
   refine ⟨x,n,dl,p,ss,ns,ds,dps,rfl,b7.2,hWP,hG,hn7,hD7,fun H8 b78=>?_⟩
   have b8:=b7.trans b78
   have hw:=hWN.ok
   walk_at "vc"
   refine qD (fun h=>by cases h) fun _=>?_
   walk_at "vc"
   refine ⟨n,ss,rfl,(hn7.bb b78).1,few,fun fr H9 s89 hfr hfrn=>?_⟩
   have b9:=b8.same s89
   have c9:=b78.same s89
   have hWP9:WebP (fun a=>a=p) cw H9 x ss ns:=hWP.keep fun b o nb e=>c9.1 b o nb e
   have hn9:=hn7.bb c9
   have hD9:=hD7.bb c9
   have s9:L2.Same H H9:=b9.out s2 hp0
   obtain ⟨dx9,_,_,_,hx9,_⟩:=id hWP9.web
   walk_at "vc"
   refine qar hn9.1 ?_
   rw [List.length_map]
   walk_at "vc"
   have hDn:∀ (y1 y2 y3 y4 y5 y6 y7 y8 y9 y10:Option V) (H'':Hp),L2.Same H H''→L2.Same H H''∧∃ x1 x2 x3 x4 x5 x6 x7 x8 x9 x10,([some (.ref a),y1,y2,y3,y4,y5,y6,y7,y8,y9,y10,none,none,none]:L2.St)=[some (.ref a),x1,x2,x3,x4,x5,x6,x7,x8,x9,x10,none,none,none]:=fun _ _ _ _ _ _ _ _ _ _ _ s=>⟨s,_,_,_,_,_,_,_,_,_,_,rfl⟩
   refine qD (fun h=>?_) fun h=>?_
   ·have hlt:ss.length < 14:=by have:=of_decide_eq_true h;omega
    walk_at "vc"
    refine ⟨x,dx9,_,rfl,hx9,js (by decide +kernel),?_⟩
    walk_at "vc"
    refine ⟨p,x,0,ss,ns,dps,.str fr,rfl,hWP9.web,hG,zd hfr,(fun e=>by rw [show j8 (V.str fr)=true from hfr] at e;cases e),(fun _ e=>absurd e hfrn),(fun _ _ e=>absurd e (by omega)),fun _ _ _ x' ns' HA s9A hx'0 hWN' hb'=>?_⟩
    have hG2:WG (ss++[fr]) ns' dps:=WG.of hWN'.ok (hG.tok.more _) (Shuf.self _) hb' (qdE hG.tok (hG.ris hw) hfrn)
    have hWN':WebN H9 cw HA x' (ss++[fr]) ns':=hWN'
    have bA:=b9.same s9A
    have hWP':WebP (fun a=>a=p) cw HA x' (ss++[fr]) ns':=hWN'.apart (fun z=>by
     obtain ⟨q1,q2,q3,eq⟩:=b9.2;rw [z,eq] at hx'0;cases hx'0) fun b z=>by
     obtain ⟨q1,q2,q3,eq⟩:=b9.2;rw [z,eq];exact Option.some_ne_none _
    walk_at "vc"
    refine ⟨by show 1≤sizeLine;decide,fun c1 hc1=>?_⟩
    have sAB:=qE (L2.Same.refl HA) (o:=.lst [V.str fr]) hc1
    have ec1:upd HA c1 (.lst [V.str fr]) c1=some (.lst [V.str fr]):=qc
    generalize upd HA c1 (.lst [V.str fr])=HB at sAB ec1 ⊢
    have s9B:=s9A.trans sAB
    refine .inl ⟨n,c1,_,_,rfl,rfl,s9B _ _ hn9.1,ec1,by rw [List.length_map];exact Nat.le_of_lt (qh (by show ss.length + 1≤1000;omega)),fun n2 hn2=>?_⟩
    have bB:=b9.same s9B
    have nn2:=bB.apart hn2
    have sBC:=qE (L2.Same.refl HB) (o:=.lst (ss.map V.str++[V.str fr])) hn2
    have en2:upd HB n2 (.lst (ss.map V.str++[V.str fr])) n2=some (.lst ((ss++[fr]).map V.str)):=by rw [qc,List.map_append];rfl
    generalize upd HB n2 (.lst (ss.map V.str++[V.str fr]))=HC at sBC en2 ⊢
    have s9C:=s9B.trans sBC
    have bC:=b9.same s9C
    have sAC:=sAB.trans sBC
    walk_at "vc"
    refine ⟨x',n2,dl,p,ss++[fr],ns',ds,dps,rfl,bC.2,hWP'.same sAC,hG2,⟨en2,nn2⟩,hD9.same s9C,fun HD bCD=>?_⟩
    have bD:=bC.trans bCD
    have c9D:BB p H9 HD:=((BB.refl b9.2).same s9C).trans bCD
    have hWPD:WebP (fun a=>a=p) cw HD x' (ss++[fr]) ns':=(hWP'.same sAC).keep fun b o nb e=>bCD.1 b o nb e
    have hWPxD:WebP (fun a=>a=p) cw HD x ss ns:=hWP9.keep fun b o nb e=>c9D.1 b o nb e
    obtain ⟨dxD,_,_,_,hxD,_⟩:=id hWPD.web
    walk_at "vc"
    refine qD (fun h=>by cases h) fun _=>?_
    walk_at "vc"
    refine ⟨x',dxD,_,rfl,hxD,js (by decide +kernel),?_⟩
    walk_at "vc"
    refine ⟨by show 1≤sizeLine;decide,fun tt htt=>?_⟩
    have ntt:=bD.apart htt
    have sDE:=qE (L2.Same.refl HD) (o:=.tup [V.str fr]) htt
    have ett:upd HD tt (.tup [V.str fr]) tt=some (.tup [V.str fr]):=qc
    generalize upd HD tt (.tup [V.str fr])=HE at sDE ett ⊢
    have hmem:fr∈ss++[fr]:=List.mem_append_right _ (by simp)
    have hfr1:qa0 (ss++[fr]) [V.str fr]=none:=qa1 (qs:=[fr]) fun s hs=>by rw [List.mem_singleton.mp hs];exact ⟨hmem,hfr⟩
    walk_at "vc"
    refine ⟨p,x',ss++[fr],ns',dps,.ref tt,some [V.str fr],rfl,(hWPD.same sDE).web,hG2,.tup ett ntt (fun v hv=>by rw [List.mem_singleton.mp hv];exact zd hfr) (by show 1≤1000;decide),(fun e=>by cases e),(fun xs y e e2=>by cases e;rw [hfr1] at e2;cases e2),fun xs e e2 x3' ns3 HF sEF hx30 hWN3 hb3=>?_⟩
    cases e
    have hG3:WG (ze (ss++[fr]) [V.str fr]) ns3 (zf dps (ze (ss++[fr]) [V.str fr])):=WG.of hWN3.ok (hG2.tok.keep _) (Shuf.self _) hb3 (qb0 (hG2.ris hWN'.ok) _)
    rw [keep_fresh hfrn] at hG3 hWN3
    rw [keepT_all hG.tok] at hG3
    clear hb3
    have sDF:=sDE.trans sEF
    obtain ⟨dx3,_,_,_,hx3,_⟩:=id hWN3.web
    walk_at "vc"
    refine ⟨x3',dx3,_,rfl,hx3,js (by decide +kernel),?_⟩
    walk_at "vc"
    refine ⟨x3',ss,ns3,rfl,hWN3.web,fun u0 u1 u2 lz us' HG sFG f0 f1 f2 hall=>?_⟩
    rw [hG3.due] at hall
    have sDG:=sDF.trans sFG
    have hS1:Says HG u0 (.web ss dps):=⟨u1,u2,us',f0,f1,f2,hall.mono fun _ _ z=>z.2.2⟩
    have hWPxG:=hWPxD.same sDG
    obtain ⟨dxG,_,_,_,hxG,_⟩:=id hWPxG.web
    walk_at "vc"
    refine ⟨x,dxG,_,rfl,hxG,js (by decide +kernel),?_⟩
    walk_at "vc"
    refine ⟨x,ss,ns,rfl,hWPxG.web,fun v0 v1 v2 lz' us2 HI sGI g0 g1 g2 hall2=>?_⟩
    rw [hG.due] at hall2
    have sDI:=sDG.trans sGI
    have hS2:Says HI v0 (.web ss dps):=⟨v1,v2,us2,g0,g1,g2,hall2.mono fun _ _ z=>z.2.2⟩
    obtain ⟨m',hm',he'⟩:=(hS1.same sGI).eqT (K:=K) (p:=p) hS2 True.intro
    refine .inr (.inl ⟨u0,v0,true,m',rfl,rfl,hm',he',?_⟩)
    walk_at "vc"
    refine qD (fun h=>by cases h) fun _=>?_
    have c9I:BB p H9 HI:=c9D.same sDI
    walk_at "vc"
    rw [hTC107]
    exact ⟨hDn,_,p,n,_,dl,x,_,_,_,_,ss,ns,ds,dps,rfl,(b9.trans c9I).out s2 hp0,hp0,c9I.2,hWPxD.same sDI,hG,hn9.bb c9I,hD9.bb c9I⟩
   ·walk_at "vc"
    rw [hTC107]
    exact ⟨hDn,_,p,n,_,dl,x,_,_,_,_,ss,ns,ds,dps,rfl,s9,hp0,b9.2,hWP9,hG,hn9,hD9⟩
  ·obtain ⟨s1,x1,x2,x3,x4,x5,x6,x7,x8,x9,x10,rfl⟩:=hp
   walk_at "vc"
   refine .inr (.inr ⟨_,rfl,by decide +kernel,fun fl hfl=>?_⟩)
   have s2:=qE s1 (o:=.lst (("abcdefghijklmn":Str).cps.toList.map fun c=>V.str ⟨#[c]⟩)) hfl
   have efl:upd H1 fl (.lst (("abcdefghijklmn":Str).cps.toList.map fun c=>V.str ⟨#[c]⟩)) fl=some (.lst (fullS.map V.str)):=by rw [qc];unfold fullS;rw [List.map_map];rfl
   generalize upd H1 fl (.lst (("abcdefghijklmn":Str).cps.toList.map fun c=>V.str ⟨#[c]⟩))=H2 at s2 efl ⊢
   walk_at "vc"
   refine ⟨by decide,fun sl hsl=>?_⟩
   have s23:=qE (L2.Same.refl H2) (o:=.lst []) hsl
   have esl:upd H2 sl (.lst []) sl=some (.lst []):=qc
   have nfs:fl≠sl:=qw efl hsl
   have hsl0:H sl=none:=s2.free hsl
   have hfl3:=s23 _ _ efl
   have s3:=s2.trans s23
   generalize upd H2 sl (.lst [])=H3 at s3 esl hfl3 ⊢
   walk_at "vc"
   refine ⟨9,rfl,by decide,by decide,j6 (fun i σ H'=>∃ (us:List Addr) (x13:Option V),σ=[some (.ref a),x1,x2,x3,x4,x5,x6,x7,x8,x9,x10,some (.ref fl),some (.ref sl),x13]∧L2.Same H H'∧H' fl=some (.lst (fullS.map V.str))∧H' sl=some (.lst (us.map V.ref))∧All2 (fun t ab=>H' t=some (.tup [.str ab.1,.str ab.2])) us (qb2 i)) ⟨[],none,rfl,s3,hfl3,esl,All2.nil⟩ (fun i σ H4 hi hp=>?_) fun σ H4 hp=>?_⟩
   ·obtain ⟨us,x13,rfl,s4,hf4,hs4,hus⟩:=hp
    have hi:i < 9:=hi
    have hul:us.length≤72:=by
     have:=qcH i (by omega)
     have:=hus.len
     omega
    have gi:=qaQ (show i < 14 by omega)
    walk_at "vc"
    refine ⟨.inl ⟨rfl,_,SqL.of hs4⟩,?_⟩
    walk_at "vc"
    refine vRng2 ?_
    walk_at "vc"
    refine ⟨_,_,rfl,⟨by omega,by omega,by decide,by decide⟩,?_⟩
    have en:(9 - (0 + (i:Int) + 1)).toNat=8 - i:=by omega
    rw [en]
    refine qae (fun k ys H'=>L2.Same H4 H'∧∃ vs:List Addr,ys=vs.map V.ref∧vs.length=k∧All2 (fun t ab=>H' t=some (.tup [.str ab.1,.str ab.2])) vs ((List.range k).map fun j=>(fullS.getD i "",fullS.getD (i + 1 + j) ""))) ⟨L2.Same.refl H4,[],rfl,rfl,All2.nil⟩ (fun k ys H' hk hp=>?_) fun ys H' hp=>?_
    ·obtain ⟨s45,vs,rfl,hvl,hvs⟩:=hp
     have gk:=qaQ (show i + 1 + k < 14 by omega)
     have hf5:=s45 _ _ hf4
     walk_at "vc"
     refine qbC ?_
     walk_at "vc"
     rw [Int.zero_add]
     refine .inl (zX hf5 (jQ (by rw [List.getElem?_map,gi];rfl)) ?_)
     walk_at "vc"
     have eik:((i:Int) + 1 + (k:Int))=((i + 1 + k:Nat):Int):=by omega
     rw [eik]
     refine .inl (zX hf5 (jQ (by rw [List.getElem?_map,gk];rfl)) ?_)
     walk_at "vc"
     refine ⟨by show 2≤sizeLine;decide,fun t ht=>?_⟩
     have s56:=qE (L2.Same.refl H') (o:=.tup [V.str (fullS.getD i ""),V.str (fullS.getD (i + 1 + k) "")]) ht
     refine ⟨by rw [List.length_map];exact qh (by omega),s45.trans s56,vs++[t],by rw [List.map_append];rfl,by rw [List.length_append,hvl];rfl,?_⟩
     rw [List.range_succ,List.map_append]
     exact (hvs.mono fun _ _ z=>s56 _ _ z).snoc qc
    ·obtain ⟨s45,vs,rfl,hvl,hvs⟩:=hp
     refine ⟨by rw [List.length_map];exact Nat.le_of_lt (qh (by omega)),fun b hb=>?_⟩
     have s56:=qE (L2.Same.refl H') (o:=.lst (vs.map V.ref)) hb
     have eb:upd H' b (.lst (vs.map V.ref)) b=some (.lst (vs.map V.ref)):=qc
     generalize upd H' b (.lst (vs.map V.ref))=H6 at s56 eb ⊢
     have s46:=s45.trans s56
     walk_at "vc"
     refine ⟨sl,b,_,_,rfl,rfl,s46 _ _ hs4,eb,by rw [List.length_map,List.length_map];exact Nat.le_of_lt (qh (by omega)),?_⟩
     have nsl:∀ {t:Addr} {xs:List V},H6 t=some (.tup xs)→t≠sl:=fun e z=>by rw [z,s46 _ _ hs4] at e;cases e
     refine ⟨us++vs,_,rfl,qfe (s4.trans s46) hsl0,by rw [qr nfs];exact s46 _ _ hf4,by rw [qc,List.map_append],?_⟩
     rw [qbL]
     exact All2.app (hus.mono fun t ab z=>by rw [qr (nsl (s46 _ _ z))];exact s46 _ _ z) (hvs.mono fun t ab z=>by rw [qr (nsl (s56 _ _ z))];exact s56 _ _ z)
   ·obtain ⟨us,x13,rfl,s4,hf4,hs4,hus⟩:=hp
    have ecut:qb3 (us.map V.ref) none (some 30)=(us.take 30).map V.ref:=by
     have:=qcp (us.map V.ref) 30
     rw [← List.map_take] at this
     exact this
    have hu30:All2 (fun t ab=>H4 t=some (.tup [.str ab.1,.str ab.2])) (us.take 30) qbu:=hus.take 30
    walk_at "vc"
    refine .inl ⟨sl,_,rfl,SqL.of hs4,fun c1 hc1=>?_⟩
    rw [ecut]
    have s45:=qE (L2.Same.refl H4) (o:=.lst ((us.take 30).map V.ref)) hc1
    have ec1:upd H4 c1 (.lst ((us.take 30).map V.ref)) c1=some (.lst ((us.take 30).map V.ref)):=qc
    generalize upd H4 c1 (.lst ((us.take 30).map V.ref))=H5 at s45 ec1 ⊢
    walk_at "vc"
    intro x dx hx0 hdx hne
    refine qam (s45 _ _ hf4) ec1 (hu30.mono fun _ _ z=>s45 _ _ z) fullS_ok qcG (Shuf.self _) hx0 hdx hne.symm fun ns H6 s56 hWN hbits=>⟨rfl,?_⟩
    have hG:WG fullS ns qbu:=WG.of hWN.ok qcG (Shuf.self _) hbits full30_ris
    have s46:=s45.trans s56
    walk_at "vc"
    refine .inl ⟨sl,_,rfl,SqL.of (s46 _ _ hs4),fun c2 hc2=>?_⟩
    rw [ecut]
    have s67:=qE (L2.Same.refl H6) (o:=.lst ((us.take 30).map V.ref)) hc2
    have ec2:upd H6 c2 (.lst ((us.take 30).map V.ref)) c2=some (.lst ((us.take 30).map V.ref)):=qc
    generalize upd H6 c2 (.lst ((us.take 30).map V.ref))=H7 at s67 ec2 ⊢
    have s47:=s46.trans s67
    walk_at "vc"
    refine ⟨a,nz,_,rfl,(s4.trans s47).seq hS,by omega,by omega,fun c=>?_⟩
    walk_at "vc"
    refine ⟨c,rfl,fun p a1 a2 a3 hp=>?_⟩
    have np:∀ {b:Addr} {o:HO},H7 b=some o→b≠p:=fun e z=>by rw [z,hp] at e;cases e
    have s78:=qE (L2.Same.refl H7) (o:=.lst [.int a1,.int a2,.int a3]) hp
    have hB:Box (upd H7 p (.lst [.int a1,.int a2,.int a3])) p:=⟨a1,a2,a3,qc⟩
    have hWP:=((hWN.web.same s67).fresh hp).same s78
    have hN8:NL p (upd H7 p (.lst [.int a1,.int a2,.int a3])) fl fullS:=⟨s78 _ _ (s47 _ _ hf4),np (s47 _ _ hf4)⟩
    have hL8:TL p (upd H7 p (.lst [.int a1,.int a2,.int a3])) c2 (us.take 30) qbu:=⟨s78 _ _ ec2,np ec2,hu30.mono fun _ _ z=>⟨np (s47 _ _ z),s78 _ _ (s47 _ _ z)⟩⟩
    walk_at "vc"
    exact ⟨x,fl,c2,p,fullS,ns,us.take 30,qbu,rfl,hB,hWP,hG,hN8,hL8,fun H9 _=>q H9⟩
end
theorem jD {K:W.Frag} {t c:Addr} (ne:t≠c) (h1:W.isClsIn K c=true) (h2:W.typeIn K (.ref c)=some (.type "type")) (h3:W.mroIn K t (.ref c)=some false):W.kitOne K (.ref t) (.ref c)=some false:=by
 unfold W.kitOne
 rw [if_neg (fun z=>ne (Value.ref.inj (beq_iff_eq.mp z)))]
 unfold W.kitCls
 dsimp only
 have e1:(W.clsIn K c).isSome=true:=h1
 rw [if_pos (by rw [e1,h2];rfl)]
 exact h3
theorem all_mk {l:W.OpenLaw} {w:World} {K:W.Frag} {h:Heap} {mg:Str→Option Value} {fa Cw C0 C1 C2 C3 C4 C5:Addr} {ty0 ty1 ty2:Tok} (X:K.In h) (G:h.Ns mainGlobals mg) (hfa:mg "law"=some (.ref fa))
  (C0_:W.nsIn K mainGlobals "NoName"=some (some (.ref C0)))
  (C1_:W.nsIn K mainGlobals "Twice"=some (some (.ref C1)))
  (C2_:W.nsIn K mainGlobals "NoPlace"=some (some (.ref C2)))
  (C3_:W.nsIn K mainGlobals "NoTie"=some (some (.ref C3)))
  (C4_:W.nsIn K mainGlobals "TooMany"=some (some (.ref C4)))
  (C5_:W.nsIn K mainGlobals "OnceError"=some (some (.ref C5)))
  (Cw_:W.nsIn K mainGlobals "Web"=some (some (.ref Cw)))
  (h_is_name:FG K "is_name" zo)
  (h_has_bit:FG K "has_bit" zA)
  (h_is_place:FG K "is_place" zg)
  (h_are_two_places:FG K "are_two_places" qV)
  (h_numbers_of:FG K "numbers_of" jJ)
  (h_near_of:FG K "near_of" zB)
  (h_piece_around:FG K "piece_around" jp)
  (h_l_cell:FG K "_law_cell" qai)
  (h_l_box:FG K "_law_box" qaZ)
  (h_l_take:FG K "_law_take" qaj)
  (h_l_names:FG K "_law_names" za)
  (h_l_ties:FG K "_law_ties" qal)
  (h_l_drawn:FG K "_law_drawn" zD)
  (h_l_shuffled:FG K "_law_shuffled" ju)
  (h_l_fresh:FG K "_law_fresh" zp)
  (h_l_rising:FG K "_law_rising" jX)
  (h_l_odd:FG K "_law_odd" qaz)
  (h_l_asked:FG K "_law_asked" zE)
  (h_l_said:FG K "_law_said" qao)
  (h_l_in:FG K "_law_in" qbJ)
  (h_l_place_due:FG K "_law_place_due" jA)
  (h_l_without_due:FG K "_law_without_due" qO)
  (h_l_tie_due:FG K "_law_tie_due" jG)
  (h_l_same:FG K "_law_same" qap)
  (h_l_some:FG K "_law_some" zO)
  (h_l_thing:FG K "_law_thing" zF)
  (h_l_told:FG K "_law_told" j5)
  (h_l_right:FG K "_law_right" zG)
  (h_law:FG K "law" qbt)
  (h_i0:FM K C0 "__init__" "NoName.__init__" jz)
  (h_i1:FM K C1 "__init__" "Twice.__init__" jH)
  (h_i2:FM K C2 "__init__" "NoPlace.__init__" jm)
  (h_i3:FM K C3 "__init__" "NoTie.__init__" jI)
  (h_i4:FM K C4 "__init__" "TooMany.__init__" jn)
  (h_i5:FC K C5 "__init__" "OnceError.__init__" qU)
  (h_iw:FM K Cw "__init__" "Web.__init__" zh)
  (h_m_places:FM K Cw "places" "Web.places" jK)
  (h_m_ties:FM K Cw "ties" "Web.ties" zk)
  (h_m_how_many:FM K Cw "how_many" "Web.how_many" jo)
  (h_m_has_place:FM K Cw "has_place" "Web.has_place" jf)
  (h_m_number_of:FM K Cw "number_of" "Web.number_of" jg)
  (h_m_beside:FM K Cw "beside" "Web.beside" jL)
  (h_m_bits_beside:FM K Cw "bits_beside" "Web.bits_beside" qS)
  (h_m_tied:FM K Cw "tied" "Web.tied" zi)
  (h_m_pieces:FM K Cw "pieces" "Web.pieces" jM)
  (h_m_told:FM K Cw "told" "Web.told" zl)
  (h_m_names_in:FM K Cw "names_in" "Web.names_in" jc)
  (h_m_without:FM K Cw "without" "Web.without" q8)
  (h_m_with_place:FM K Cw "with_place" "Web.with_place" qW)
  (h_m_with_tie:FM K Cw "with_tie" "Web.with_tie" jq)
  (h_m_without_tie:FM K Cw "without_tie" "Web.without_tie" qN)
  (X0:XL K C0 (.ref C5::qbi))
  (q0:XQ K C0)
  (X1:XL K C1 (.ref C5::qbi))
  (q1:XQ K C1)
  (X2:XL K C2 (.ref C5::qbi))
  (q2:XQ K C2)
  (X3:XL K C3 (.ref C5::qbi))
  (q3:XQ K C3)
  (X4:XL K C4 (.ref C5::qbi))
  (q4:XQ K C4)
  (X5:XL K C5 qbi)
  (q5:XQ K C5)
  (y0:W.findIn K (.ref C0) "found"=some none)
  (y1:W.findIn K (.ref C1) "name"=some none)
  (y2:W.findIn K (.ref C2) "found"=some none)
  (y3:W.findIn K (.ref C3) "found"=some none)
  (y4:W.findIn K (.ref C4) "many"=some none)
  (mo0:W.mroIn K C0 (.ref C5)=some true)
  (mo1:W.mroIn K C1 (.ref C5)=some true)
  (mo2:W.mroIn K C2 (.ref C5)=some true)
  (mo3:W.mroIn K C3 (.ref C5)=some true)
  (mo4:W.mroIn K C4 (.ref C5)=some true)
  (nd:([C0,C1,C2,C3,C4]++[C5]).Nodup)
  (r1:W.readsIn K C5 (.type "type")=true)
  (r3:W.specialIn K (.ref C5) "__getattribute__"=some (some (.builtin "type.__getattribute__")))
  (v1:W.findIn K (.type "type") "__getattribute__"=some (some (.builtin "type.__getattribute__")))
  (v3:W.subIn K (.type "type") (.type "type")=some true)
  (v4:W.findCls K (.type "ValueError") (.type "type") "__init__"=some (.val (.builtin "ValueError.__init__")))
  (w1:W.plainGet K Cw Str.empty=true)
  (w2:W.hasDictIn K Cw=true)
  (w3:W.plainOver K Cw=true)
  (w4:W.findIn K (.ref Cw) "__setattr__"=some (some (.builtin "object.__setattr__")))
  (w5:W.makesIn K Cw=true)
  (w6:W.keepIn K (.ref Cw)=true)
  (w7:W.findIn K (.ref Cw) "numbers"=some none)
  (w8:W.findIn K (.ref Cw) "order"=some none)
  (w9:W.findIn K (.ref Cw) "near"=some none)
  (w16:W.specialIn K (.builtin "object.__class__") "__get__"=some (some (.builtin "getset_descriptor.__get__")))
  (w17:W.takesIn K (.builtin "object.__class__")=some true)
  (w10:W.findIn K (.ref Cw) "__class__"=some (some (.builtin "object.__class__")))
  (w11:W.mroIn K Cw (.type "object")=some true)
  (zsum:W.nsIn K mainGlobals "sum"=some none)
  (nw0:Cw≠C0)
  (mw0:W.mroIn K Cw (.ref C0)=some false)
  (mx0:W.mroIn K C0 (.ref Cw)=some false)
  (tc0:W.typeIn K (.ref C0)=some (.type "type"))
  (ic0:W.isClsIn K C0=true)
  (nw1:Cw≠C1)
  (mw1:W.mroIn K Cw (.ref C1)=some false)
  (mx1:W.mroIn K C1 (.ref Cw)=some false)
  (tc1:W.typeIn K (.ref C1)=some (.type "type"))
  (ic1:W.isClsIn K C1=true)
  (nw2:Cw≠C2)
  (mw2:W.mroIn K Cw (.ref C2)=some false)
  (mx2:W.mroIn K C2 (.ref Cw)=some false)
  (tc2:W.typeIn K (.ref C2)=some (.type "type"))
  (ic2:W.isClsIn K C2=true)
  (nw3:Cw≠C3)
  (mw3:W.mroIn K Cw (.ref C3)=some false)
  (mx3:W.mroIn K C3 (.ref Cw)=some false)
  (tc3:W.typeIn K (.ref C3)=some (.type "type"))
  (ic3:W.isClsIn K C3=true)
  (nw4:Cw≠C4)
  (mw4:W.mroIn K Cw (.ref C4)=some false)
  (mx4:W.mroIn K C4 (.ref Cw)=some false)
  (tc4:W.typeIn K (.ref C4)=some (.type "type"))
  (ic4:W.isClsIn K C4=true)
  (tcw:W.typeIn K (.ref Cw)=some (.type "type"))
  (icw:W.isClsIn K Cw=true)
  (z0:W.nsIn K mainGlobals "len"=some none)
  (z1:W.nsIn K mainGlobals "int"=some none)
  (z2:W.nsIn K mainGlobals "enumerate"=some none)
  (z3:W.nsIn K mainGlobals "all"=some none)
  (z4:W.nsIn K mainGlobals "max"=some none)
  (z5:W.nsIn K mainGlobals "min"=some none)
  (z6:W.nsIn K mainGlobals "isinstance"=some none)
  (z7:W.nsIn K mainGlobals "bool"=some none)
  (z8:W.nsIn K mainGlobals "str"=some none)
  (z9:W.nsIn K mainGlobals "range"=some none)
  (z10:W.nsIn K mainGlobals "list"=some none)
  (z11:W.nsIn K mainGlobals "tuple"=some none)
  (z12:W.nsIn K mainGlobals "ValueError"=some none)
  (u0:W.nsIn K mainGlobals "LONGEST_NAME"=some (some (.int 6 ty0)))
  (u1:W.nsIn K mainGlobals "MOST_PLACES"=some (some (.int 14 ty1)))
  (u2:W.nsIn K mainGlobals "MOST_TIES"=some (some (.int 30 ty2))) :
  ∃ fd:FuncData,(∀ (s:Shared) (v:Value),BindsTo s fd ⟨[v],[]⟩ [("_law_script",v)])∧∀ base:Heap,K.In base→base.Ns mainGlobals mg→FnOk l.prog w K mg base CX0 11 fa fd ["_law_script"] (qeU K):=by
 obtain ⟨f_is_name,e_is_name,a_is_name,F_Qac⟩:=h_is_name
 obtain ⟨f_has_bit,e_has_bit,a_has_bit,F_Qab⟩:=h_has_bit
 obtain ⟨f_is_place,e_is_place,a_is_place,F_Qad⟩:=h_is_place
 obtain ⟨f_are_two_places,e_are_two_places,a_are_two_places,F_Qaa⟩:=h_are_two_places
 obtain ⟨f_numbers_of,e_numbers_of,a_numbers_of,F_Qbb⟩:=h_numbers_of
 obtain ⟨f_near_of,e_near_of,a_near_of,F_Qba⟩:=h_near_of
 obtain ⟨f_piece_around,e_piece_around,a_piece_around,F_Qbc⟩:=h_piece_around
 obtain ⟨f_l_cell,e_l_cell,a_l_cell,F_Qag⟩:=h_l_cell
 obtain ⟨f_l_box,e_l_box,a_l_box,F_Qaf⟩:=h_l_box
 obtain ⟨f_l_take,e_l_take,a_l_take,F_Qat⟩:=h_l_take
 obtain ⟨f_l_names,e_l_names,a_l_names,F_Qak⟩:=h_l_names
 obtain ⟨f_l_ties,e_l_ties,a_l_ties,F_Qaw⟩:=h_l_ties
 obtain ⟨f_l_drawn,e_l_drawn,a_l_drawn,F_Qah⟩:=h_l_drawn
 obtain ⟨f_l_shuffled,e_l_shuffled,a_l_shuffled,F_Qar⟩:=h_l_shuffled
 obtain ⟨f_l_fresh,e_l_fresh,a_l_fresh,F_Qai⟩:=h_l_fresh
 obtain ⟨f_l_rising,e_l_rising,a_l_rising,F_Qao⟩:=h_l_rising
 obtain ⟨f_l_odd,e_l_odd,a_l_odd,F_Qal⟩:=h_l_odd
 obtain ⟨f_l_asked,e_l_asked,a_l_asked,F_Qae⟩:=h_l_asked
 obtain ⟨f_l_said,e_l_said,a_l_said,F_Qap⟩:=h_l_said
 obtain ⟨f_l_in,e_l_in,a_l_in,F_Qaj⟩:=h_l_in
 obtain ⟨f_l_place_due,e_l_place_due,a_l_place_due,F_Qam⟩:=h_l_place_due
 obtain ⟨f_l_without_due,e_l_without_due,a_l_without_due,F_Qay⟩:=h_l_without_due
 obtain ⟨f_l_tie_due,e_l_tie_due,a_l_tie_due,F_Qav⟩:=h_l_tie_due
 obtain ⟨f_l_same,e_l_same,a_l_same,F_Qaq⟩:=h_l_same
 obtain ⟨f_l_some,e_l_some,a_l_some,F_Qas⟩:=h_l_some
 obtain ⟨f_l_thing,e_l_thing,a_l_thing,F_Qau⟩:=h_l_thing
 obtain ⟨f_l_told,e_l_told,a_l_told,F_Qax⟩:=h_l_told
 obtain ⟨f_l_right,e_l_right,a_l_right,F_Qan⟩:=h_l_right
 obtain ⟨f_law,e_law,a_law,F_Qaz⟩:=h_law
 obtain ⟨f_i0,e_i0,a_i0,n_i0,F_i0⟩:=h_i0
 obtain ⟨f_i1,e_i1,a_i1,n_i1,F_i1⟩:=h_i1
 obtain ⟨f_i2,e_i2,a_i2,n_i2,F_i2⟩:=h_i2
 obtain ⟨f_i3,e_i3,a_i3,n_i3,F_i3⟩:=h_i3
 obtain ⟨f_i4,e_i4,a_i4,n_i4,F_i4⟩:=h_i4
 obtain ⟨f_i5,e_i5,a_i5,F_i5⟩:=h_i5
 obtain ⟨f_iw,e_iw,a_iw,n_iw,F_iw⟩:=h_iw
 obtain ⟨f_m_places,e_m_places,a_Qbk,n_Qbk,F_Qbk⟩:=h_m_places
 obtain ⟨f_m_ties,e_m_ties,a_Qbm,n_Qbm,F_Qbm⟩:=h_m_ties
 obtain ⟨f_m_how_many,e_m_how_many,a_Qbg,n_Qbg,F_Qbg⟩:=h_m_how_many
 obtain ⟨f_m_has_place,e_m_has_place,a_Qbf,n_Qbf,F_Qbf⟩:=h_m_has_place
 obtain ⟨f_m_number_of,e_m_number_of,a_Qbi,n_Qbi,F_Qbi⟩:=h_m_number_of
 obtain ⟨f_m_beside,e_m_beside,a_Qbd,n_Qbd,F_Qbd⟩:=h_m_beside
 obtain ⟨f_m_bits_beside,e_m_bits_beside,a_Qbe,n_Qbe,F_Qbe⟩:=h_m_bits_beside
 obtain ⟨f_m_tied,e_m_tied,a_Qbl,n_Qbl,F_Qbl⟩:=h_m_tied
 obtain ⟨f_m_pieces,e_m_pieces,a_Qbj,n_Qbj,F_Qbj⟩:=h_m_pieces
 obtain ⟨f_m_told,e_m_told,a_Qbn,n_Qbn,F_Qbn⟩:=h_m_told
 obtain ⟨f_m_names_in,e_m_names_in,a_Qbh,n_Qbh,F_Qbh⟩:=h_m_names_in
 obtain ⟨f_m_without,e_m_without,a_Qbq,n_Qbq,F_Qbq⟩:=h_m_without
 obtain ⟨f_m_with_place,e_m_with_place,a_Qbo,n_Qbo,F_Qbo⟩:=h_m_with_place
 obtain ⟨f_m_with_tie,e_m_with_tie,a_Qbp,n_Qbp,F_Qbp⟩:=h_m_with_tie
 obtain ⟨f_m_without_tie,e_m_without_tie,a_Qbr,n_Qbr,F_Qbr⟩:=h_m_without_tie
 have e:=hfa.symm.trans (W.mg_of X G a_law)
 cases e
 have Y0:XAt K C0:=qdK X0 qbj q0 w16 w17
 have Y1:XAt K C1:=qdK X1 qbj q1 w16 w17
 have Y2:XAt K C2:=qdK X2 qbj q2 w16 w17
 have Y3:XAt K C3:=qdK X3 qbj q3 w16 w17
 have Y4:XAt K C4:=qdK X4 qbj q4 w16 w17
 have Y5:XAt K C5:=qdK X5 qef q5 w16 w17
 obtain ⟨kt1,kt2,kt3,kt4⟩:=kits nd (fun i hi=>match i,hi with | 0,_=>X0 | 1,_=>X1 | 2,_=>X2 | 3,_=>X3 | 4,_=>X4 | n + 5,h=>absurd h (by simp only [List.length_cons,List.length_nil];omega)) X5
 have wcl:Cls K Cw:=⟨w1,w2,w3,w4⟩
 have T:Txt K mg (fun i=>([C0,C1,C2,C3,C4]:List Addr).getD i C5) Cw:=⟨W.mg_none_of X G z0,
  W.mg_none_of X G z1,
  W.mg_none_of X G z2,
  W.mg_none_of X G z3,
  W.mg_none_of X G z4,
  W.mg_none_of X G z5,
  W.mg_none_of X G z6,
  W.mg_none_of X G z7,
  W.mg_none_of X G z8,
  W.mg_none_of X G z9,
  W.mg_none_of X G z10,
  W.mg_none_of X G z11,
  W.mg_none_of X G z12,
  ⟨ty0,W.mg_of X G u0⟩,
  ⟨ty1,W.mg_of X G u1⟩,
  ⟨ty2,W.mg_of X G u2⟩,
  W.mg_of X G C0_,
  W.mg_of X G C1_,
  W.mg_of X G C2_,
  W.mg_of X G C3_,
  W.mg_of X G C4_,
  W.mg_of X G C5_,
  ⟨v1,v3,v4⟩,
  fun i hi=>match i,hi with | 0,_=>Y0 | 1,_=>Y1 | 2,_=>Y2 | 3,_=>Y3 | 4,_=>Y4 | 5,_=>Y5 | n + 6,h=>absurd h (by omega),
  fun i hi=>match i,hi with | 0,_=>y0 | 1,_=>y1 | 2,_=>y2 | 3,_=>y3 | 4,_=>y4 | n + 5,h=>absurd h (by omega),
  kt1,
  kt3,
  fun i hi=>match i,hi with | 0,_=>mo0 | 1,_=>mo1 | 2,_=>mo2 | 3,_=>mo3 | 4,_=>mo4 | n + 5,h=>absurd h (by omega),
  wcl,
  w7,
  w8,
  w9,
  W.mg_of X G Cw_,
  fun H a dx fs e=>.ins e wcl w10 w16 w17 w11,
  by unfold W.kitOne;rw [if_pos (beq_self_eq_true _)],
  W.mg_none_of X G zsum,
  fun i hi=>match i,hi with | 0,_=>jD nw0 ic0 tc0 mw0 | 1,_=>jD nw1 ic1 tc1 mw1 | 2,_=>jD nw2 ic2 tc2 mw2 | 3,_=>jD nw3 ic3 tc3 mw3 | 4,_=>jD nw4 ic4 tc4 mw4 | n + 5,h=>absurd h (by omega),
  fun i hi=>match i,hi with | 0,_=>jD nw0.symm icw tcw mx0 | 1,_=>jD nw1.symm icw tcw mx1 | 2,_=>jD nw2.symm icw tcw mx2 | 3,_=>jD nw3.symm icw tcw mx3 | 4,_=>jD nw4.symm icw tcw mx4 | n + 5,h=>absurd h (by omega)⟩
 obtain ⟨oc,od,kV,doc,pm,an,cd,ct,sl,rfl,lk,hc⟩:=F_Qaz.ex
 refine ⟨W.fnOf "law" "law" (qq qbt) (qj qbt) (qe qbt) .none kV doc pm an cd ct,fun s v=>.of_eq rfl,fun base _ _=>?_⟩
 have d_once:CMethOk l.prog w K mg base CX0 1 C5 "OnceError" "__init__" ["self", "text"] (qbk K):=fc_mk X G C5_ r1 a_i5 r3 F_i5 (ok_once F_i5 T)
 have d0:XMakeOk l.prog w K mg base 2 C0 "NoName" ["self", "found"] (spX C0 (qay 0)):=qeg X G C0_ Y0 q0 a_i0 n_i0 F_i0 (ok_NoName F_i0 T d_once)
 have d1:XMakeOk l.prog w K mg base 2 C1 "Twice" ["self", "name"] (spX C1 (qay 1)):=qeg X G C1_ Y1 q1 a_i1 n_i1 F_i1 (ok_Twice F_i1 T d_once)
 have d2:XMakeOk l.prog w K mg base 2 C2 "NoPlace" ["self", "found"] (spX C2 (qay 2)):=qeg X G C2_ Y2 q2 a_i2 n_i2 F_i2 (ok_NoPlace F_i2 T d_once)
 have d3:XMakeOk l.prog w K mg base 2 C3 "NoTie" ["self", "found"] (spX C3 (qay 3)):=qeg X G C3_ Y3 q3 a_i3 n_i3 F_i3 (ok_NoTie F_i3 T d_once)
 have d4:XMakeOk l.prog w K mg base 2 C4 "TooMany" ["self", "many"] (spX C4 (qay 4)):=qeg X G C4_ Y4 q4 a_i4 n_i4 F_i4 (ok_TooMany F_i4 T d_once)
 have fg:=@fg_mk l.prog w K mg base h
 have fm:=@fm_mk l.prog w K mg base
 have fw:=@fw_mk l.prog w K mg base h
 have d_take:=fg X G a_l_take F_Qat (ok_take F_Qat)
 have d_name:=fg X G a_is_name F_Qac (ok_name F_Qac T)
 have d_place:=fg X G a_is_place F_Qad (ok_place F_Qad d_name)
 have d_two:=fg X G a_are_two_places F_Qaa (ok_two F_Qaa T d_place)
 have d_bit:=fg X G a_has_bit F_Qab (ok_bit F_Qab)
 have d_nums:=fg X G a_numbers_of F_Qbb (ok_nums F_Qbb T d_name d0 d1 d4)
 have d_near:=fg X G a_near_of F_Qba (ok_near F_Qba T d_two d_bit d3 d4)
 have o_web:=ok_web F_iw T d_nums d_near
 have q_web:MakeOk l.prog w K mg base CX0 5 Cw "Web" ["self", "names", "ties"] (fun vs H Q _=>qbx (fun i=>([C0,C1,C2,C3,C4]:List Addr).getD i C5) Cw vs H Q E0):=fw X G Cw_ w5 w6 a_iw n_iw F_iw o_web.quiet
 have m_web:MakeOk l.prog w K mg base (CX1 l.prog w) 5 Cw "Web" ["self", "names", "ties"] (qbx (fun i=>([C0,C1,C2,C3,C4]:List Addr).getD i C5) Cw):=fw X G Cw_ w5 w6 a_iw n_iw F_iw o_web
 have m_has:=fm wcl a_Qbf n_Qbf F_Qbf (ok_has F_Qbf T d_place)
 have o_num:=ok_num F_Qbi T m_has d2
 have m_num:=fm wcl a_Qbi n_Qbi F_Qbi o_num
 have q_num:=fm wcl a_Qbi n_Qbi F_Qbi o_num.quiet
 have o_bb:=ok_bb F_Qbe T m_num
 have m_bb:=fm wcl a_Qbe n_Qbe F_Qbe o_bb
 have q_bb:=fm wcl a_Qbe n_Qbe F_Qbe o_bb.quiet
 have m_nin:=fm wcl a_Qbh n_Qbh F_Qbh (ok_nin F_Qbh T d_bit)
 have o_bs:=ok_bs F_Qbd T m_bb m_nin
 have m_bs:=fm wcl a_Qbd n_Qbd F_Qbd o_bs
 have q_bs:=fm wcl a_Qbd n_Qbd F_Qbd o_bs.quiet
 have o_tied:=ok_tied F_Qbl T m_bb m_num d_bit
 have m_tied:=fm wcl a_Qbl n_Qbl F_Qbl o_tied
 have m_pls:=fm wcl a_Qbk n_Qbk F_Qbk (ok_pls F_Qbk T)
 have m_how:=fm wcl a_Qbg n_Qbg F_Qbg (ok_how F_Qbg T)
 have d_pc:=fg X G a_piece_around F_Qbc (ok_pc F_Qbc T d_bit)
 have m_pcs:=fm wcl a_Qbj n_Qbj F_Qbj (ok_pcs F_Qbj T d_bit d_pc m_nin)
 have m_ts:=fm wcl a_Qbm n_Qbm F_Qbm (ok_ts F_Qbm T q_bs)
 have m_told:=fm wcl a_Qbn n_Qbn F_Qbn (ok_told F_Qbn T m_ts)
 have o_wout:=ok_wout F_Qbq T m_num m_ts m_web d2
 have m_wout:=fm wcl a_Qbq n_Qbq F_Qbq o_wout
 have q_wout:=fm wcl a_Qbq n_Qbq F_Qbq o_wout.quiet
 have o_wpl:=ok_wpl F_Qbo T d_name m_has m_ts m_web d0 d1
 have m_wpl:=fm wcl a_Qbo n_Qbo F_Qbo o_wpl
 have q_wpl:=fm wcl a_Qbo n_Qbo F_Qbo o_wpl.quiet
 have m_wti:=fm wcl a_Qbp n_Qbp F_Qbp (ok_wti F_Qbp T m_tied m_ts m_web d3)
 have m_wot:=fm wcl a_Qbr n_Qbr F_Qbr (ok_wot F_Qbr T m_tied m_ts m_web d3)
 have d_odd:=fg X G a_l_odd F_Qal (ok_odd4 F_Qal d_take)
 have d_fresh:=fg X G a_l_fresh F_Qai (ok_fresh F_Qai)
 have d_names:=fg X G a_l_names F_Qak (ok_names F_Qak T d_take)
 have d_ties:=fg X G a_l_ties F_Qaw (ok_ties F_Qaw T d_take)
 have d_drawn:=fg X G a_l_drawn F_Qah (ok_drawn F_Qah d_take d_names d_ties)
 have d_shuf:=fg X G a_l_shuffled F_Qar (ok_shuf F_Qar T d_take)
 have d_ris:=fg X G a_l_rising F_Qao (ok_ris F_Qao)
 have d_ask:=fg X G a_l_asked F_Qae (ok_ask F_Qae T m_wout m_wpl m_wti m_wot)
 have d_said:=fg X G a_l_said F_Qap (ok_said F_Qap T m_told)
 have qgk:=fg X G a_l_in F_Qaj (ok_in F_Qaj T)
 have d_pd:=fg X G a_l_place_due F_Qam (ok_pd F_Qam T)
 have d_wd:=fg X G a_l_without_due F_Qay (ok_wd F_Qay T qgk)
 have d_td:=fg X G a_l_tie_due F_Qav (ok_td F_Qav T qgk d_ris)
 have d_same:=fg X G a_l_same F_Qaq (ok_same F_Qaq T)
 have d_some:=fg X G a_l_some F_Qas (ok_some F_Qas T d_take d_odd d_fresh)
 have d_thing:=fg X G a_l_thing F_Qau (ok_thing F_Qau T d_take d_odd d_fresh)
 have d_tl:=fg X G a_l_told F_Qax (ok_toldl F_Qax T m_how m_pls m_ts m_pcs q_num q_bs q_bb)
 have d_right:=fg X G a_l_right F_Qan (ok_rt4 F_Qan T d_take d_tl d_some d_thing d_same d_said d_ask d_wd d_pd d_td m_told)
 exact ok_law4 F_Qaz T (fg X G a_l_cell F_Qag (ok_cell F_Qag T)) (fg X G a_l_box F_Qaf (ok_box F_Qaf)) d_drawn d_shuf d_ris d_fresh q_web d_right q_wout q_wpl m_told
theorem walk {l:PySem.W.OpenLaw} {q:Program} {loose:List Str} {XP:(Str→Option Value)→Heap→Prop} {YP:World→Heap→Prop} {d:DefRec} {K:Params→PySem.W.Frag} (hn:l.most=some 63) (hdf:d.params.defaults=[])
  (hY:∀ (w:World) (h:Heap),YP w h→(K w.params).In h)
  (F:∀ (w:World) (mg:Str→Option Value) (fa:Addr) (h:Heap),(K w.params).In h→h.Ns mainGlobals mg→mg d.name=some (.ref fa) →
   ∃ fd:FuncData,(∀ (s:Shared) (u:Value),BindsTo s fd ⟨[u],[]⟩ [("_law_script",u)])∧∀ base:Heap,(K w.params).In base→base.Ns mainGlobals mg→FnOk l.prog w (K w.params) mg base CX0 11 fa fd ["_law_script"] (qeU (K w.params))) :
  PySem.W.WalkO q loose XP YP l.row.toRowW d [] (fun f vs=>PySem.call f vs):=
 L2.walk_of (n:=63) (k:=11) (x:="_law_script") (CX:=fun _=>CX0) (sp:=fun w=>qeU (K w.params)) hn (by decide) hdf ⟨rfl,by decide,by decide⟩ hY F (fun _ _ a ns hl _ hS=>⟨a,ns,rfl,hS,hl,fun _=>rfl⟩) fun _ _ _ _ _ z=>z
end K04
namespace Hd
open PySem PySem.W PySem.Calls PyProof.Rows
def qgo (tb:String→Option Builtin) (p:Program) (w:World) (n₀:Nat) (ann:Option Value):Nat→SharedT→Thread→Option SharedT
 | 0,_,_=>none
 | n + 1,s,t=>match through t with
  | true=>some s
  | false=>match stepOk n₀ ann t with
   | false=>none
   | true=>match stepT (denote tb) p w s t with
    | some (s',t')=>qgo tb p w n₀ ann n s' t'
    | none=>none
theorem qfs {tb:String→Option Builtin} {p:Program} {w:World} {n₀:Nat} {ann:Option Value}:∀ {n:Nat} {s s':SharedT} {t:Thread},qgo tb p w n₀ ann n s t=some s'→topRun tb p w n₀ ann n s.abs t=some s'.abs
 | 0,_,_,_,h=>by cases h
 | n + 1,s,s',t,h=>by
  unfold qgo at h
  unfold topRun
  cases he:through t with
  | true=>rw [he] at h;cases h;rfl
  | false =>
   rw [he] at h
   cases hk:stepOk n₀ ann t with
   | false=>rw [hk] at h;cases h
   | true =>
    rw [hk] at h
    cases hs:stepT (denote tb) p w s t with
    | none=>rw [hs] at h;cases h
    | some r=>obtain ⟨s₂,t₂⟩:=r;rw [hs] at h;rw [stepT_spec hs];exact qfs h
def qcX:List Obj→Nat→BT→BT
 | [],_,t=>t
 | o::r,n,t=>qcX r (n + 1) (t.ins n o)
noncomputable def qfH (P:Params) (os:OsState):SharedT:=⟨qcX (boot_heap P).objs.toList 0 .nil,(boot_heap P).objs.size,(boot_heap P).life,Array.mk [],boot_drawn,boot_toks,os⟩
theorem boot_abs (P:Params):absHeap (qcX (boot_heap P).objs.toList 0 .nil) (boot_heap P).objs.size (boot_heap P).life=boot_heap P:=by kernel_rfl
noncomputable def lookT (p q:Program) (Xt:Shared→Bool) {α:Type} (Yf:Shared→α) (N:Nat) (w:World) (os:OsState):=match (boot_heap w.params).isNs mainGlobals&&(Array.mk []:Array GenState).size==0 with
 | true=>(qgo treeTable p w (boot_heap w.params).objs.size ((boot_heap w.params).nsMap mainGlobals "__annotations__") N (qfH w.params os) (topStub p)).bind fun s=>match staticsOk (importedModules p.main.body) (boot_heap w.params) s.abs.heap&&namesBound p s.abs.heap&&gensDone s.abs&&laidKept (boot_heap w.params) s.abs.heap with
   | true=>some (openSeen q [] (importedModules p.main.body) Xt true s.abs,Yf s.abs)
   | false=>none
 | false=>none
theorem left_of {p q:Program} {Xt:Shared→Bool} {α:Type} {Yf:Shared→α} {Ya:World→α} {N:Nat} (e:opening p=plainProg p.main.scope.names) (hN:Nat.ble 600 N=true) (f:∀ s,fenceModules? p s=some s)
  (h:∀ w os,lookT p q Xt Yf N w os=some (openGood q [],Ya w)):LeftO p q [] Xt Yf Ya N:=fun w=>by
 obtain ⟨⟨h0,gs,d,k,os⟩,e1,e2⟩:=Option.map_eq_some_iff.mp (boot_open e hN f w)
 obtain ⟨rfl,rfl,rfl,rfl⟩:h0=boot_heap w.params∧gs=Array.mk []∧d=boot_drawn∧k=boot_toks:=by simpa using e2
 have hh:=h w os
 unfold lookT at hh
 unfold openEnds
 rw [e1]
 show (topFrom treeTable p w N _).map _=_
 unfold topFrom
 dsimp only
 split at hh
 ·rename_i z
  rw [z]
  obtain ⟨s,hs,q2⟩:=Option.bind_eq_some_iff.mp hh
  have r:=qfs hs
  have ba:(qfH w.params os).abs=⟨boot_heap w.params,Array.mk [],boot_drawn,boot_toks,os⟩:=by
   unfold qfH SharedT.abs
   dsimp only
   rw [boot_abs]
  rw [ba] at r
  dsimp only
  rw [r]
  split at q2
  ·rename_i z2
   show ((match staticsOk (importedModules p.main.body) (boot_heap w.params) s.abs.heap&&namesBound p s.abs.heap&&gensDone s.abs&&laidKept (boot_heap w.params) s.abs.heap with | true=>some s.abs | false=>none):Option Shared).map _=_
   rw [z2]
   exact q2
  ·cases q2
 ·cases hh
end Hd
namespace K04
open PySem L2 PyProof.Rows PySem.W
abbrev NN:Nat:=20000
noncomputable def Q:Program:=view PySem.Challenge.pw_onceroad_k04_webs_made_of_one [0,2,3,4,5,6,7,9,10,12,13,14,15,16,17,18,19,20,22,23,24,25,26,27,28,29,30,31,32,33,34,35,36,37,38,39,40,41,42,43]
def en (P:Params) (k:Str) (t:Tok) (v:Value):DictEntry:=⟨PyData.keyHash P k,.str k t,v⟩
noncomputable def Kf (P:Params):Frag:=
 (nat_lit 2,(⟨.none,none,.dict #[] 0,#[]⟩:Obj)) ::
 (nat_lit 3,(⟨(.type "dict"),none,.dict #[en P "__name__" 165 (.str "law_onceroad_k04_webs_made_of_one" 580),en P "__doc__" 166 .none,en P "__package__" 167 .none,en P "__loader__" 168 (.builtin "__main__.__loader__#opaque"),en P "__spec__" 169 .none,en P "__annotations__" 170 (.ref 6),en P "__builtins__" 171 (.ref 4),en P "__file__" 173 (.str "/claim/cut.py" 172),en P "__cached__" 174 .none,en P "_wall" 193 (.ref 21),en P "OnceError" 221 (.ref 38),en P "NoName" 246 (.ref 58),en P "Twice" 271 (.ref 77),en P "NoPlace" 296 (.ref 96),en P "NoTie" 321 (.ref 115),en P "TooMany" 346 (.ref 134),en P "LONGEST_NAME" 350 (.int 6 349),en P "is_name" 356 (.ref 141),en P "MOST_PLACES" 360 (.int 14 359),en P "MOST_TIES" 362 (.int 30 361),en P "Web" 521 (.ref 264),en P "has_bit" 529 (.ref 275),en P "is_place" 537 (.ref 282),en P "are_two_places" 546 (.ref 289),en P "numbers_of" 555 (.ref 296),en P "near_of" 567 (.ref 303),en P "piece_around" 579 (.ref 310),en P "_law_cell" 589 (.ref 317),en P "_law_box" 596 (.ref 324),en P "_law_take" 605 (.ref 331),en P "_law_names" 611 (.ref 336),en P "_law_ties" 623 (.ref 343),en P "_law_drawn" 633 (.ref 350),en P "_law_shuffled" 639 (.ref 355),en P "_law_fresh" 645 (.ref 360),en P "_law_rising" 651 (.ref 365),en P "_law_odd" 658 (.ref 372),en P "_law_asked" 669 (.ref 379),en P "_law_said" 676 (.ref 386),en P "_law_in" 684 (.ref 393),en P "_law_place_due" 694 (.ref 400),en P "_law_without_due" 700 (.ref 405),en P "_law_tie_due" 706 (.ref 410),en P "_law_same" 714 (.ref 417),en P "_law_some" 720 (.ref 422),en P "_law_thing" 729 (.ref 429),en P "_law_told" 735 (.ref 434),en P "_law_right" 753 (.ref 441),en P "law" 759 (.ref 446)] 49,#[]⟩:Obj)) ::
 (nat_lit 34,(⟨(.type "code"),none,.fields #[(.str "__init__" 208),(.str "OnceError.__init__" 209),(.str "/claim/cut.py" 210),(.int 7 0),(.int 2 0),(.int 0 0),(.int 0 0),(.int 3 0),(.ref 29),(.bool true),(.int 181 0),(.ref 30),.none,(.ref 31),(.ref 32),(.ref 33),(.int 213 0),(.int 7 0),(.str "/claim/cut.py" 214)],#[]⟩:Obj)) ::
 (nat_lit 35,(⟨(.type "function"),none,.func (fnOf "__init__" "OnceError.__init__" (qq qU) (qj qU) (qe qU) .none .none .none (.str "onceroad.errors" 194) none (.ref 34) .none),#[]⟩:Obj)) ::
 (nat_lit 37,(⟨(.type "dict"),none,.dict #[en P "__module__" 203 (.str "onceroad.errors" 194),en P "__firstlineno__" 207 (.int 5 206),en P "__init__" 215 (.ref 35),en P "__static_attributes__" 216 (.ref 36),en P "__weakref__" 218 (.ref 39),en P "__doc__" 219 .none] 3,#[]⟩:Obj)) ::
 (nat_lit 38,(⟨(.type "type"),none,.cls { name:="OnceError",bases:=[(.type "ValueError")],mro:=[(.ref 38),(.type "ValueError"),(.type "Exception"),(.type "BaseException"),(.type "object")],ns:=37,qualname:="OnceError",hasDict:=true,slotNames:=[],subclasses:=[(.ref 58),(.ref 77),(.ref 96),(.ref 115),(.ref 134)],abstract:=false,collection:=none,hasDel:=false },#[(some (.ref 22)),none,(some (.str "OnceError" 196)),(some (.str "OnceError" 204)),(some (.builtin "ValueError.__new__")),(some (.bool true))]⟩:Obj)) ::
 (nat_lit 54,(⟨(.type "code"),none,.fields #[(.str "__init__" 234),(.str "NoName.__init__" 235),(.str "/claim/cut.py" 236),(.int 11 0),(.int 2 0),(.int 0 0),(.int 0 0),(.int 3 0),(.ref 49),(.bool true),(.int 181 0),(.ref 50),.none,(.ref 51),(.ref 52),(.ref 53),(.int 239 0),(.int 11 0),(.str "/claim/cut.py" 240)],#[]⟩:Obj)) ::
 (nat_lit 55,(⟨(.type "function"),none,.func (fnOf "__init__" "NoName.__init__" (qq jz) (qj jz) (qe jz) .none .none .none (.str "onceroad.errors" 194) none (.ref 54) .none),#[]⟩:Obj)) ::
 (nat_lit 57,(⟨(.type "dict"),none,.dict #[en P "__module__" 229 (.str "onceroad.errors" 194),en P "__firstlineno__" 233 (.int 9 232),en P "__init__" 241 (.ref 55),en P "__static_attributes__" 243 (.ref 56),en P "__doc__" 244 .none] 2,#[]⟩:Obj)) ::
 (nat_lit 58,(⟨(.type "type"),none,.cls { name:="NoName",bases:=[(.ref 38)],mro:=[(.ref 58),(.ref 38),(.type "ValueError"),(.type "Exception"),(.type "BaseException"),(.type "object")],ns:=57,qualname:="NoName",hasDict:=true,slotNames:=[],subclasses:=[],abstract:=false,collection:=none,hasDel:=false },#[(some (.ref 42)),none,(some (.str "NoName" 222)),(some (.str "NoName" 230)),(some (.builtin "ValueError.__new__")),(some (.bool true))]⟩:Obj)) ::
 (nat_lit 73,(⟨(.type "code"),none,.fields #[(.str "__init__" 259),(.str "Twice.__init__" 260),(.str "/claim/cut.py" 261),(.int 16 0),(.int 2 0),(.int 0 0),(.int 0 0),(.int 3 0),(.ref 68),(.bool true),(.int 181 0),(.ref 69),.none,(.ref 70),(.ref 71),(.ref 72),(.int 264 0),(.int 16 0),(.str "/claim/cut.py" 265)],#[]⟩:Obj)) ::
 (nat_lit 74,(⟨(.type "function"),none,.func (fnOf "__init__" "Twice.__init__" (qq jH) (qj jH) (qe jH) .none .none .none (.str "onceroad.errors" 194) none (.ref 73) .none),#[]⟩:Obj)) ::
 (nat_lit 76,(⟨(.type "dict"),none,.dict #[en P "__module__" 254 (.str "onceroad.errors" 194),en P "__firstlineno__" 258 (.int 14 257),en P "__init__" 266 (.ref 74),en P "__static_attributes__" 268 (.ref 75),en P "__doc__" 269 .none] 2,#[]⟩:Obj)) ::
 (nat_lit 77,(⟨(.type "type"),none,.cls { name:="Twice",bases:=[(.ref 38)],mro:=[(.ref 77),(.ref 38),(.type "ValueError"),(.type "Exception"),(.type "BaseException"),(.type "object")],ns:=76,qualname:="Twice",hasDict:=true,slotNames:=[],subclasses:=[],abstract:=false,collection:=none,hasDel:=false },#[(some (.ref 61)),none,(some (.str "Twice" 247)),(some (.str "Twice" 255)),(some (.builtin "ValueError.__new__")),(some (.bool true))]⟩:Obj)) ::
 (nat_lit 92,(⟨(.type "code"),none,.fields #[(.str "__init__" 284),(.str "NoPlace.__init__" 285),(.str "/claim/cut.py" 286),(.int 21 0),(.int 2 0),(.int 0 0),(.int 0 0),(.int 3 0),(.ref 87),(.bool true),(.int 181 0),(.ref 88),.none,(.ref 89),(.ref 90),(.ref 91),(.int 289 0),(.int 21 0),(.str "/claim/cut.py" 290)],#[]⟩:Obj)) ::
 (nat_lit 93,(⟨(.type "function"),none,.func (fnOf "__init__" "NoPlace.__init__" (qq jm) (qj jm) (qe jm) .none .none .none (.str "onceroad.errors" 194) none (.ref 92) .none),#[]⟩:Obj)) ::
 (nat_lit 95,(⟨(.type "dict"),none,.dict #[en P "__module__" 279 (.str "onceroad.errors" 194),en P "__firstlineno__" 283 (.int 19 282),en P "__init__" 291 (.ref 93),en P "__static_attributes__" 293 (.ref 94),en P "__doc__" 294 .none] 2,#[]⟩:Obj)) ::
 (nat_lit 96,(⟨(.type "type"),none,.cls { name:="NoPlace",bases:=[(.ref 38)],mro:=[(.ref 96),(.ref 38),(.type "ValueError"),(.type "Exception"),(.type "BaseException"),(.type "object")],ns:=95,qualname:="NoPlace",hasDict:=true,slotNames:=[],subclasses:=[],abstract:=false,collection:=none,hasDel:=false },#[(some (.ref 80)),none,(some (.str "NoPlace" 272)),(some (.str "NoPlace" 280)),(some (.builtin "ValueError.__new__")),(some (.bool true))]⟩:Obj)) ::
 (nat_lit 111,(⟨(.type "code"),none,.fields #[(.str "__init__" 309),(.str "NoTie.__init__" 310),(.str "/claim/cut.py" 311),(.int 26 0),(.int 2 0),(.int 0 0),(.int 0 0),(.int 3 0),(.ref 106),(.bool true),(.int 181 0),(.ref 107),.none,(.ref 108),(.ref 109),(.ref 110),(.int 314 0),(.int 26 0),(.str "/claim/cut.py" 315)],#[]⟩:Obj)) ::
 (nat_lit 112,(⟨(.type "function"),none,.func (fnOf "__init__" "NoTie.__init__" (qq jI) (qj jI) (qe jI) .none .none .none (.str "onceroad.errors" 194) none (.ref 111) .none),#[]⟩:Obj)) ::
 (nat_lit 114,(⟨(.type "dict"),none,.dict #[en P "__module__" 304 (.str "onceroad.errors" 194),en P "__firstlineno__" 308 (.int 24 307),en P "__init__" 316 (.ref 112),en P "__static_attributes__" 318 (.ref 113),en P "__doc__" 319 .none] 2,#[]⟩:Obj)) ::
 (nat_lit 115,(⟨(.type "type"),none,.cls { name:="NoTie",bases:=[(.ref 38)],mro:=[(.ref 115),(.ref 38),(.type "ValueError"),(.type "Exception"),(.type "BaseException"),(.type "object")],ns:=114,qualname:="NoTie",hasDict:=true,slotNames:=[],subclasses:=[],abstract:=false,collection:=none,hasDel:=false },#[(some (.ref 99)),none,(some (.str "NoTie" 297)),(some (.str "NoTie" 305)),(some (.builtin "ValueError.__new__")),(some (.bool true))]⟩:Obj)) ::
 (nat_lit 130,(⟨(.type "code"),none,.fields #[(.str "__init__" 334),(.str "TooMany.__init__" 335),(.str "/claim/cut.py" 336),(.int 31 0),(.int 2 0),(.int 0 0),(.int 0 0),(.int 3 0),(.ref 125),(.bool true),(.int 181 0),(.ref 126),.none,(.ref 127),(.ref 128),(.ref 129),(.int 339 0),(.int 31 0),(.str "/claim/cut.py" 340)],#[]⟩:Obj)) ::
 (nat_lit 131,(⟨(.type "function"),none,.func (fnOf "__init__" "TooMany.__init__" (qq jn) (qj jn) (qe jn) .none .none .none (.str "onceroad.errors" 194) none (.ref 130) .none),#[]⟩:Obj)) ::
 (nat_lit 133,(⟨(.type "dict"),none,.dict #[en P "__module__" 329 (.str "onceroad.errors" 194),en P "__firstlineno__" 333 (.int 29 332),en P "__init__" 341 (.ref 131),en P "__static_attributes__" 343 (.ref 132),en P "__doc__" 344 .none] 2,#[]⟩:Obj)) ::
 (nat_lit 134,(⟨(.type "type"),none,.cls { name:="TooMany",bases:=[(.ref 38)],mro:=[(.ref 134),(.ref 38),(.type "ValueError"),(.type "Exception"),(.type "BaseException"),(.type "object")],ns:=133,qualname:="TooMany",hasDict:=true,slotNames:=[],subclasses:=[],abstract:=false,collection:=none,hasDel:=false },#[(some (.ref 118)),none,(some (.str "TooMany" 322)),(some (.str "TooMany" 330)),(some (.builtin "ValueError.__new__")),(some (.bool true))]⟩:Obj)) ::
 (nat_lit 140,(⟨(.type "code"),none,.fields #[(.str "is_name" 351),(.str "is_name" 352),(.str "/claim/cut.py" 353),(.int 36 0),(.int 1 0),(.int 0 0),(.int 0 0),(.int 3 0),(.ref 137),(.bool true),(.int 181 0),(.ref 138),.none,.none,.none,(.ref 139),(.int 354 0),(.int 36 0),(.str "/claim/cut.py" 355)],#[]⟩:Obj)) ::
 (nat_lit 141,(⟨(.type "function"),none,.func (fnOf "is_name" "is_name" (qq zo) (qj zo) (qe zo) .none .none .none (.str "onceroad.names" 347) none (.ref 140) .none),#[]⟩:Obj)) ::
 (nat_lit 154,(⟨(.type "code"),none,.fields #[(.str "__init__" 375),(.str "Web.__init__" 376),(.str "/claim/cut.py" 377),(.int 45 0),(.int 3 0),(.int 0 0),(.int 0 0),(.int 3 0),(.ref 149),(.bool true),(.int 181 0),(.ref 150),.none,(.ref 151),(.ref 152),(.ref 153),(.int 381 0),(.int 45 0),(.str "/claim/cut.py" 382)],#[]⟩:Obj)) ::
 (nat_lit 155,(⟨(.type "function"),none,.func (fnOf "__init__" "Web.__init__" (qq zh) (qj zh) (qe zh) .none .none .none (.str "onceroad.webs" 357) none (.ref 154) .none),#[]⟩:Obj)) ::
 (nat_lit 161,(⟨(.type "code"),none,.fields #[(.str "places" 384),(.str "Web.places" 385),(.str "/claim/cut.py" 386),(.int 50 0),(.int 1 0),(.int 0 0),(.int 0 0),(.int 3 0),(.ref 156),(.bool true),(.int 181 0),(.ref 157),.none,(.ref 158),(.ref 159),(.ref 160),(.int 388 0),(.int 50 0),(.str "/claim/cut.py" 389)],#[]⟩:Obj)) ::
 (nat_lit 162,(⟨(.type "function"),none,.func (fnOf "places" "Web.places" (qq jK) (qj jK) (qe jK) .none .none .none (.str "onceroad.webs" 357) none (.ref 161) .none),#[]⟩:Obj)) ::
 (nat_lit 168,(⟨(.type "code"),none,.fields #[(.str "ties" 391),(.str "Web.ties" 392),(.str "/claim/cut.py" 393),(.int 53 0),(.int 1 0),(.int 0 0),(.int 0 0),(.int 3 0),(.ref 163),(.bool true),(.int 181 0),(.ref 164),.none,(.ref 165),(.ref 166),(.ref 167),(.int 398 0),(.int 53 0),(.str "/claim/cut.py" 399)],#[]⟩:Obj)) ::
 (nat_lit 169,(⟨(.type "function"),none,.func (fnOf "ties" "Web.ties" (qq zk) (qj zk) (qe zk) .none .none .none (.str "onceroad.webs" 357) none (.ref 168) .none),#[]⟩:Obj)) ::
 (nat_lit 175,(⟨(.type "code"),none,.fields #[(.str "how_many" 401),(.str "Web.how_many" 402),(.str "/claim/cut.py" 403),(.int 61 0),(.int 1 0),(.int 0 0),(.int 0 0),(.int 3 0),(.ref 170),(.bool true),(.int 181 0),(.ref 171),.none,(.ref 172),(.ref 173),(.ref 174),(.int 405 0),(.int 61 0),(.str "/claim/cut.py" 406)],#[]⟩:Obj)) ::
 (nat_lit 176,(⟨(.type "function"),none,.func (fnOf "how_many" "Web.how_many" (qq jo) (qj jo) (qe jo) .none .none .none (.str "onceroad.webs" 357) none (.ref 175) .none),#[]⟩:Obj)) ::
 (nat_lit 182,(⟨(.type "code"),none,.fields #[(.str "has_place" 408),(.str "Web.has_place" 409),(.str "/claim/cut.py" 410),(.int 64 0),(.int 2 0),(.int 0 0),(.int 0 0),(.int 3 0),(.ref 177),(.bool true),(.int 181 0),(.ref 178),.none,(.ref 179),(.ref 180),(.ref 181),(.int 413 0),(.int 64 0),(.str "/claim/cut.py" 414)],#[]⟩:Obj)) ::
 (nat_lit 183,(⟨(.type "function"),none,.func (fnOf "has_place" "Web.has_place" (qq jf) (qj jf) (qe jf) .none .none .none (.str "onceroad.webs" 357) none (.ref 182) .none),#[]⟩:Obj)) ::
 (nat_lit 196,(⟨(.type "code"),none,.fields #[(.str "number_of" 424),(.str "Web.number_of" 425),(.str "/claim/cut.py" 426),(.int 70 0),(.int 2 0),(.int 0 0),(.int 0 0),(.int 3 0),(.ref 191),(.bool true),(.int 181 0),(.ref 192),.none,(.ref 193),(.ref 194),(.ref 195),(.int 429 0),(.int 70 0),(.str "/claim/cut.py" 430)],#[]⟩:Obj)) ::
 (nat_lit 197,(⟨(.type "function"),none,.func (fnOf "number_of" "Web.number_of" (qq jg) (qj jg) (qe jg) .none .none .none (.str "onceroad.webs" 357) none (.ref 196) .none),#[]⟩:Obj)) ::
 (nat_lit 203,(⟨(.type "code"),none,.fields #[(.str "beside" 432),(.str "Web.beside" 433),(.str "/claim/cut.py" 434),(.int 75 0),(.int 2 0),(.int 0 0),(.int 0 0),(.int 3 0),(.ref 198),(.bool true),(.int 181 0),(.ref 199),.none,(.ref 200),(.ref 201),(.ref 202),(.int 437 0),(.int 75 0),(.str "/claim/cut.py" 438)],#[]⟩:Obj)) ::
 (nat_lit 204,(⟨(.type "function"),none,.func (fnOf "beside" "Web.beside" (qq jL) (qj jL) (qe jL) .none .none .none (.str "onceroad.webs" 357) none (.ref 203) .none),#[]⟩:Obj)) ::
 (nat_lit 210,(⟨(.type "code"),none,.fields #[(.str "bits_beside" 440),(.str "Web.bits_beside" 441),(.str "/claim/cut.py" 442),(.int 78 0),(.int 2 0),(.int 0 0),(.int 0 0),(.int 3 0),(.ref 205),(.bool true),(.int 181 0),(.ref 206),.none,(.ref 207),(.ref 208),(.ref 209),(.int 445 0),(.int 78 0),(.str "/claim/cut.py" 446)],#[]⟩:Obj)) ::
 (nat_lit 211,(⟨(.type "function"),none,.func (fnOf "bits_beside" "Web.bits_beside" (qq qS) (qj qS) (qe qS) .none .none .none (.str "onceroad.webs" 357) none (.ref 210) .none),#[]⟩:Obj)) ::
 (nat_lit 217,(⟨(.type "code"),none,.fields #[(.str "tied" 448),(.str "Web.tied" 449),(.str "/claim/cut.py" 450),(.int 81 0),(.int 3 0),(.int 0 0),(.int 0 0),(.int 3 0),(.ref 212),(.bool true),(.int 181 0),(.ref 213),.none,(.ref 214),(.ref 215),(.ref 216),(.int 455 0),(.int 81 0),(.str "/claim/cut.py" 456)],#[]⟩:Obj)) ::
 (nat_lit 218,(⟨(.type "function"),none,.func (fnOf "tied" "Web.tied" (qq zi) (qj zi) (qe zi) .none .none .none (.str "onceroad.webs" 357) none (.ref 217) .none),#[]⟩:Obj)) ::
 (nat_lit 224,(⟨(.type "code"),none,.fields #[(.str "pieces" 458),(.str "Web.pieces" 459),(.str "/claim/cut.py" 460),(.int 85 0),(.int 1 0),(.int 0 0),(.int 0 0),(.int 3 0),(.ref 219),(.bool true),(.int 181 0),(.ref 220),.none,(.ref 221),(.ref 222),(.ref 223),(.int 466 0),(.int 85 0),(.str "/claim/cut.py" 467)],#[]⟩:Obj)) ::
 (nat_lit 225,(⟨(.type "function"),none,.func (fnOf "pieces" "Web.pieces" (qq jM) (qj jM) (qe jM) .none .none .none (.str "onceroad.webs" 357) none (.ref 224) .none),#[]⟩:Obj)) ::
 (nat_lit 231,(⟨(.type "code"),none,.fields #[(.str "told" 469),(.str "Web.told" 470),(.str "/claim/cut.py" 471),(.int 95 0),(.int 1 0),(.int 0 0),(.int 0 0),(.int 3 0),(.ref 226),(.bool true),(.int 181 0),(.ref 227),.none,(.ref 228),(.ref 229),(.ref 230),(.int 473 0),(.int 95 0),(.str "/claim/cut.py" 474)],#[]⟩:Obj)) ::
 (nat_lit 232,(⟨(.type "function"),none,.func (fnOf "told" "Web.told" (qq zl) (qj zl) (qe zl) .none .none .none (.str "onceroad.webs" 357) none (.ref 231) .none),#[]⟩:Obj)) ::
 (nat_lit 236,(⟨(.type "code"),none,.fields #[(.str "names_in" 476),(.str "Web.names_in" 477),(.str "/claim/cut.py" 478),(.int 98 0),(.int 2 0),(.int 0 0),(.int 0 0),(.int 3 0),(.ref 233),(.bool true),(.int 181 0),(.ref 234),.none,.none,.none,(.ref 235),(.int 479 0),(.int 98 0),(.str "/claim/cut.py" 480)],#[]⟩:Obj)) ::
 (nat_lit 237,(⟨(.type "function"),none,.func (fnOf "names_in" "Web.names_in" (qq jc) (qj jc) (qe jc) .none .none .none (.str "onceroad.webs" 357) none (.ref 236) .none),#[]⟩:Obj)) ::
 (nat_lit 241,(⟨(.type "code"),none,.fields #[(.str "without" 482),(.str "Web.without" 483),(.str "/claim/cut.py" 484),(.int 101 0),(.int 2 0),(.int 0 0),(.int 0 0),(.int 3 0),(.ref 238),(.bool true),(.int 181 0),(.ref 239),.none,.none,.none,(.ref 240),(.int 485 0),(.int 101 0),(.str "/claim/cut.py" 486)],#[]⟩:Obj)) ::
 (nat_lit 242,(⟨(.type "function"),none,.func (fnOf "without" "Web.without" (qq q8) (qj q8) (qe q8) .none .none .none (.str "onceroad.webs" 357) none (.ref 241) .none),#[]⟩:Obj)) ::
 (nat_lit 248,(⟨(.type "code"),none,.fields #[(.str "with_place" 488),(.str "Web.with_place" 489),(.str "/claim/cut.py" 490),(.int 111 0),(.int 2 0),(.int 0 0),(.int 0 0),(.int 3 0),(.ref 243),(.bool true),(.int 181 0),(.ref 244),.none,(.ref 245),(.ref 246),(.ref 247),(.int 493 0),(.int 111 0),(.str "/claim/cut.py" 494)],#[]⟩:Obj)) ::
 (nat_lit 249,(⟨(.type "function"),none,.func (fnOf "with_place" "Web.with_place" (qq qW) (qj qW) (qe qW) .none .none .none (.str "onceroad.webs" 357) none (.ref 248) .none),#[]⟩:Obj)) ::
 (nat_lit 255,(⟨(.type "code"),none,.fields #[(.str "with_tie" 496),(.str "Web.with_tie" 497),(.str "/claim/cut.py" 498),(.int 118 0),(.int 3 0),(.int 0 0),(.int 0 0),(.int 3 0),(.ref 250),(.bool true),(.int 181 0),(.ref 251),.none,(.ref 252),(.ref 253),(.ref 254),(.int 502 0),(.int 118 0),(.str "/claim/cut.py" 503)],#[]⟩:Obj)) ::
 (nat_lit 256,(⟨(.type "function"),none,.func (fnOf "with_tie" "Web.with_tie" (qq jq) (qj jq) (qe jq) .none .none .none (.str "onceroad.webs" 357) none (.ref 255) .none),#[]⟩:Obj)) ::
 (nat_lit 260,(⟨(.type "code"),none,.fields #[(.str "without_tie" 505),(.str "Web.without_tie" 506),(.str "/claim/cut.py" 507),(.int 123 0),(.int 3 0),(.int 0 0),(.int 0 0),(.int 3 0),(.ref 257),(.bool true),(.int 181 0),(.ref 258),.none,.none,.none,(.ref 259),(.int 508 0),(.int 123 0),(.str "/claim/cut.py" 509)],#[]⟩:Obj)) ::
 (nat_lit 261,(⟨(.type "function"),none,.func (fnOf "without_tie" "Web.without_tie" (qq qN) (qj qN) (qe qN) .none .none .none (.str "onceroad.webs" 357) none (.ref 260) .none),#[]⟩:Obj)) ::
 (nat_lit 263,(⟨(.type "dict"),none,.dict #[en P "__module__" 370 (.str "onceroad.webs" 357),en P "__firstlineno__" 374 (.int 43 373),en P "__init__" 383 (.ref 155),en P "places" 390 (.ref 162),en P "ties" 400 (.ref 169),en P "how_many" 407 (.ref 176),en P "has_place" 415 (.ref 183),en P "has_tie" 423 (.ref 190),en P "number_of" 431 (.ref 197),en P "beside" 439 (.ref 204),en P "bits_beside" 447 (.ref 211),en P "tied" 457 (.ref 218),en P "pieces" 468 (.ref 225),en P "told" 475 (.ref 232),en P "names_in" 481 (.ref 237),en P "without" 487 (.ref 242),en P "with_place" 495 (.ref 249),en P "with_tie" 504 (.ref 256),en P "without_tie" 510 (.ref 261),en P "__static_attributes__" 514 (.ref 262),en P "__dict__" 516 (.ref 265),en P "__weakref__" 518 (.ref 266),en P "__doc__" 519 .none] 4,#[]⟩:Obj)) ::
 (nat_lit 264,(⟨(.type "type"),none,.cls { name:="Web",bases:=[(.type "object")],mro:=[(.ref 264),(.type "object")],ns:=263,qualname:="Web",hasDict:=true,slotNames:=[],subclasses:=[],abstract:=false,collection:=none,hasDel:=false },#[none,none,(some (.str "Web" 363)),(some (.str "Web" 371)),(some (.builtin "object.__new__")),(some (.bool true))]⟩:Obj)) ::
 (nat_lit 274,(⟨(.type "code"),none,.fields #[(.str "has_bit" 522),(.str "has_bit" 523),(.str "/claim/cut.py" 524),(.int 128 0),(.int 2 0),(.int 0 0),(.int 0 0),(.int 3 0),(.ref 269),(.bool true),(.int 181 0),(.ref 270),.none,(.ref 271),(.ref 272),(.ref 273),(.int 527 0),(.int 128 0),(.str "/claim/cut.py" 528)],#[]⟩:Obj)) ::
 (nat_lit 275,(⟨(.type "function"),none,.func (fnOf "has_bit" "has_bit" (qq zA) (qj zA) (qe zA) .none .none .none (.str "onceroad.webs" 357) none (.ref 274) .none),#[]⟩:Obj)) ::
 (nat_lit 281,(⟨(.type "code"),none,.fields #[(.str "is_place" 530),(.str "is_place" 531),(.str "/claim/cut.py" 532),(.int 130 0),(.int 2 0),(.int 0 0),(.int 0 0),(.int 3 0),(.ref 276),(.bool true),(.int 181 0),(.ref 277),.none,(.ref 278),(.ref 279),(.ref 280),(.int 535 0),(.int 130 0),(.str "/claim/cut.py" 536)],#[]⟩:Obj)) ::
 (nat_lit 282,(⟨(.type "function"),none,.func (fnOf "is_place" "is_place" (qq zg) (qj zg) (qe zg) .none .none .none (.str "onceroad.webs" 357) none (.ref 281) .none),#[]⟩:Obj)) ::
 (nat_lit 288,(⟨(.type "code"),none,.fields #[(.str "are_two_places" 538),(.str "are_two_places" 539),(.str "/claim/cut.py" 540),(.int 132 0),(.int 2 0),(.int 0 0),(.int 0 0),(.int 3 0),(.ref 283),(.bool true),(.int 181 0),(.ref 284),.none,(.ref 285),(.ref 286),(.ref 287),(.int 544 0),(.int 132 0),(.str "/claim/cut.py" 545)],#[]⟩:Obj)) ::
 (nat_lit 289,(⟨(.type "function"),none,.func (fnOf "are_two_places" "are_two_places" (qq qV) (qj qV) (qe qV) .none .none .none (.str "onceroad.webs" 357) none (.ref 288) .none),#[]⟩:Obj)) ::
 (nat_lit 295,(⟨(.type "code"),none,.fields #[(.str "numbers_of" 547),(.str "numbers_of" 548),(.str "/claim/cut.py" 549),(.int 137 0),(.int 1 0),(.int 0 0),(.int 0 0),(.int 3 0),(.ref 290),(.bool true),(.int 181 0),(.ref 291),.none,(.ref 292),(.ref 293),(.ref 294),(.int 553 0),(.int 137 0),(.str "/claim/cut.py" 554)],#[]⟩:Obj)) ::
 (nat_lit 296,(⟨(.type "function"),none,.func (fnOf "numbers_of" "numbers_of" (qq jJ) (qj jJ) (qe jJ) .none .none .none (.str "onceroad.webs" 357) none (.ref 295) .none),#[]⟩:Obj)) ::
 (nat_lit 302,(⟨(.type "code"),none,.fields #[(.str "near_of" 556),(.str "near_of" 557),(.str "/claim/cut.py" 558),(.int 150 0),(.int 2 0),(.int 0 0),(.int 0 0),(.int 3 0),(.ref 297),(.bool true),(.int 181 0),(.ref 298),.none,(.ref 299),(.ref 300),(.ref 301),(.int 565 0),(.int 150 0),(.str "/claim/cut.py" 566)],#[]⟩:Obj)) ::
 (nat_lit 303,(⟨(.type "function"),none,.func (fnOf "near_of" "near_of" (qq zB) (qj zB) (qe zB) .none .none .none (.str "onceroad.webs" 357) none (.ref 302) .none),#[]⟩:Obj)) ::
 (nat_lit 309,(⟨(.type "code"),none,.fields #[(.str "piece_around" 568),(.str "piece_around" 569),(.str "/claim/cut.py" 570),(.int 166 0),(.int 2 0),(.int 0 0),(.int 0 0),(.int 3 0),(.ref 304),(.bool true),(.int 181 0),(.ref 305),.none,(.ref 306),(.ref 307),(.ref 308),(.int 577 0),(.int 166 0),(.str "/claim/cut.py" 578)],#[]⟩:Obj)) ::
 (nat_lit 310,(⟨(.type "function"),none,.func (fnOf "piece_around" "piece_around" (qq jp) (qj jp) (qe jp) .none .none .none (.str "onceroad.webs" 357) none (.ref 309) .none),#[]⟩:Obj)) ::
 (nat_lit 316,(⟨(.type "code"),none,.fields #[(.str "_law_cell" 582),(.str "_law_cell" 583),(.str "/claim/cut.py" 584),(.int 176 0),(.int 2 0),(.int 0 0),(.int 0 0),(.int 3 0),(.ref 311),(.bool true),(.int 181 0),(.ref 312),.none,(.ref 313),(.ref 314),(.ref 315),(.int 587 0),(.int 176 0),(.str "/claim/cut.py" 588)],#[]⟩:Obj)) ::
 (nat_lit 317,(⟨(.type "function"),none,.func (fnOf "_law_cell" "_law_cell" (qq qai) (qj qai) (qe qai) .none .none .none (.str "law_onceroad_k04_webs_made_of_one" 580) none (.ref 316) .none),#[]⟩:Obj)) ::
 (nat_lit 323,(⟨(.type "code"),none,.fields #[(.str "_law_box" 590),(.str "_law_box" 591),(.str "/claim/cut.py" 592),(.int 180 0),(.int 1 0),(.int 0 0),(.int 0 0),(.int 3 0),(.ref 318),(.bool true),(.int 181 0),(.ref 319),.none,(.ref 320),(.ref 321),(.ref 322),(.int 594 0),(.int 180 0),(.str "/claim/cut.py" 595)],#[]⟩:Obj)) ::
 (nat_lit 324,(⟨(.type "function"),none,.func (fnOf "_law_box" "_law_box" (qq qaZ) (qj qaZ) (qe qaZ) .none .none .none (.str "law_onceroad_k04_webs_made_of_one" 580) none (.ref 323) .none),#[]⟩:Obj)) ::
 (nat_lit 330,(⟨(.type "code"),none,.fields #[(.str "_law_take" 597),(.str "_law_take" 598),(.str "/claim/cut.py" 599),(.int 184 0),(.int 2 0),(.int 0 0),(.int 0 0),(.int 3 0),(.ref 325),(.bool true),(.int 181 0),(.ref 326),.none,(.ref 327),(.ref 328),(.ref 329),(.int 603 0),(.int 184 0),(.str "/claim/cut.py" 604)],#[]⟩:Obj)) ::
 (nat_lit 331,(⟨(.type "function"),none,.func (fnOf "_law_take" "_law_take" (qq qaj) (qj qaj) (qe qaj) .none .none .none (.str "law_onceroad_k04_webs_made_of_one" 580) none (.ref 330) .none),#[]⟩:Obj)) ::
 (nat_lit 335,(⟨(.type "code"),none,.fields #[(.str "_law_names" 606),(.str "_law_names" 607),(.str "/claim/cut.py" 608),(.int 193 0),(.int 2 0),(.int 0 0),(.int 0 0),(.int 3 0),(.ref 332),(.bool true),(.int 181 0),(.ref 333),.none,.none,.none,(.ref 334),(.int 609 0),(.int 193 0),(.str "/claim/cut.py" 610)],#[]⟩:Obj)) ::
 (nat_lit 336,(⟨(.type "function"),none,.func (fnOf "_law_names" "_law_names" (qq za) (qj za) (qe za) .none .none .none (.str "law_onceroad_k04_webs_made_of_one" 580) none (.ref 335) .none),#[]⟩:Obj)) ::
 (nat_lit 342,(⟨(.type "code"),none,.fields #[(.str "_law_ties" 612),(.str "_law_ties" 613),(.str "/claim/cut.py" 614),(.int 207 0),(.int 2 0),(.int 0 0),(.int 0 0),(.int 3 0),(.ref 337),(.bool true),(.int 181 0),(.ref 338),.none,(.ref 339),(.ref 340),(.ref 341),(.int 621 0),(.int 207 0),(.str "/claim/cut.py" 622)],#[]⟩:Obj)) ::
 (nat_lit 343,(⟨(.type "function"),none,.func (fnOf "_law_ties" "_law_ties" (qq qal) (qj qal) (qe qal) .none .none .none (.str "law_onceroad_k04_webs_made_of_one" 580) none (.ref 342) .none),#[]⟩:Obj)) ::
 (nat_lit 349,(⟨(.type "code"),none,.fields #[(.str "_law_drawn" 624),(.str "_law_drawn" 625),(.str "/claim/cut.py" 626),(.int 215 0),(.int 2 0),(.int 0 0),(.int 0 0),(.int 3 0),(.ref 344),(.bool true),(.int 181 0),(.ref 345),.none,(.ref 346),(.ref 347),(.ref 348),(.int 631 0),(.int 215 0),(.str "/claim/cut.py" 632)],#[]⟩:Obj)) ::
 (nat_lit 350,(⟨(.type "function"),none,.func (fnOf "_law_drawn" "_law_drawn" (qq zD) (qj zD) (qe zD) .none .none .none (.str "law_onceroad_k04_webs_made_of_one" 580) none (.ref 349) .none),#[]⟩:Obj)) ::
 (nat_lit 354,(⟨(.type "code"),none,.fields #[(.str "_law_shuffled" 634),(.str "_law_shuffled" 635),(.str "/claim/cut.py" 636),(.int 221 0),(.int 2 0),(.int 0 0),(.int 0 0),(.int 3 0),(.ref 351),(.bool true),(.int 181 0),(.ref 352),.none,.none,.none,(.ref 353),(.int 637 0),(.int 221 0),(.str "/claim/cut.py" 638)],#[]⟩:Obj)) ::
 (nat_lit 355,(⟨(.type "function"),none,.func (fnOf "_law_shuffled" "_law_shuffled" (qq ju) (qj ju) (qe ju) .none .none .none (.str "law_onceroad_k04_webs_made_of_one" 580) none (.ref 354) .none),#[]⟩:Obj)) ::
 (nat_lit 359,(⟨(.type "code"),none,.fields #[(.str "_law_fresh" 640),(.str "_law_fresh" 641),(.str "/claim/cut.py" 642),(.int 227 0),(.int 1 0),(.int 0 0),(.int 0 0),(.int 3 0),(.ref 356),(.bool true),(.int 181 0),(.ref 357),.none,.none,.none,(.ref 358),(.int 643 0),(.int 227 0),(.str "/claim/cut.py" 644)],#[]⟩:Obj)) ::
 (nat_lit 360,(⟨(.type "function"),none,.func (fnOf "_law_fresh" "_law_fresh" (qq zp) (qj zp) (qe zp) .none .none .none (.str "law_onceroad_k04_webs_made_of_one" 580) none (.ref 359) .none),#[]⟩:Obj)) ::
 (nat_lit 364,(⟨(.type "code"),none,.fields #[(.str "_law_rising" 646),(.str "_law_rising" 647),(.str "/claim/cut.py" 648),(.int 229 0),(.int 2 0),(.int 0 0),(.int 0 0),(.int 3 0),(.ref 361),(.bool true),(.int 181 0),(.ref 362),.none,.none,.none,(.ref 363),(.int 649 0),(.int 229 0),(.str "/claim/cut.py" 650)],#[]⟩:Obj)) ::
 (nat_lit 365,(⟨(.type "function"),none,.func (fnOf "_law_rising" "_law_rising" (qq jX) (qj jX) (qe jX) .none .none .none (.str "law_onceroad_k04_webs_made_of_one" 580) none (.ref 364) .none),#[]⟩:Obj)) ::
 (nat_lit 371,(⟨(.type "code"),none,.fields #[(.str "_law_odd" 652),(.str "_law_odd" 653),(.str "/claim/cut.py" 654),(.int 234 0),(.int 1 0),(.int 0 0),(.int 0 0),(.int 3 0),(.ref 366),(.bool true),(.int 181 0),(.ref 367),.none,(.ref 368),(.ref 369),(.ref 370),(.int 656 0),(.int 234 0),(.str "/claim/cut.py" 657)],#[]⟩:Obj)) ::
 (nat_lit 372,(⟨(.type "function"),none,.func (fnOf "_law_odd" "_law_odd" (qq qaz) (qj qaz) (qe qaz) .none .none .none (.str "law_onceroad_k04_webs_made_of_one" 580) none (.ref 371) .none),#[]⟩:Obj)) ::
 (nat_lit 378,(⟨(.type "code"),none,.fields #[(.str "_law_asked" 659),(.str "_law_asked" 660),(.str "/claim/cut.py" 661),(.int 236 0),(.int 3 0),(.int 0 0),(.int 0 0),(.int 3 0),(.ref 373),(.bool true),(.int 181 0),(.ref 374),.none,(.ref 375),(.ref 376),(.ref 377),(.int 667 0),(.int 236 0),(.str "/claim/cut.py" 668)],#[]⟩:Obj)) ::
 (nat_lit 379,(⟨(.type "function"),none,.func (fnOf "_law_asked" "_law_asked" (qq zE) (qj zE) (qe zE) .none .none .none (.str "law_onceroad_k04_webs_made_of_one" 580) none (.ref 378) .none),#[]⟩:Obj)) ::
 (nat_lit 385,(⟨(.type "code"),none,.fields #[(.str "_law_said" 670),(.str "_law_said" 671),(.str "/claim/cut.py" 672),(.int 250 0),(.int 1 0),(.int 0 0),(.int 0 0),(.int 3 0),(.ref 380),(.bool true),(.int 181 0),(.ref 381),.none,(.ref 382),(.ref 383),(.ref 384),(.int 674 0),(.int 250 0),(.str "/claim/cut.py" 675)],#[]⟩:Obj)) ::
 (nat_lit 386,(⟨(.type "function"),none,.func (fnOf "_law_said" "_law_said" (qq qao) (qj qao) (qe qao) .none .none .none (.str "law_onceroad_k04_webs_made_of_one" 580) none (.ref 385) .none),#[]⟩:Obj)) ::
 (nat_lit 392,(⟨(.type "code"),none,.fields #[(.str "_law_in" 677),(.str "_law_in" 678),(.str "/claim/cut.py" 679),(.int 262 0),(.int 2 0),(.int 0 0),(.int 0 0),(.int 3 0),(.ref 387),(.bool true),(.int 181 0),(.ref 388),.none,(.ref 389),(.ref 390),(.ref 391),(.int 682 0),(.int 262 0),(.str "/claim/cut.py" 683)],#[]⟩:Obj)) ::
 (nat_lit 393,(⟨(.type "function"),none,.func (fnOf "_law_in" "_law_in" (qq qbJ) (qj qbJ) (qe qbJ) .none .none .none (.str "law_onceroad_k04_webs_made_of_one" 580) none (.ref 392) .none),#[]⟩:Obj)) ::
 (nat_lit 399,(⟨(.type "code"),none,.fields #[(.str "_law_place_due" 685),(.str "_law_place_due" 686),(.str "/claim/cut.py" 687),(.int 264 0),(.int 3 0),(.int 0 0),(.int 0 0),(.int 3 0),(.ref 394),(.bool true),(.int 181 0),(.ref 395),.none,(.ref 396),(.ref 397),(.ref 398),(.int 692 0),(.int 264 0),(.str "/claim/cut.py" 693)],#[]⟩:Obj)) ::
 (nat_lit 400,(⟨(.type "function"),none,.func (fnOf "_law_place_due" "_law_place_due" (qq jA) (qj jA) (qe jA) .none .none .none (.str "law_onceroad_k04_webs_made_of_one" 580) none (.ref 399) .none),#[]⟩:Obj)) ::
 (nat_lit 404,(⟨(.type "code"),none,.fields #[(.str "_law_without_due" 695),(.str "_law_without_due" 696),(.str "/claim/cut.py" 697),(.int 273 0),(.int 3 0),(.int 0 0),(.int 0 0),(.int 3 0),(.ref 401),(.bool true),(.int 181 0),(.ref 402),.none,.none,.none,(.ref 403),(.int 698 0),(.int 273 0),(.str "/claim/cut.py" 699)],#[]⟩:Obj)) ::
 (nat_lit 405,(⟨(.type "function"),none,.func (fnOf "_law_without_due" "_law_without_due" (qq qO) (qj qO) (qe qO) .none .none .none (.str "law_onceroad_k04_webs_made_of_one" 580) none (.ref 404) .none),#[]⟩:Obj)) ::
 (nat_lit 409,(⟨(.type "code"),none,.fields #[(.str "_law_tie_due" 701),(.str "_law_tie_due" 702),(.str "/claim/cut.py" 703),(.int 281 0),(.int 4 0),(.int 0 0),(.int 0 0),(.int 3 0),(.ref 406),(.bool true),(.int 181 0),(.ref 407),.none,.none,.none,(.ref 408),(.int 704 0),(.int 281 0),(.str "/claim/cut.py" 705)],#[]⟩:Obj)) ::
 (nat_lit 410,(⟨(.type "function"),none,.func (fnOf "_law_tie_due" "_law_tie_due" (qq jG) (qj jG) (qe jG) .none .none .none (.str "law_onceroad_k04_webs_made_of_one" 580) none (.ref 409) .none),#[]⟩:Obj)) ::
 (nat_lit 416,(⟨(.type "code"),none,.fields #[(.str "_law_same" 707),(.str "_law_same" 708),(.str "/claim/cut.py" 709),(.int 295 0),(.int 2 0),(.int 0 0),(.int 0 0),(.int 3 0),(.ref 411),(.bool true),(.int 181 0),(.ref 412),.none,(.ref 413),(.ref 414),(.ref 415),(.int 712 0),(.int 295 0),(.str "/claim/cut.py" 713)],#[]⟩:Obj)) ::
 (nat_lit 417,(⟨(.type "function"),none,.func (fnOf "_law_same" "_law_same" (qq qap) (qj qap) (qe qap) .none .none .none (.str "law_onceroad_k04_webs_made_of_one" 580) none (.ref 416) .none),#[]⟩:Obj)) ::
 (nat_lit 421,(⟨(.type "code"),none,.fields #[(.str "_law_some" 715),(.str "_law_some" 716),(.str "/claim/cut.py" 717),(.int 299 0),(.int 2 0),(.int 0 0),(.int 0 0),(.int 3 0),(.ref 418),(.bool true),(.int 181 0),(.ref 419),.none,.none,.none,(.ref 420),(.int 718 0),(.int 299 0),(.str "/claim/cut.py" 719)],#[]⟩:Obj)) ::
 (nat_lit 422,(⟨(.type "function"),none,.func (fnOf "_law_some" "_law_some" (qq zO) (qj zO) (qe zO) .none .none .none (.str "law_onceroad_k04_webs_made_of_one" 580) none (.ref 421) .none),#[]⟩:Obj)) ::
 (nat_lit 428,(⟨(.type "code"),none,.fields #[(.str "_law_thing" 721),(.str "_law_thing" 722),(.str "/claim/cut.py" 723),(.int 307 0),(.int 2 0),(.int 0 0),(.int 0 0),(.int 3 0),(.ref 423),(.bool true),(.int 181 0),(.ref 424),.none,(.ref 425),(.ref 426),(.ref 427),(.int 727 0),(.int 307 0),(.str "/claim/cut.py" 728)],#[]⟩:Obj)) ::
 (nat_lit 429,(⟨(.type "function"),none,.func (fnOf "_law_thing" "_law_thing" (qq zF) (qj zF) (qe zF) .none .none .none (.str "law_onceroad_k04_webs_made_of_one" 580) none (.ref 428) .none),#[]⟩:Obj)) ::
 (nat_lit 433,(⟨(.type "code"),none,.fields #[(.str "_law_told" 730),(.str "_law_told" 731),(.str "/claim/cut.py" 732),(.int 314 0),(.int 3 0),(.int 0 0),(.int 0 0),(.int 3 0),(.ref 430),(.bool true),(.int 181 0),(.ref 431),.none,.none,.none,(.ref 432),(.int 733 0),(.int 314 0),(.str "/claim/cut.py" 734)],#[]⟩:Obj)) ::
 (nat_lit 434,(⟨(.type "function"),none,.func (fnOf "_law_told" "_law_told" (qq j5) (qj j5) (qe j5) .none .none .none (.str "law_onceroad_k04_webs_made_of_one" 580) none (.ref 433) .none),#[]⟩:Obj)) ::
 (nat_lit 440,(⟨(.type "code"),none,.fields #[(.str "_law_right" 736),(.str "_law_right" 737),(.str "/claim/cut.py" 738),(.int 328 0),(.int 4 0),(.int 0 0),(.int 0 0),(.int 3 0),(.ref 435),(.bool true),(.int 181 0),(.ref 436),.none,(.ref 437),(.ref 438),(.ref 439),(.int 751 0),(.int 328 0),(.str "/claim/cut.py" 752)],#[]⟩:Obj)) ::
 (nat_lit 441,(⟨(.type "function"),none,.func (fnOf "_law_right" "_law_right" (qq zG) (qj zG) (qe zG) .none .none .none (.str "law_onceroad_k04_webs_made_of_one" 580) none (.ref 440) .none),#[]⟩:Obj)) ::
 (nat_lit 445,(⟨(.type "code"),none,.fields #[(.str "law" 754),(.str "law" 755),(.str "/claim/cut.py" 756),(.int 350 0),(.int 1 0),(.int 0 0),(.int 0 0),(.int 3 0),(.ref 442),(.bool true),(.int 181 0),(.ref 443),.none,.none,.none,(.ref 444),(.int 757 0),(.int 350 0),(.str "/claim/cut.py" 758)],#[]⟩:Obj)) ::
 (nat_lit 446,(⟨(.type "function"),none,.func (fnOf "law" "law" (qq qbt) (qj qbt) (qe qbt) .none .none .none (.str "law_onceroad_k04_webs_made_of_one" 580) none (.ref 445) .none),#[]⟩:Obj)) ::
 []
def ks:List Addr:=[2,3,34,35,37,38,54,55,57,58,73,74,76,77,92,93,95,96,111,112,114,115,130,131,133,134,140,141,154,155,161,162,168,169,175,176,182,183,196,197,203,204,210,211,217,218,224,225,231,232,236,237,241,242,248,249,255,256,260,261,263,264,274,275,281,282,288,289,295,296,302,303,309,310,316,317,323,324,330,331,335,336,342,343,349,350,354,355,359,360,364,365,371,372,378,379,385,386,392,393,399,400,404,405,409,410,416,417,421,422,428,429,433,434,440,441,445,446]
theorem ks_eq:∀ P,ks=(Kf P).map (·.1):=fun P=>by kernel_rfl
noncomputable abbrev Hk:Hook:=kHook Kf ks ks_eq
noncomputable abbrev Xt (s:Shared):Bool:=xlAt Q [] s&&recOk [] s
noncomputable def runAt (w:World) (os:OsState):=Hd.lookT PySem.Challenge.pw_onceroad_k04_webs_made_of_one Q Xt (fun s=>ks.map s.heap.get?) NN w os
noncomputable def goodAt (w:World) (_:OsState):=some (openGood Q [],(Kf w.params).map fun p=>some p.2)
def tag {α:Type} (f g:World→OsState→α):Bool:=true
theorem tag1:tag runAt goodAt=true:=by k_qdec
theorem hl1 (w:World) (os:OsState):runAt w os=goodAt w os:=by
 rw [PySem.W.Fast.te1734884359247222646,PySem.W.Fast.te3050044531695028306]
 kernel_rfl
theorem hl:LeftO PySem.Challenge.pw_onceroad_k04_webs_made_of_one Q [] Xt (Hook.obs Hk) (Hook.val Hk) NN:=Hd.left_of (by kernel_rfl) (by decide) (fun s=>by kernel_rfl) fun w os=>hl1 w os
end K04
set_option maxRecDepth 100000 in
set_option maxHeartbeats 0 in
theorem PySem.Challenge.cw_onceroad_k04_webs_made_of_one_holds : PySem.Challenge.rw_onceroad_k04_webs_made_of_one.Holds := by
  w_on; o_law
  refine PySem.W.holds_open (q := K04.Q) (loose := []) (Xt := K04.Xt) (XP := PySem.W.XL K04.Q []) (Yf := PySem.W.Hook.obs K04.Hk) (Ya := PySem.W.Hook.val K04.Hk) (YP := PySem.W.Hook.says (PySem.W.kHook K04.Kf K04.ks K04.ks_eq)) (N := K04.NN) K04.hl (PySem.W.Hook.of K04.Hk) (PySem.W.Hook.keeps K04.Hk) (fun s e => PySem.W.xl_of s (Bool.and_eq_true_iff.mp e).1) PySem.W.XL.keeps (by rfl) (by rfl) (by rfl) (fun s e => PySem.W.recFacts_of (Bool.and_eq_true_iff.mp e).2) (by rfl) (by first | assumption | decide +kernel) (by decide +kernel) ⟨rfl, rfl, rfl, rfl, rfl, by decide +kernel⟩ ?hw ?hc
  (case hw => w_witness2)
  k_fill
  refine K04.walk (l := PySem.Challenge.rw_onceroad_k04_webs_made_of_one) rfl rfl (fun w h Y => PySem.W.kIn_of Y) ?F
  case F =>
    intro w mg fa h KX G hmg
    refine' K04.all_mk KX G hmg ?_ ?_ ?_ ?_ ?_ ?_ ?_ ?_ ?_ ?_ ?_ ?_ ?_ ?_ ?_ ?_ ?_ ?_ ?_ ?_ ?_ ?_ ?_ ?_ ?_ ?_ ?_ ?_ ?_ ?_ ?_ ?_ ?_ ?_ ?_ ?_ ?_ ?_ ?_ ?_ ?_ ?_ ?_ ?_ ?_ ?_ ?_ ?_ ?_ ?_ ?_ ?_ ?_ ?_ ?_ ?_ ?_ ?_ ?_ ?_ ?_ ?_ ?_ ?_ ?_ ?_ ?_ ?_ ?_ ?_ ?_ ?_ ?_ ?_ ?_ ?_ ?_ ?_ ?_ ?_ ?_ ?_ ?_ ?_ ?_ ?_ ?_ ?_ ?_ ?_ ?_ ?_ ?_ ?_ ?_ ?_ ?_ ?_ ?_ ?_ ?_ ?_ ?_ ?_ ?_ ?_ ?_ ?_ ?_ ?_ ?_ ?_ ?_ ?_ ?_ ?_ ?_ ?_ ?_ ?_ ?_ ?_ ?_ ?_ ?_ ?_ ?_ ?_ ?_ ?_ ?_ ?_ ?_ ?_ ?_ ?_ ?_ ?_ ?_ ?_ ?_ ?_ ?_
    any_goals first | k_is | decide
    any_goals first | k_is | decide | exact ⟨_, _, by k_is, L2.fun_mk (by k_is) (by k_is) (by k_is)⟩ | exact ⟨_, _, by k_is, by k_is, L2.fun_mk (by k_is) (by k_is) (by k_is)⟩ | exact ⟨_, _, _, _, _, _, _, _, _, _, _, _, _, _, _, by k_is⟩ | exact ⟨by k_is, by k_is, by k_is, by k_is, by k_is, by k_is, by k_is, by k_is⟩ | fail
